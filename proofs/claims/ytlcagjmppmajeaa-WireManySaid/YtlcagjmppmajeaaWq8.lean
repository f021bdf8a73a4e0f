/-
  A range over a closure whose body changes some blocks alone: the iterator gives all; what it reads between two rounds lies apart of these blocks.
-/
import Derived.Test.YtlcagjmppmajeaaSep
import Derived.RangeFuncWrites
import Derived.RangeFuncCalls
import Derived.WalkKit
import Derived.OwnWalkIn
import Derived.TacticsInMore
import Derived.LoopNIn
import Derived.LoopIn
import Derived.Maps.OwnIn
import Derived.Shelf.Abstract
import Derived.Shelf.RegionOpen
namespace Go.Proofs.Ytlcagjmppmajeaa
open Go.RowKit
variable {n : Nat} {P : Program}

theorem room_of_none {F : Fence} (hd : F.depth = none) (k : Nat) : F.room k := fun d h => by rw [hd] at h; cases h
theorem roundIn_any {F : Fence} (hd : F.depth = none) {m m' : Nat} {P : Program} {l : Nat} {f : FuncId} {tmps : Array Value} {assign body : Code} {w : World} {R : Ending → World → Prop}
    (h : RoundIn F m P l f tmps assign body w R) : RoundIn F m' P l f tmps assign body w R := ⟨h.1, fun c cs _ => h.2 c cs (room_of_none hd _)⟩
theorem yieldAt_any {m : Nat} (m' : Nat) {P : Program} {l : Nat} {args : Array Value} {W : World} {R : Ending → World → Prop} (h : YieldAt Fence.wide m P l args W R) : YieldAt Fence.wide m' P l args W R := by
  obtain ⟨fn, tmps, assign, body, hy, hR⟩ := h
  exact ⟨fn, tmps, assign, body, hy, roundIn_any rfl hR⟩
/-- what a round hands back -/
def RoundM {α : Type} (J : (Nat → Prop) → List α → World → Prop) (F : Nat → Prop) (xs : List α) (W : World) (e : Ending) (W' : World) : Prop := e = .returned (.bool true) ∧ ∃ F', J F' xs W' ∧ Moves F F' W W'
/-- called with a body, the closure gives the body all of a list; what the body may change stands by Ap -/
def GivesM {α : Type} (n : Nat) (P : Program) (g : Nat) (cp : Array Value) (encs : α → Array Value) (all : List α) (Ap : (Nat → Prop) → Prop) (w : World) : Prop :=
  ∀ (l : Nat) (J : (Nat → Prop) → List α → World → Prop) (W : World) (F0 : Nat → Prop), Below w.heap.size w W → Ap F0 → Lies F0 W →
    (∀ F pre A B, J F pre A → Below A.heap.size A B → J F pre B) →
    (∀ F pre x W1, J F pre W1 → pre.length < 1000 → x ∈ all → YieldAt Fence.wide 0 P l (encs x) W1 (RoundM J F (pre ++ [x]) W1)) →
    J F0 [] W →
    CallsIn Fence.wide n P g (#[.func (.yield l) #[] #[]] ++ cp) W fun e W' => (∃ v, e = .returned v) ∧ ∃ F', J F' all W' ∧ Moves F0 F' W W'
/-- cells are as they were, and so is all below N -/
structure KeepsC (N : Nat) (A B : World) : Prop where
  os : B.os = A.os
  tape : B.tape = A.tape
  output : B.output = A.output
  size : A.heap.size ≤ B.heap.size
  block : ∀ k x, A.heap[k]? = some x → k < N ∨ x.isCells = true → B.heap[k]? = some x
theorem KeepsC.of_below {N : Nat} {A B : World} (h : Below A.heap.size A B) : KeepsC N A B := ⟨h.os, h.tape, h.output, h.size, fun k _ hk _ => (h.block k (Array.getElem?_eq_some_iff.1 hk).1).trans hk⟩
theorem KeepsC.put {N L : Nat} {A : World} {o o' : Obj} (h : A.heap[L]? = some o) (hc : o.isCells = false) (hL : N ≤ L) : KeepsC N A (A.putObj L o') := by
  have g := grownBy_putObj' A L o'
  refine ⟨g.os, g.tape, g.output, g.size, fun k x hk hor => ?_⟩
  by_cases e : k = L
  · subst e
    rw [h] at hk
    cases hk
    rcases hor with q | q
    · omega
    · rw [hc] at q; cases q
  · exact (World.putObj_heap_other e).trans hk
theorem Keeps.keepsC {F : Nat → Prop} {w A B : World} {N : Nat} (h : Keeps F w A) (k : KeepsC N A B) (hN : w.heap.size ≤ N) : Keeps F w B :=
  ⟨k.os.trans h.os, k.tape.trans h.tape, k.output.trans h.output, Nat.le_trans h.size k.size, fun x hx hf => by
    have h1 := h.block x hx hf
    have h2 : w.heap[x]? = some w.heap[x] := Array.getElem?_eq_getElem hx
    rw [h2] at h1 ⊢
    exact k.block x _ h1 (.inl (by omega))⟩
theorem Blk.keepsC {N : Nat} {A B : World} {T : TypeId} {g : Nat} {cs : Array Value} (h : Blk A T g cs) (k : KeepsC N A B) : Blk B T g cs := k.block g _ h (.inr rfl)
theorem owns_keepsC {N : Nat} {A B : World} {base : Nat} {e : TypeId} {size : Nat} {v : Value} {n : Nat} {xs : List Value} (h : A.ownsRow base e size v n xs) (k : KeepsC N A B) : B.ownsRow base e size v n xs := by
  refine ⟨h.1, ?_⟩
  rcases h.2 with hn | ⟨g, cap, cur, hv, hbg, hg, h1, h2, h3, h4⟩
  · exact .inl hn
  · exact .inr ⟨g, cap, cur, hv, hbg, k.block g _ hg (.inr rfl), h1, h2, h3, h4⟩
/-- what a round leaves: it goes on -/
def roundPostM {α : Type} (I : (Nat → Prop) → List α → World → Prop) (F : Nat → Prop) (xs : List α) (W : World) : Exit → Act → World → Prop
  | .normal, _, W' => KeepsOthers W W' ∧ ∃ F', I F' xs W' ∧ Moves F F' W W'
  | _, _, _ => False
theorem rangeFunc_moves {α : Type} {g : Operand} {ps : Array Tmp} {assign body : Code} {Q : Exit → Act → World → Prop} {a : Act} {w : World}
    (h1 : 1 ≤ n) {gf : Nat} {cp : Array Value} (hg : a.eval g = .func (.func gf) #[] cp) (eg : ∀ args w, (callFunc gf args).run P w = .ok (.enter gf args) w)
    {encs : α → Array Value} {all : List α} {Ap : (Nat → Prop) → Prop} {w0 : World} (hseq : GivesM (n - 1) P gf cp encs all Ap w0) (hb0 : Below w0.heap.size w0 w) (hps : ∀ x, (encs x).size = ps.size)
    (I : (Nat → Prop) → List α → World → Prop) (hI : ∀ F pre A B, I F pre A → KeepsC w.heap.size A B → I F pre B) (F0 : Nat → Prop) (hAp : Ap F0) (hF : ∀ k, F0 k → k < w.heap.size) (h0 : I F0 [] w) (a₁ : α → Act)
    (hassign : ∀ (l : Nat) (x : α) (W : World) (K : Act → World → Prop), K (a₁ x) W →
      assign.wpIn (Fence.wide.inRound l) (n - 1 - 1) P (Exit.then K (fun _ _ _ => False)) { tmps := (ps.zip (encs x)).foldl (fun t (p, v) => t.setIfInBounds p v) a.tmps, defers := [] } W)
    (hbody : ∀ (l : Nat) (F : Nat → Prop) (pre : List α) (x : α) (W : World), I F pre W → pre.length < 1000 → x ∈ all → body.wpIn (Fence.wide.inRound l) (n - 1 - 1) P (roundPostM I F (pre ++ [x]) W) (a₁ x) W)
    (hdone : ∀ (D : Nat) (F : Nat → Prop) (W : World), w.heap.size ≤ D → I F all W → W.heap[D]? = some (.deferred (some [])) → Q .normal { a with defers := { target := .collected D, args := #[] } :: a.defers } W) :
    (Code.rangeFunc g ps assign body).wpIn Fence.wide n P Q a w := by
  refine wpIn_rangeFunc fun fn hfn => ?_
  let rec' : LoopState → Loop := fun st => { state := st, pending := none, fn, tmps := a.tmps, params := ps, assign, body, defers := w.heap.size }
  have hrec : ∀ st, rec' st = { state := st, pending := none, fn, tmps := a.tmps, params := ps, assign, body, defers := w.heap.size } := fun _ => rfl
  let W1 := (w.alloc (.deferred (some []))).alloc (.loop (rec' .ready))
  have hsz : W1.heap.size = w.heap.size + 1 + 1 := by simp [W1]
  have hL1 : W1.heap[w.heap.size + 1]? = some (.loop (rec' .ready)) := by
    have := World.alloc_heap_new (w.alloc (.deferred (some []))) (.loop (rec' .ready))
    rwa [World.size_alloc] at this
  have hK1 : W1.heap[w.heap.size]? = some (.deferred (some [])) := (Below.heap_alloc _ _ _ (by simp)).trans (World.alloc_heap_new w _)
  have hI1 : I F0 [] W1 := hI _ _ _ _ h0 (KeepsC.of_below (wbox2 w _ _))
  have hb1 : Below w0.heap.size w0 W1 := hb0.trans ((((Below.refl _ w).alloc (Nat.le_refl _) _).alloc (by simp) _).mono hb0.size)
  refine ⟨w.heap.size + 1, [{ target := .collected w.heap.size, args := #[] }], W1, { target := .fn (.func gf) cp, args := #[.func (.yield (w.heap.size + 1)) #[] #[]] }, W1, gf, #[.func (.yield (w.heap.size + 1)) #[] #[]] ++ cp, W1, run_enterLoop_outer _ _ _ _ _, ?_, ?_, ?_, fun _ => h1, ?_⟩
  · simp only [resolve, hg]
    simp [go_sem]
  · intro f' hf'
    trivial
  · simp [invoke, go_sem, eg]
  · refine (hseq (w.heap.size + 1) (fun F pre W => I F pre W ∧ W.heap[w.heap.size + 1]? = some (.loop (rec' .ready)) ∧ W.heap[w.heap.size]? = some (.deferred (some [])) ∧ ¬ F (w.heap.size + 1) ∧ ¬ F w.heap.size) W1 F0 hb1 hAp (fun k q => by have := hF k q; omega) ?_ ?_ ⟨hI1, hL1, hK1, fun h => by have := hF _ h; omega, fun h => by have := hF _ h; omega⟩).mono ?_
    · rintro F pre A B ⟨q1, q2, q3, q4, q5⟩ hb
      exact ⟨hI _ _ _ _ q1 (KeepsC.of_below hb), (hb.block _ (Array.getElem?_eq_some_iff.1 q2).1).trans q2, (hb.block _ (Array.getElem?_eq_some_iff.1 q3).1).trans q3, q4, q5⟩
    · rintro F pre x W ⟨hi, hl, hk, nl, nd⟩ hlen hmem
      have hlt : w.heap.size + 1 < W.heap.size := (Array.getElem?_eq_some_iff.1 hl).1
      have hy := run_yield (P := P) (args := encs x) hl (hps x)
      refine yieldAt_any (m := n - 1 - 1) 0 ⟨fn, _, assign, body, hy, roundIn_of_wpIn hfn (hassign _ x W _ ⟨_, run_beginRound hl rfl, ?_⟩)⟩
      let W2 := W.putObj (w.heap.size + 1) (.loop { rec' .ready with state := .busy })
      have hl2 : W2.heap[w.heap.size + 1]? = some (.loop { rec' .ready with state := .busy }) := World.putObj_heap_same hlt
      have hk2 : W2.heap[w.heap.size]? = some (.deferred (some [])) := (World.putObj_heap_other (by omega)).trans hk
      have g2 := grownBy_putObj' W (w.heap.size + 1) (.loop { rec' .ready with state := .busy })
      have hs2 : W2.heap.size = W.heap.size := by simp [W2]
      refine wpIn_mono (hbody _ F pre x W2 (hI _ _ _ _ hi (KeepsC.put hl rfl (by omega))) hlen hmem) ?_
      rintro e a3 W3 hp
      cases e with
      | normal =>
        obtain ⟨hk3, F', hi3, hm⟩ := hp
        have hl3 := hk3.same _ _ hl2 rfl
        have hd3 := hk3.same _ _ hk2 rfl
        have g3 := grownBy_putObj' W3 (w.heap.size + 1) (.loop (rec' .ready))
        have hs3 : (W3.putObj (w.heap.size + 1) (.loop (rec' .ready))).heap.size = W3.heap.size := by simp
        have hfin : (W3.putObj (w.heap.size + 1) (.loop (rec' .ready))).heap[w.heap.size + 1]? = some (.loop (rec' .ready)) := World.putObj_heap_same (Array.getElem?_eq_some_iff.1 hl3).1
        have nl' : ¬ F' (w.heap.size + 1) := fun q => by
          rcases hm.grow _ q with q | q
          · exact nl q
          · omega
        have nd' : ¬ F' w.heap.size := fun q => by
          rcases hm.grow _ q with q | q
          · exact nd q
          · omega
        refine ⟨_, _, run_endRound (P := P) none hl3, rfl, F', ⟨hI _ _ _ _ hi3 (KeepsC.put hl3 rfl (by omega)), hfin, (World.putObj_heap_other (by omega)).trans hd3, nl', nd'⟩, ⟨⟨?_, ?_, ?_, ?_, ?_⟩, ?_, ?_⟩⟩
        · exact g3.os.trans (hm.keeps.os.trans g2.os)
        · exact g3.tape.trans (hm.keeps.tape.trans g2.tape)
        · exact g3.output.trans (hm.keeps.output.trans g2.output)
        · exact Nat.le_trans (Nat.le_of_eq hs2.symm) (Nat.le_trans hm.keeps.size (Nat.le_of_eq hs3.symm))
        · intro k hk' hfk
          by_cases e : k = w.heap.size + 1
          · subst e; exact hfin.trans hl.symm
          · exact (World.putObj_heap_other e).trans ((hm.keeps.block k (by rw [hs2]; exact hk') hfk).trans (World.putObj_heap_other e))
        · intro k q
          rcases hm.grow k q with z | z
          · exact .inl z
          · exact .inr (by omega)
        · intro k q
          have := hm.lt k q
          exact Nat.lt_of_lt_of_le this (Nat.le_of_eq hs3.symm)
      | ret => exact hp.elim
      | exit id => exact hp.elim
      | goto t => exact hp.elim
      | panic ch => exact hp.elim
      | outgrown => exact hp.elim
    · rintro e W2 ⟨⟨v, rfl⟩, F', ⟨hi, hl, hk, _, _⟩, _⟩
      exact ⟨none, _, run_endLoop (P := P) hl (by simp [hrec]), hdone _ F' _ (Nat.le_refl _) (hI _ _ _ _ hi (KeepsC.put hl rfl (by omega))) ((World.putObj_heap_other (by omega)).trans hk)⟩
end Go.Proofs.Ytlcagjmppmajeaa
