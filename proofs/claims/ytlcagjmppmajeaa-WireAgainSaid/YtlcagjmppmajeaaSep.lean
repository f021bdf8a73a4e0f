/-
  What a call may change: the blocks of a set, and new memory. What lies apart of the set is as it was. No function of the program in sight.
-/
import Derived.Test.YtlcagjmppmajeaaFr
import Derived.Test.YtlcagjmppmajeaaWin3
namespace Go.Proofs.Ytlcagjmppmajeaa
open Go.RowKit

/-- all but the blocks of F is as it was -/
structure Keeps (F : Nat → Prop) (w w' : World) : Prop where
  os : w'.os = w.os
  tape : w'.tape = w.tape
  output : w'.output = w.output
  size : w.heap.size ≤ w'.heap.size
  block : ∀ k, k < w.heap.size → ¬ F k → w'.heap[k]? = w.heap[k]?
/-- what lay in F lies in F' now: a part of F, and new memory -/
structure Moves (F F' : Nat → Prop) (w w' : World) : Prop where
  keeps : Keeps F w w'
  grow : ∀ k, F' k → F k ∨ w.heap.size ≤ k
  lt : ∀ k, F' k → k < w'.heap.size
def Apart (F G : Nat → Prop) : Prop := ∀ k, F k → ¬ G k
/-- all of it is there -/
def Lies (F : Nat → Prop) (w : World) : Prop := ∀ k, F k → k < w.heap.size
/-- all of it is new -/
def From (F : Nat → Prop) (n : Nat) : Prop := ∀ k, F k → n ≤ k

theorem Apart.symm {F G : Nat → Prop} (h : Apart F G) : Apart G F := fun k hg hf => h k hf hg
theorem Keeps.of {F : Nat → Prop} {w w' : World} (h : Below w.heap.size w w') : Keeps F w w' := ⟨h.os, h.tape, h.output, h.size, fun k hk _ => h.block k hk⟩
theorem Keeps.refl (F : Nat → Prop) (w : World) : Keeps F w w := Keeps.of (Below.refl _ _)
theorem Keeps.trans {F G : Nat → Prop} {a b c : World} (h : Keeps F a b) (k : Keeps G b c) (hg : ∀ x, G x → F x ∨ a.heap.size ≤ x) : Keeps F a c :=
  ⟨k.os.trans h.os, k.tape.trans h.tape, k.output.trans h.output, Nat.le_trans h.size k.size, fun x hx hf => (k.block x (Nat.lt_of_lt_of_le hx h.size) (fun g => by rcases hg x g with q | q; exact hf q; omega)).trans (h.block x hx hf)⟩
theorem Keeps.next {F : Nat → Prop} {a b c : World} (h : Keeps F a b) (k : Below b.heap.size b c) : Keeps F a c := h.trans (Keeps.of (F := F) k) (fun _ g => .inl g)
theorem Keeps.drew {F : Nat → Prop} {a b : World} (h : Keeps F a b) : Keeps F a b.drew := h.next ((Below.refl _ _).drew)
theorem Keeps.alloc {F : Nat → Prop} {a b : World} (h : Keeps F a b) (o : Obj) : Keeps F a (b.alloc o) := h.next (wbox _ _)
theorem Keeps.set {F : Nat → Prop} {a w : World} (h : Keeps F a w) {g : Nat} (hg : F g ∨ a.heap.size ≤ g) (j : Nat) (v : Value) : Keeps F a (w.setCell ⟨g, j, none⟩ v) :=
  ⟨h.os, h.tape, h.output, by simpa using h.size, fun k hk hf => (Below.heap_setCell w ⟨g, j, none⟩ v k (fun e => by subst e; rcases hg with q | q; exact hf q; exact absurd hk (by simpa using q))).trans (h.block k hk hf)⟩
theorem Keeps.grown {F : Nat → Prop} {a w w' : World} {row : Option Nat} (h : Keeps F a w) (hg : w.grownBy w' row) (hr : ∀ k, row = some k → F k ∨ a.heap.size ≤ k) : Keeps F a w' :=
  ⟨hg.os.trans h.os, hg.tape.trans h.tape, hg.output.trans h.output, Nat.le_trans h.size hg.size, fun k hk hf => (hg.block k (Nat.lt_of_lt_of_le hk h.size) (fun e => by rcases hr k e.symm with q | q; exact hf q; omega)).trans (h.block k hk hf)⟩
theorem Keeps.below {F : Nat → Prop} {n : Nat} {w a b : World} (h : Keeps F a b) (hb : Below n w a) (hF : From F n) (hn : n ≤ a.heap.size) : Below n w b :=
  hb.trans ⟨h.os, h.tape, h.output, h.size, fun k hk => h.block k (by omega) (fun e => by have := hF k e; omega)⟩
theorem Blk.keeps {F : Nat → Prop} {W W' : World} {T : TypeId} {g : Nat} {cs : Array Value} (h : Blk W T g cs) (k : Keeps F W W') (hg : ¬ F g) : Blk W' T g cs := (k.block g h.lt hg).trans h
theorem owns_keeps {F : Nat → Prop} {w w' : World} {base : Nat} {e : TypeId} {size : Nat} {v : Value} {n : Nat} {xs : List Value} (h : w.ownsRow base e size v n xs) (k : Keeps F w w') (hF : ∀ g, v.ownBlock = some g → ¬ F g) : w'.ownsRow base e size v n xs := by
  refine ⟨h.1, ?_⟩
  rcases h.2 with hn | ⟨g, cap, cur, hv, hbg, hg, h1, h2, h3, h4⟩
  · exact .inl hn
  · subst hv
    exact .inr ⟨g, cap, cur, rfl, hbg, by rw [k.block g (h.lt g rfl).2 (hF g rfl)]; exact hg, h1, h2, h3, h4⟩
theorem RowF.keeps {F : Nat → Prop} {W W' : World} {a : Option Addr} {len cap c : Nat} {rs : List (List Value)} (h : RowF W a len cap c rs) (hw : Wide c rs) (hc : 0 < c) (k : Keeps F W W') (hF : ∀ ad : Addr, a = some ad → ¬ F ad.block) : RowF W' a len cap c rs := by
  refine ⟨h.1, h.2.1, h.2.2.1, h.2.2.2.1, fun i hi => ?_⟩
  obtain ⟨b, off, ha, hcell⟩ := h.2.2.2.2 i hi
  have h0 := hcell 0 hc
  have hl := hw.getD (show i < rs.length by rw [h.1]; exact hi)
  rw [List.getElem?_eq_getElem (by omega)] at h0
  have hlt := World.block_lt_of_cell? _ _ h0
  refine ⟨b, off, ha, fun j hj => ?_⟩
  exact (World.cell?_of_block (w := W) (a := ⟨b, off + i * c + j, none⟩) (show W'.heap[b]? = W.heap[b]? from k.block b hlt (hF ⟨b, off, none⟩ ha))).trans (hcell j hj)
theorem Moves.of {F : Nat → Prop} {w w' : World} (h : Below w.heap.size w w') (hl : Lies F w) : Moves F F w w' := ⟨Keeps.of h, fun _ q => .inl q, fun k q => Nat.lt_of_lt_of_le (hl k q) h.size⟩
theorem Moves.refl {F : Nat → Prop} {w : World} (hl : Lies F w) : Moves F F w w := Moves.of (Below.refl _ _) hl
theorem Moves.trans {F G H : Nat → Prop} {a b c : World} (h : Moves F G a b) (k : Moves G H b c) : Moves F H a c :=
  ⟨h.keeps.trans k.keeps h.grow, fun x q => by
    rcases k.grow x q with g | g
    · exact h.grow x g
    · exact .inr (Nat.le_trans h.keeps.size g), k.lt⟩
theorem Moves.next {F G : Nat → Prop} {a b c : World} (h : Moves F G a b) (k : Below b.heap.size b c) : Moves F G a c := ⟨h.keeps.next k, h.grow, fun x q => Nat.lt_of_lt_of_le (h.lt x q) k.size⟩
/-- what lies apart stays apart -/
theorem Apart.moves {F F' G : Nat → Prop} {w w' : World} (h : Apart F G) (m : Moves F F' w w') (hG : Lies G w) : Apart F' G := fun k q g => by
  rcases m.grow k q with f | f
  · exact h k f g
  · have := hG k g; omega
theorem Lies.next {F : Nat → Prop} {w w' : World} (h : Lies F w) (k : w.heap.size ≤ w'.heap.size) : Lies F w' := fun x q => Nat.lt_of_lt_of_le (h x q) k
theorem From.moves {F F' : Nat → Prop} {n : Nat} {w w' : World} (h : From F n) (m : Moves F F' w w') (hn : n ≤ w.heap.size) : From F' n := fun k q => by
  rcases m.grow k q with f | f
  · exact h k f
  · omega
end Go.Proofs.Ytlcagjmppmajeaa
