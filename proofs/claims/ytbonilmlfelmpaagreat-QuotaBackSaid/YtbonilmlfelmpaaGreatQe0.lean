/-
  Trees by steps: plain facts: numbers from 0 to 15, what is refused; a row of steps.
-/
import Derived.Test.YtbonilmlfelmpaaGreatQbB
import Derived.Test.YtbonilmlfelmpaaGreatQc2
import Derived.Test.YtbonilmlfelmpaaGreatFlat2
namespace Go.Proofs.YtbonilmlfelmpaaGreat
open Go.RowKit

def IdsIn (n : Int) (hs : List Hd) : Prop := ∀ x ∈ hs, 0 ≤ x.id ∧ x.id < n
theorem IdsIn.nil (n : Int) : IdsIn n [] := fun _ h => by cases h
theorem IdsIn.set {n : Int} {hs : List Hd} (h : IdsIn n hs) {j : Nat} {y : Hd} (hy : 0 ≤ y.id ∧ y.id < n) : IdsIn n (hs.set j y) := fun z hz => by
  rcases mem_set_cases hz with q | q
  · exact h z q
  · subst q; exact hy
theorem IdsIn.snoc {n : Int} {hs : List Hd} (h : IdsIn n hs) {y : Hd} (hy : 0 ≤ y.id ∧ y.id < n) : IdsIn n (hs ++ [y]) := fun z hz => by
  rcases List.mem_append.mp hz with q | q
  · exact h z q
  · simp at q; subst q; exact hy
theorem IdsIn.erase {n : Int} {hs : List Hd} (h : IdsIn n hs) (j : Nat) : IdsIn n (hs.eraseIdx j) := fun z hz => h z (List.mem_of_mem_eraseIdx hz)
/-- numbers of their own below n: at most n -/
theorem ids_len : ∀ (n : Nat) (hs : List Hd), UniqH hs → IdsIn (n : Int) hs → hs.length ≤ n := by
  intro n
  induction n with
  | zero =>
    intro hs _ h
    cases hs with
    | nil => simp
    | cons x l => have := h x (List.mem_cons_self ..); omega
  | succ n ih =>
    intro hs u h
    cases hf : findH hs (n : Int) with
    | none =>
      have hn := findH_none hf
      have := ih hs u (fun x hx => by have h1 := h x hx; have h2 := hn x hx; omega)
      omega
    | some j =>
      obtain ⟨x, hj, hx⟩ := findH_some hf
      have hl : j < hs.length := by
        rcases Nat.lt_or_ge j hs.length with q | q
        · exact q
        · rw [List.getElem?_eq_none q] at hj; cases hj
      have := ih (hs.eraseIdx j) (u.erase j) (fun z hz => by
        have h1 := h z (List.mem_of_mem_eraseIdx hz)
        have h2 : z.id ≠ (n : Int) := fun e => by
          obtain ⟨i, hi⟩ := List.getElem?_of_mem hz
          have := u _ _ z x (erase_at hi) hj (by rw [e, hx])
          split at this <;> omega
        omega)
      rw [List.length_eraseIdx_of_lt hl] at this
      omega
def IdsQ (n : Int) (hs : List Hq) : Prop := ∀ q ∈ hs, 0 ≤ q.h.id ∧ q.h.id < n
theorem IdsQ.nil (n : Int) : IdsQ n [] := fun _ h => by cases h
theorem IdsQ.set {n : Int} {hs : List Hq} (h : IdsQ n hs) {j : Nat} {y : Hq} (hy : 0 ≤ y.h.id ∧ y.h.id < n) : IdsQ n (hs.set j y) := fun z hz => by
  rcases List.mem_or_eq_of_mem_set hz with q | q
  · exact h z q
  · subst q; exact hy
theorem IdsQ.snoc {n : Int} {hs : List Hq} (h : IdsQ n hs) {y : Hq} (hy : 0 ≤ y.h.id ∧ y.h.id < n) : IdsQ n (hs ++ [y]) := fun z hz => by
  rcases List.mem_append.mp hz with q | q
  · exact h z q
  · simp at q; subst q; exact hy
theorem IdsQ.erase {n : Int} {hs : List Hq} (h : IdsQ n hs) (j : Nat) : IdsQ n (hs.eraseIdx j) := fun z hz => h z (List.mem_of_mem_eraseIdx hz)
theorem idsq_len (n : Nat) {hs : List Hq} (u : UniqH (lst hs)) (h : IdsQ (n : Int) hs) : hs.length ≤ n := by
  rw [← lst_len]
  exact ids_len n (lst hs) u (fun x hx => by obtain ⟨q, hq, rfl⟩ := List.mem_map.mp hx; exact h q hq)
theorem joinq_in {S : List Sv} {N D n : Int} {hs : List Hq} {id s E P : Int} (h : IdsQ n hs) (hi : 0 ≤ id ∧ id < n) : IdsQ n (joinQ S N D hs id s E P).2 := by
  unfold joinQ
  (repeat' split) <;> first | exact h | exact h.snoc hi
theorem askq_in {S : List Sv} {N D n : Int} {hs : List Hq} {id E P : Int} (h : IdsQ n hs) : IdsQ n (askQ S N D hs id E P).2 := by
  unfold askQ
  split
  · exact h
  · split
    · exact h
    · split
      · exact h
      · rename_i x hx
        have := h x (List.mem_of_getElem? hx)
        (repeat' split) <;> first | exact h | exact h.set this
theorem settleq_in {n : Int} {hs : List Hq} {id : Int} (h : IdsQ n hs) (hi : 0 ≤ id ∧ id < n) : IdsQ n (settleQ hs id).2 := by
  unfold settleQ
  (repeat' split) <;> first | exact h | exact h.set hi
theorem freeq_in {n : Int} {hs : List Hq} {id : Int} (h : IdsQ n hs) : IdsQ n (freeQ hs id).2 := by
  unfold freeQ
  (repeat' split) <;> first | exact h | exact h.erase _
/-- what is refused changes nothing -/
theorem joinq_refused (S : List Sv) (N D : Int) (hs : List Hq) (id s E P : Int) : (joinQ S N D hs id s E P).1 = 0 ∨ (joinQ S N D hs id s E P).2 = hs := by
  unfold joinQ; (repeat' split) <;> first | exact .inl rfl | exact .inr rfl
theorem askq_refused (S : List Sv) (N D : Int) (hs : List Hq) (id E P : Int) : (askQ S N D hs id E P).1 = 0 ∨ (askQ S N D hs id E P).2 = hs := by
  unfold askQ; (repeat' split) <;> first | exact .inl rfl | exact .inr rfl
theorem settleq_refused (hs : List Hq) (id : Int) : (settleQ hs id).1 = 0 ∨ (settleQ hs id).2 = hs := by
  unfold settleQ; (repeat' split) <;> first | exact .inl rfl | exact .inr rfl
theorem freeq_refused (hs : List Hq) (id : Int) : (freeQ hs id).1 = 0 ∨ (freeQ hs id).2 = hs := by
  unfold freeQ; (repeat' split) <;> first | exact .inl rfl | exact .inr rfl
theorem held_within {n d sN sD N D : Int} (hs0 : 0 < sD) (hd : 0 < d) (he : n * sD = sN * d) (hf : sN * D ≤ N * sD) : n * D ≤ N * d := by
  refine Int.le_of_mul_le_mul_right ?_ hs0
  have h1 := Int.mul_le_mul_of_nonneg_right hf (show 0 ≤ d by omega)
  have e1 : n * D * sD = (sN * D) * d := by grind
  have e2 : N * d * sD = (N * sD) * d := by grind
  omega
theorem cmp_within {a b : Int} (h : a ≤ b) : decide (0 < cmpI a b) = false := by
  unfold cmpI
  by_cases q : a < b
  · rw [if_pos q]; rfl
  · rw [if_neg q, if_neg (by omega)]; rfl
/-! ### a row of steps: five numbers each -/
theorem steps5_at {w : World} {a : Option Addr} {len cap : Nat} {rs : List (List Value)} (h : RowF w a len cap 5 rs) (g : ∀ r ∈ rs, Fit [.int .i64, .int .i64, .int .i64, .int .i64, .int .i64] r) {i : Nat} (hi : i < len) :
    ∃ b off k id s p q, a = some ⟨b, off, none⟩ ∧ w.cell? ⟨b, off + i * 5, none⟩ = some (.int .i64 k) ∧ w.cell? ⟨b, off + i * 5 + 1, none⟩ = some (.int .i64 id) ∧ w.cell? ⟨b, off + i * 5 + 2, none⟩ = some (.int .i64 s) ∧ w.cell? ⟨b, off + i * 5 + 3, none⟩ = some (.int .i64 p) ∧ w.cell? ⟨b, off + i * 5 + 4, none⟩ = some (.int .i64 q) ∧ (Lit.int .i64 s).wf = true := by
  have hn : rs.length = len := h.1
  obtain ⟨b, off, ha, hc⟩ := h.2.2.2.2 i hi
  obtain ⟨r, hr⟩ : ∃ r, rs.getD i [] = r := ⟨_, rfl⟩
  have hm : r ∈ rs := by
    rw [← hr, List.getD_eq_getElem?_getD, List.getElem?_eq_getElem (by omega)]
    exact List.getElem_mem _
  have gr := g r hm
  rw [hr] at hc
  obtain ⟨k, r1, rfl, _, g1⟩ := gr.int
  obtain ⟨id, r2, rfl, _, g2⟩ := g1.int
  obtain ⟨s, r3, rfl, hs, g3⟩ := g2.int
  obtain ⟨p, r4, rfl, _, g4⟩ := g3.int
  obtain ⟨q, r5, rfl, _, g5⟩ := g4.int
  exact ⟨b, off, k, id, s, p, q, ha, hc 0 (by omega), hc 1 (by omega), hc 2 (by omega), hc 3 (by omega), hc 4 (by omega), hs⟩
theorem mask7 (x : Int) : 0 ≤ bits .and .i64 x 7 ∧ bits .and .i64 x 7 ≤ 7 := mask_le x 7 (by omega) (by omega)
theorem mask15 (x : Int) : 0 ≤ bits .and .i64 x 15 ∧ bits .and .i64 x 15 ≤ 15 := mask_le x 15 (by omega) (by omega)
theorem mask3 (x : Int) : 0 ≤ bits .and .i64 x 3 ∧ bits .and .i64 x 3 ≤ 3 := mask_le x 3 (by omega) (by omega)
theorem cell_on {w w2 : World} {p : Addr} {v : Value} (hb : Below w.heap.size w w2) (h : w.cell? p = some v) : w2.cell? p = some v := (hb.cell (World.block_lt_of_cell? _ _ h)).trans h
theorem Keeps.more {F G : Nat → Prop} {w w' : World} (h : Keeps F w w') (k : ∀ x, F x → G x) : Keeps G w w' := ⟨h.os, h.tape, h.output, h.size, fun x hx hg => h.block x hx (fun q => hg (k x q))⟩
theorem Holds.less {G G' : Nat → Prop} {w w' : World} (h : Holds G w w') (k : ∀ x, G' x → G x) : Holds G' w w' := ⟨h.size, fun x q => h.block x (k x q)⟩
/-- the blocks from b0 to b1 -/
def Rng (b0 b1 : Nat) : Nat → Prop := fun k => b0 ≤ k ∧ k < b1
theorem Row.rng {k : IntKind} {W W' : World} {a : Option Addr} {len cap : Nat} {zs : List Int} {b0 b1 : Nat} (h : Row k W a len cap zs) (hf : Fresh b0 a) (hl : W.heap.size ≤ b1) (hh : Holds (Rng b0 b1) W W') : Row k W' a len cap zs := by
  refine ⟨h.1, h.2.1, h.2.2.1, h.2.2.2.1, fun i hi => ?_⟩
  obtain ⟨b, off, ha, hc⟩ := h.2.2.2.2 i hi
  have hlt := World.block_lt_of_cell? _ _ hc
  exact ⟨b, off, ha, (World.cell?_of_block (w := W) (a := ⟨b, off + i, none⟩) (hh.block b ⟨hf _ ha, Nat.lt_of_lt_of_le hlt hl⟩)).trans hc⟩
/-- a ratio whose numbers lie there -/
theorem Rat.rng {W W' : World} {L : Nat} {v : Value} {n d : Int} {b0 b1 : Nat} (h : Rat W b0 L v n d) (hl : W.heap.size ≤ b1) (hh : Holds (Rng b0 b1) W W') : Rat W' b0 L v n d := by
  obtain ⟨an, ln, cn, zn, ad, ld, cd, zd, rfl, h1, h2, h3, h4, h5, h6, h7, h8⟩ := h
  exact ⟨an, ln, cn, zn, ad, ld, cd, zd, rfl, h1.rng h7 hl hh, h2, h3.rng h8 hl hh, h4, h5, h6, h7, h8⟩
/-- what a place holds: few limbs -/
theorem heldQ_bd {S : List Sv} {N D : Int} {hs : List Hq} (g : GoodQ S N D hs) (hl : hs.length ≤ 20) (x : Int) : 0 ≤ (heldQ S x hs).1 ∧ (heldQ S x hs).1 < 4294967296 ^ 14 ∧ 0 < (heldQ S x hs).2 ∧ (heldQ S x hs).2 < 4294967296 ^ 14 := by
  unfold heldQ
  split
  · exact sumH_bd (fun y hy => by obtain ⟨q, hq, rfl⟩ := listAt_sub S x hs y hy; exact g.each q hq) (Nat.le_trans (listAt_len S x hs) hl)
  · decide
end Go.Proofs.YtbonilmlfelmpaaGreat
