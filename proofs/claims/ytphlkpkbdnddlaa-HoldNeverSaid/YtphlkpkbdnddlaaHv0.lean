/-
  Ledgers by steps: plain facts: numbers from 0 to 15, what is refused; a row of steps.
-/
import Derived.Test.YtphlkpkbdnddlaaHl1
import Derived.Test.YtphlkpkbdnddlaaFlat2
namespace Go.Proofs.Ytphlkpkbdnddlaa
open Go.RowKit

def IdsIn (n : Int) (hs : List Hd) : Prop := ∀ x ∈ hs, 0 ≤ x.id ∧ x.id < n
theorem IdsIn.nil (n : Int) : IdsIn n [] := fun _ h => by cases h
theorem IdsIn.set {n : Int} {hs : List Hd} (h : IdsIn n hs) {j : Nat} {y : Hd} (hy : 0 ≤ y.id ∧ y.id < n) : IdsIn n (hs.set j y) := fun z hz => by
  rcases mem_set_cases hz with q | q
  · exact h z q
  · subst q; exact hy
theorem IdsIn.snoc {n : Int} {hs : List Hd} (h : IdsIn n hs) {y : Hd} (hy : 0 ≤ y.id ∧ y.id < n) : IdsIn n (hs ++ [y]) := fun z hz => by
  rcases List.mem_append.mp hz with q | q
  · exact h z q
  · simp at q; subst q; exact hy
theorem IdsIn.erase {n : Int} {hs : List Hd} (h : IdsIn n hs) (j : Nat) : IdsIn n (hs.eraseIdx j) := fun z hz => h z (List.mem_of_mem_eraseIdx hz)
/-- numbers of their own below n: at most n -/
theorem ids_len : ∀ (n : Nat) (hs : List Hd), UniqH hs → IdsIn (n : Int) hs → hs.length ≤ n := by
  intro n
  induction n with
  | zero =>
    intro hs _ h
    cases hs with
    | nil => simp
    | cons x l => have := h x (List.mem_cons_self ..); omega
  | succ n ih =>
    intro hs u h
    cases hf : findH hs (n : Int) with
    | none =>
      have hn := findH_none hf
      have := ih hs u (fun x hx => by have h1 := h x hx; have h2 := hn x hx; omega)
      omega
    | some j =>
      obtain ⟨x, hj, hx⟩ := findH_some hf
      have hl : j < hs.length := by
        rcases Nat.lt_or_ge j hs.length with q | q
        · exact q
        · rw [List.getElem?_eq_none q] at hj; cases hj
      have := ih (hs.eraseIdx j) (u.erase j) (fun z hz => by
        have h1 := h z (List.mem_of_mem_eraseIdx hz)
        have h2 : z.id ≠ (n : Int) := fun e => by
          obtain ⟨i, hi⟩ := List.getElem?_of_mem hz
          have := u _ _ z x (erase_at hi) hj (by rw [e, hx])
          split at this <;> omega
        omega)
      rw [List.length_eraseIdx_of_lt hl] at this
      omega
/-- what a step does: of ask, settle, free, else join -/
def stepN (N D : Int) (hs : List Hd) (k id E P : Int) : Int × List Hd := if k = 3 then askV N D hs id E P else if k = 4 then settleV hs id else if k = 5 then freeV hs id else joinV N D hs id E P
/-- what is refused changes nothing -/
theorem join_refused (N D : Int) (hs : List Hd) (id E P : Int) : (joinV N D hs id E P).1 = 0 ∨ (joinV N D hs id E P).2 = hs := by
  unfold joinV; (repeat' split) <;> first | exact .inl rfl | exact .inr rfl
theorem ask_refused (N D : Int) (hs : List Hd) (id E P : Int) : (askV N D hs id E P).1 = 0 ∨ (askV N D hs id E P).2 = hs := by
  unfold askV; (repeat' split) <;> first | exact .inl rfl | exact .inr rfl
theorem settle_refused (hs : List Hd) (id : Int) : (settleV hs id).1 = 0 ∨ (settleV hs id).2 = hs := by
  unfold settleV; (repeat' split) <;> first | exact .inl rfl | exact .inr rfl
theorem free_refused (hs : List Hd) (id : Int) : (freeV hs id).1 = 0 ∨ (freeV hs id).2 = hs := by
  unfold freeV; (repeat' split) <;> first | exact .inl rfl | exact .inr rfl
theorem join_in {N D n : Int} {hs : List Hd} {id E P : Int} (h : IdsIn n hs) (hi : 0 ≤ id ∧ id < n) : IdsIn n (joinV N D hs id E P).2 := by
  unfold joinV
  (repeat' split) <;> first | exact h | exact h.snoc hi
theorem ask_in {N D n : Int} {hs : List Hd} {id E P : Int} (h : IdsIn n hs) : IdsIn n (askV N D hs id E P).2 := by
  unfold askV
  split
  · exact h
  · split
    · exact h
    · split
      · exact h
      · rename_i x hx
        have := h x (List.mem_of_getElem? hx)
        (repeat' split) <;> first | exact h | exact h.set this
theorem settle_in {n : Int} {hs : List Hd} {id : Int} (h : IdsIn n hs) (hi : 0 ≤ id ∧ id < n) : IdsIn n (settleV hs id).2 := by
  unfold settleV
  (repeat' split) <;> first | exact h | exact h.set hi
theorem free_in {n : Int} {hs : List Hd} {id : Int} (h : IdsIn n hs) : IdsIn n (freeV hs id).2 := by
  unfold freeV
  (repeat' split) <;> first | exact h | exact h.erase _
theorem held_within {n d sN sD N D : Int} (hs0 : 0 < sD) (hd : 0 < d) (he : n * sD = sN * d) (hf : sN * D ≤ N * sD) : n * D ≤ N * d := by
  refine Int.le_of_mul_le_mul_right ?_ hs0
  have h1 := Int.mul_le_mul_of_nonneg_right hf (show 0 ≤ d by omega)
  have e1 : n * D * sD = (sN * D) * d := by grind
  have e2 : N * d * sD = (N * sD) * d := by grind
  omega
theorem cmp_within {a b : Int} (h : a ≤ b) : decide (0 < cmpI a b) = false := by
  unfold cmpI
  by_cases q : a < b
  · rw [if_pos q]; rfl
  · rw [if_neg q, if_neg (by omega)]; rfl
/-! ### a row of steps: six numbers each -/
theorem steps_at {w : World} {a : Option Addr} {len cap : Nat} {rs : List (List Value)} (h : RowF w a len cap 6 rs) (g : ∀ r ∈ rs, Fit [.int .i64, .int .i64, .int .i64, .int .i64, .int .i64, .int .i64] r) {i : Nat} (hi : i < len) :
    ∃ b off k id p q u v, a = some ⟨b, off, none⟩ ∧ w.cell? ⟨b, off + i * 6, none⟩ = some (.int .i64 k) ∧ w.cell? ⟨b, off + i * 6 + 1, none⟩ = some (.int .i64 id) ∧ w.cell? ⟨b, off + i * 6 + 2, none⟩ = some (.int .i64 p) ∧ w.cell? ⟨b, off + i * 6 + 3, none⟩ = some (.int .i64 q) ∧ w.cell? ⟨b, off + i * 6 + 4, none⟩ = some (.int .i64 u) ∧ w.cell? ⟨b, off + i * 6 + 5, none⟩ = some (.int .i64 v) := by
  have hn : rs.length = len := h.1
  obtain ⟨b, off, ha, hc⟩ := h.2.2.2.2 i hi
  obtain ⟨r, hr⟩ : ∃ r, rs.getD i [] = r := ⟨_, rfl⟩
  have hm : r ∈ rs := by
    rw [← hr, List.getD_eq_getElem?_getD, List.getElem?_eq_getElem (by omega)]
    exact List.getElem_mem _
  have gr := g r hm
  rw [hr] at hc
  obtain ⟨k, r1, rfl, _, g1⟩ := gr.int
  obtain ⟨id, r2, rfl, _, g2⟩ := g1.int
  obtain ⟨p, r3, rfl, _, g3⟩ := g2.int
  obtain ⟨q, r4, rfl, _, g4⟩ := g3.int
  obtain ⟨u, r5, rfl, _, g5⟩ := g4.int
  obtain ⟨v, r6, rfl, _, g6⟩ := g5.int
  exact ⟨b, off, k, id, p, q, u, v, ha, hc 0 (by omega), hc 1 (by omega), hc 2 (by omega), hc 3 (by omega), hc 4 (by omega), hc 5 (by omega)⟩
theorem mask7 (x : Int) : 0 ≤ bits .and .i64 x 7 ∧ bits .and .i64 x 7 ≤ 7 := mask_le x 7 (by omega) (by omega)
theorem mask15 (x : Int) : 0 ≤ bits .and .i64 x 15 ∧ bits .and .i64 x 15 ≤ 15 := mask_le x 15 (by omega) (by omega)
theorem mask3 (x : Int) : 0 ≤ bits .and .i64 x 3 ∧ bits .and .i64 x 3 ≤ 3 := mask_le x 3 (by omega) (by omega)
end Go.Proofs.Ytphlkpkbdnddlaa
