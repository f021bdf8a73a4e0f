/-
  The walk of HoldLeft, for a package hold that is as P12.1 to P12.3 say.
-/
import Derived.Test.YtphlkpkbdnddlaaHj1
namespace Go.Proofs.Ytphlkpkbdnddlaa
open Go.RowKit

theorem join_ids {N D : Int} {hs : List Hd} {i E P : Int} (h : ∀ x ∈ hs, x.id < i) : (∀ x ∈ (joinV N D hs i E P).2, x.id < i + 1) ∧ (joinV N D hs i E P).2.length ≤ hs.length + 1 := by
  have old : (∀ x ∈ hs, x.id < i + 1) ∧ hs.length ≤ hs.length + 1 := ⟨fun x hx => by have := h x hx; omega, by omega⟩
  unfold joinV
  split
  · exact old
  · split
    · exact old
    · split
      · refine ⟨fun x hx => ?_, by simp⟩
        rcases List.mem_append.mp hx with q | q
        · exact old.1 x q
        · simp at q; subst q; show i < i + 1; omega
      · exact old
/-- what is left, as it is told -/
theorem left_tight {w w' : World} {L : Nat} {c : Int} {e : Ending} {hs : List Hd} (h : GivesLo w L (c * (sumH hs).2 - (sumH hs).1 * 1) (1 * (sumH hs).2) e w') (g : GoodL c 1 hs) (hl : hs.length ≤ 20) (hc : c ≤ 8) :
    ∃ v n d, e = .returned v ∧ Rat w' 0 15 v n d ∧ 0 ≤ n ∧ 0 < d ∧ n * (sumH hs).2 = (c * (sumH hs).2 - (sumH hs).1) * d ∧ Below w.heap.size w w' := by
  obtain ⟨v, n, d, rfl, hr, hlo, he, hb⟩ := h
  obtain ⟨b1, b2, b3, b4⟩ := sumH_bd g.each hl
  have hf := fit_le.mp g.fit
  rw [Int.mul_one, Int.one_mul] at he
  rw [Int.mul_one] at hf
  have k := lo_le hlo (by omega) b3 he
  have c1 := Int.mul_le_mul_of_nonneg_right hc (show 0 ≤ (sumH hs).2 by omega)
  have c2 : (8 : Int) * 4294967296 ^ 14 < 4294967296 ^ 15 := by decide
  exact ⟨v, n, d, rfl, hr.tight (by omega) (by omega), hlo.1, hlo.2.1, he, hb⟩
theorem room_fits {c E P n d : Int} {hs : List Hd} (hd : 0 < d) (hs0 : 0 < (sumH hs).2) (he : n * (sumH hs).2 = (c * (sumH hs).2 - (sumH hs).1) * d) : (E * d ≤ n * P) ↔ ((sumH hs).1 * P + E * (sumH hs).2) * 1 ≤ c * ((sumH hs).2 * P) := by
  have e1 : (n * P) * (sumH hs).2 = ((c * (sumH hs).2 - (sumH hs).1) * P) * d := by grind
  have e2 : (E * d) * (sumH hs).2 = (E * (sumH hs).2) * d := by grind
  constructor
  · intro h
    have h1 := Int.mul_le_mul_of_nonneg_right h (show 0 ≤ (sumH hs).2 by omega)
    rw [e1, e2] at h1
    have h2 := Int.le_of_mul_le_mul_right h1 hd
    have e3 : (c * (sumH hs).2 - (sumH hs).1) * P = c * ((sumH hs).2 * P) - (sumH hs).1 * P := by grind
    omega
  · intro h
    refine Int.le_of_mul_le_mul_right ?_ hs0
    rw [e1, e2]
    have e3 : (c * (sumH hs).2 - (sumH hs).1) * P = c * ((sumH hs).2 * P) - (sumH hs).1 * P := by grind
    exact Int.mul_le_mul_of_nonneg_right (by omega) (by omega)
theorem cmp_zero {a b : Int} (h : a = b) : cmpI a b = 0 := by unfold cmpI; rw [if_neg (by omega), if_neg (by omega)]
theorem held_same {n1 d1 n2 d2 N D : Int} (hD : 0 < D) (e1 : n1 * D = N * d1) (e2 : n2 * D = N * d2) : n1 * d2 = n2 * d1 := by
  refine Int.eq_of_mul_eq_mul_right (show D ≠ 0 by omega) ?_
  grind
theorem both_all {n1 d1 n2 d2 N D c : Int} (hD : 0 < D) (e1 : n1 * D = N * d1) (e2 : n2 * D = (c * D - N) * d2) : (n1 * d2 + n2 * d1) * 1 = c * (d1 * d2) := by
  refine Int.eq_of_mul_eq_mul_right (show D ≠ 0 by omega) ?_
  grind
/-- one more, and it is gone again -/
theorem free_snoc {hs : List Hd} {id E P : Int} (h : ∀ x ∈ hs, x.id ≠ id) : freeV (hs ++ [newH id E P]) id = (0, hs) := by
  have hf : findH (hs ++ [newH id E P]) id = some hs.length := by
    unfold findH
    rw [List.findIdx?_append]
    have := findH_of h
    unfold findH at this
    rw [this]
    simp [newH]
  unfold freeV
  rw [hf]
  show ((0 : Int), (hs ++ [newH id E P]).eraseIdx hs.length) = (0, hs)
  rw [List.eraseIdx_append_of_length_le (by omega), Nat.sub_self]
  simp
theorem join_new {N D : Int} {hs : List Hd} {id E P : Int} (hM : MayBe E P) (h : ∀ x ∈ hs, x.id ≠ id) (fb : Bool) (hf : decide (((sumH hs).1 * P + E * (sumH hs).2) * D ≤ N * ((sumH hs).2 * P)) = fb) : joinV N D hs id E P = if fb then (0, hs ++ [newH id E P]) else (18, hs) := by
  unfold joinV
  rw [mayB_yes hM, if_neg (by simp), findH_of h]
  show (if fitH N D (hs ++ [newH id E P]) = true then ((0 : Int), hs ++ [newH id E P]) else (18, hs)) = _
  have : fitH N D (hs ++ [newH id E P]) = fb := by rw [← hf]; unfold fitH; rw [sumH_snoc, holdsV_new]
  rw [this]
end Go.Proofs.Ytphlkpkbdnddlaa
