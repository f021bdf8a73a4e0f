/-
  Lags and bounds, as numbers: what package fluid tells, and what follows from it.
-/
import Derived.Test.YtnmiiebfpeoafaaWin7
namespace Go.Proofs.Ytnmiiebfpeoafaa

/-- a number of slots, or of quanta -/
def Sl (t : Int) : Prop := 0 ≤ t ∧ t ≤ 1099511627776
instance (t : Int) : Decidable (Sl t) := by unfold Sl; infer_instance
instance (E P : Int) : Decidable (MayBe E P) := by unfold MayBe; infer_instance
def lagV (E P t q : Int) : Int := if MayBe E P ∧ Sl t ∧ Sl q then E * t - P * q else 0
def lagE (E P t q : Int) : Int := if MayBe E P ∧ Sl t ∧ Sl q then 0 else 1
def fairB (E P t q : Int) : Bool := decide ((MayBe E P ∧ Sl t ∧ Sl q) ∧ -P < E * t - P * q ∧ E * t - P * q < P)
def lowV (E P t : Int) : Int := if MayBe E P ∧ Sl t then E * t / P else 0
def highV (E P t : Int) : Int := if MayBe E P ∧ Sl t then cdv (E * t) P else 0

theorem fit_et {E P t : Int} (hM : MayBe E P) (ht : Sl t) : 0 ≤ E * t ∧ E * t ≤ 1152921504606846976 := by
  obtain ⟨h1, h2, h3⟩ := hM
  obtain ⟨t0, t1⟩ := ht
  refine ⟨Int.mul_nonneg (by omega) t0, ?_⟩
  have := Int.mul_le_mul (show E ≤ 1048576 by omega) t1 t0 (by omega)
  omega
theorem fit_pt {E P t : Int} (hM : MayBe E P) (ht : Sl t) : 0 ≤ P * t ∧ P * t ≤ 1152921504606846976 := by
  obtain ⟨h1, h2, h3⟩ := hM
  obtain ⟨t0, t1⟩ := ht
  refine ⟨Int.mul_nonneg (by omega) t0, ?_⟩
  have := Int.mul_le_mul h3 t1 t0 (by omega)
  omega
theorem lagV_yes {E P t q : Int} (h : MayBe E P ∧ Sl t ∧ Sl q) : lagV E P t q = E * t - P * q := if_pos h
theorem lagV_no {E P t q : Int} (h : ¬ (MayBe E P ∧ Sl t ∧ Sl q)) : lagV E P t q = 0 := if_neg h
theorem lagE_yes {E P t q : Int} (h : MayBe E P ∧ Sl t ∧ Sl q) : lagE E P t q = 0 := if_pos h
theorem lagE_no {E P t q : Int} (h : ¬ (MayBe E P ∧ Sl t ∧ Sl q)) : lagE E P t q = 1 := if_neg h
theorem lowV_yes {E P t : Int} (h : MayBe E P ∧ Sl t) : lowV E P t = E * t / P := if_pos h
theorem lowV_no {E P t : Int} (h : ¬ (MayBe E P ∧ Sl t)) : lowV E P t = 0 := if_neg h
theorem highV_yes {E P t : Int} (h : MayBe E P ∧ Sl t) : highV E P t = cdv (E * t) P := if_pos h
theorem highV_no {E P t : Int} (h : ¬ (MayBe E P ∧ Sl t)) : highV E P t = 0 := if_neg h
theorem fairB_no {E P t q : Int} (h : ¬ (MayBe E P ∧ Sl t ∧ Sl q)) : fairB E P t q = false := decide_eq_false (fun g => h g.1)
theorem fairB_is {E P t q : Int} (h : MayBe E P ∧ Sl t ∧ Sl q) : fairB E P t q = (decide (-P < E * t - P * q) && decide (E * t - P * q < P)) := by
  unfold fairB
  by_cases h1 : -P < E * t - P * q <;> by_cases h2 : E * t - P * q < P <;> simp [h1, h2, h]

/-! ### bounds -/
theorem lowV_fit {E P t : Int} (hM : MayBe E P) (ht : Sl t) : 0 ≤ lowV E P t ∧ lowV E P t ≤ t := by
  rw [lowV_yes ⟨hM, ht⟩]
  have h := fit_et hM ht
  obtain ⟨h1, h2, h3⟩ := hM
  refine ⟨Int.ediv_nonneg h.1 (by omega), ?_⟩
  have : E * t ≤ t * P := by rw [Int.mul_comm t P]; exact Int.mul_le_mul_of_nonneg_right h2 ht.1
  exact Int.ediv_le_of_le_mul (by omega) this
theorem highV_fit {E P t : Int} (hM : MayBe E P) (ht : Sl t) : 0 ≤ highV E P t ∧ highV E P t ≤ t := by
  rw [highV_yes ⟨hM, ht⟩]
  have h := fit_et hM ht
  obtain ⟨h1, h2, h3⟩ := hM
  have : E * t ≤ t * P := by rw [Int.mul_comm t P]; exact Int.mul_le_mul_of_nonneg_right h2 ht.1
  refine ⟨?_, cdv_min (by omega) this⟩
  unfold cdv
  exact Int.ediv_nonneg (by omega) (by omega)
/-- what is below a share, and what above -/
theorem le_low {E P t n : Int} (hM : MayBe E P) (ht : Sl t) : n ≤ lowV E P t ↔ n * P ≤ E * t := by
  rw [lowV_yes ⟨hM, ht⟩]
  exact Int.le_ediv_iff_mul_le (by have := hM.1; have := hM.2.1; omega)
theorem high_lt {E P t n : Int} (hM : MayBe E P) (ht : Sl t) : n < highV E P t ↔ n * P < E * t := by
  rw [highV_yes ⟨hM, ht⟩]
  have hP : 0 < P := by have := hM.1; have := hM.2.1; omega
  constructor
  · intro h
    rcases Int.lt_or_le (n * P) (E * t) with g | g
    · exact g
    · have := cdv_min hP g; omega
  · exact cdv_gt hP
theorem high_low {E P t : Int} (hM : MayBe E P) (ht : Sl t) : highV E P t = lowV E P t + (if E * t % P = 0 then 0 else 1) := by
  rw [highV_yes ⟨hM, ht⟩, lowV_yes ⟨hM, ht⟩]
  exact cdv_part (by have := hM.1; have := hM.2.1; omega)
/-- P9.4 -/
theorem fair_iff {E P t q : Int} (hM : MayBe E P) (ht : Sl t) (hq : Sl q) : fairB E P t q = true ↔ lowV E P t ≤ q ∧ q ≤ highV E P t := by
  have hP : 0 < P := by have := hM.1; have := hM.2.1; omega
  have h1 := le_low (n := q + 1) hM ht
  have h2 := high_lt (n := q - 1) hM ht
  rw [Int.add_mul, Int.one_mul] at h1
  rw [Int.sub_mul, Int.one_mul] at h2
  have e : P * q = q * P := Int.mul_comm _ _
  unfold fairB
  rw [decide_eq_true_eq, e]
  constructor
  · rintro ⟨_, h3, h4⟩
    refine ⟨?_, ?_⟩
    · rcases Int.lt_or_le q (lowV E P t) with g | g
      · have := h1.mp (by omega); omega
      · exact g
    · have := h2.mpr (by omega); omega
  · rintro ⟨h3, h4⟩
    refine ⟨⟨hM, ht, hq⟩, ?_, ?_⟩
    · have := h2.mp (by omega); omega
    · rcases Int.lt_or_le (E * t - q * P) P with g | g
      · exact g
      · have := h1.mpr (by omega); omega
/-- P9.2: deadlines -/
theorem low_dead {E P t i : Int} (hM : MayBe E P) (ht : Sl t) : wD E P i ≤ t ↔ i ≤ lowV E P t := by
  rw [le_low hM ht]
  have hE : 0 < E := hM.1
  have e : E * t = t * E := Int.mul_comm _ _
  constructor
  · intro h
    have h1 := (wD_bd (P := P) (i := i) hE).1
    have h2 := Int.mul_le_mul_of_nonneg_right h (Int.le_of_lt hE)
    omega
  · intro h
    exact cdv_min hE (by omega)
/-- P9.2: releases -/
theorem high_rel {E P t i : Int} (hM : MayBe E P) (ht : Sl t) : wR E P i < t ↔ i ≤ highV E P t := by
  have h0 := high_lt (n := i - 1) hM ht
  have hE : 0 < E := hM.1
  have e : E * t = t * E := Int.mul_comm _ _
  have h1 : wR E P i < t ↔ (i - 1) * P < t * E := by unfold wR; exact Int.ediv_lt_iff_lt_mul hE
  rw [h1, ← e, ← h0]
  omega
theorem low_mono {E P t : Int} (hM : MayBe E P) (ht : Sl t) (ht' : Sl (t + 1)) : lowV E P t ≤ lowV E P (t + 1) ∧ lowV E P (t + 1) ≤ lowV E P t + 1 := by
  have hE : 0 < E := hM.1
  have hEP : E ≤ P := hM.2.1
  have h1 := (le_low (n := lowV E P t) hM ht).mp (Int.le_refl _)
  have h2 := le_low (n := lowV E P t) hM ht'
  have h3 := (le_low (n := lowV E P (t + 1)) hM ht').mp (Int.le_refl _)
  have h4 := le_low (n := lowV E P (t + 1) - 1) hM ht
  rw [Int.mul_add, Int.mul_one] at h2 h3
  rw [Int.sub_mul, Int.one_mul] at h4
  refine ⟨h2.mpr (by omega), ?_⟩
  have := h4.mpr (by omega)
  omega
theorem high_mono {E P t : Int} (hM : MayBe E P) (ht : Sl t) (ht' : Sl (t + 1)) : highV E P t ≤ highV E P (t + 1) := by
  have hE : 0 < E := hM.1
  rw [highV_yes ⟨hM, ht⟩, highV_yes ⟨hM, ht'⟩]
  refine cdv_mono (by have := hM.2.1; omega) ?_
  rw [Int.mul_add, Int.mul_one]
  omega
end Go.Proofs.Ytnmiiebfpeoafaa
