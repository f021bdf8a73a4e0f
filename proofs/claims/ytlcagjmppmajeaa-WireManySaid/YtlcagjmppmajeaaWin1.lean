/-
  Plain facts on windows of a weight E by P: releases, deadlines, bits and groups; no Go in sight.
-/
import Derived.WalkKit
namespace Go.Proofs.Ytlcagjmppmajeaa
open Go.RowKit

/-- a by b, rounded up -/
def cdv (a b : Int) : Int := (a + b - 1) / b
theorem cdv_le {a b : Int} (hb : 0 < b) : a ≤ cdv a b * b := by
  have h1 := Int.mul_ediv_add_emod (a + b - 1) b
  have h2 := Int.emod_lt_of_pos (a + b - 1) hb
  unfold cdv
  rw [Int.mul_comm]
  omega
theorem cdv_lt {a b : Int} (hb : 0 < b) : (cdv a b - 1) * b < a := by
  have h1 := Int.mul_ediv_add_emod (a + b - 1) b
  have h2 := Int.emod_nonneg (a + b - 1) (show b ≠ 0 by omega)
  unfold cdv
  rw [Int.sub_mul, Int.mul_comm]
  omega
theorem cdv_min {a b n : Int} (hb : 0 < b) (h : a ≤ n * b) : cdv a b ≤ n := by
  have h1 := cdv_lt (a := a) hb
  have h2 : (cdv a b - 1) * b < n * b := by omega
  have := Int.lt_of_mul_lt_mul_right h2 (by omega)
  omega
theorem cdv_gt {a b n : Int} (hb : 0 < b) (h : n * b < a) : n < cdv a b := by
  have h1 := cdv_le (a := a) hb
  have h2 : n * b < cdv a b * b := by omega
  exact Int.lt_of_mul_lt_mul_right h2 (by omega)
theorem cdv_is {a b n : Int} (hb : 0 < b) (h1 : a ≤ n * b) (h2 : (n - 1) * b < a) : cdv a b = n := by
  have k1 := cdv_min hb h1
  have k2 := cdv_gt hb h2
  omega
theorem cdv_add {a b n : Int} (hb : 0 < b) : cdv (a + n * b) b = cdv a b + n := by
  have h1 := cdv_le (a := a) hb
  have h2 := cdv_lt (a := a) hb
  refine cdv_is hb ?_ ?_
  · rw [Int.add_mul]; omega
  · have : (cdv a b + n - 1) * b = (cdv a b - 1) * b + n * b := by grind
    rw [this]; omega
theorem cdv_mono {a a' b : Int} (hb : 0 < b) (h : a ≤ a') : cdv a b ≤ cdv a' b := by
  have := cdv_le (a := a') hb
  exact cdv_min hb (by omega)
theorem cdv_exact {n b : Int} (hb : 0 < b) : cdv (n * b) b = n := cdv_is hb (Int.le_refl _) (by rw [Int.sub_mul]; omega)
/-- rounded up, by the part rounded down -/
theorem cdv_part {a b : Int} (hb : 0 < b) : cdv a b = a / b + (if a % b = 0 then 0 else 1) := by
  have h1 := Int.mul_ediv_add_emod a b
  have h2 := Int.emod_nonneg a (show b ≠ 0 by omega)
  have h3 := Int.emod_lt_of_pos a hb
  split
  · refine cdv_is hb ?_ ?_
    · rw [Int.add_zero, Int.mul_comm]; omega
    · rw [Int.add_zero, Int.sub_mul, Int.mul_comm]; omega
  · refine cdv_is hb ?_ ?_
    · rw [Int.add_mul, Int.mul_comm]; omega
    · rw [Int.add_sub_cancel, Int.mul_comm]; omega

def wR (E P i : Int) : Int := (i - 1) * P / E
def wD (E P i : Int) : Int := cdv (i * P) E
def wB (E P i : Int) : Int := if i * P % E = 0 then 0 else 1
def wK (E P i : Int) : Int := (wD E P i - 1) * (P - E) / P + 1
def wG (E P i : Int) : Int := if 2 * E < P then 0 else if E = P then wD E P i else cdv (wK E P i * P) (P - E)

theorem wR_bd {E P i : Int} (hE : 0 < E) : wR E P i * E ≤ (i - 1) * P ∧ (i - 1) * P < (wR E P i + 1) * E := by
  have h1 := Int.mul_ediv_add_emod ((i - 1) * P) E
  have h2 := Int.emod_nonneg ((i - 1) * P) (show E ≠ 0 by omega)
  have h3 := Int.emod_lt_of_pos ((i - 1) * P) hE
  unfold wR
  rw [Int.add_mul, Int.mul_comm]
  omega
theorem wD_bd {E P i : Int} (hE : 0 < E) : i * P ≤ wD E P i * E ∧ (wD E P i - 1) * E < i * P := ⟨cdv_le hE, cdv_lt hE⟩
theorem wB_bd (E P i : Int) : 0 ≤ wB E P i ∧ wB E P i ≤ 1 := by unfold wB; split <;> omega
theorem wR_nonneg {E P i : Int} (hE : 0 < E) (hP : 0 ≤ P) (hi : 1 ≤ i) : 0 ≤ wR E P i := Int.ediv_nonneg (Int.mul_nonneg (by omega) hP) (by omega)
theorem wD_pos {E P i : Int} (hE : 0 < E) (hP : 0 < P) (hi : 1 ≤ i) : 1 ≤ wD E P i := by
  have h1 := cdv_gt (a := i * P) (n := 0) hE (by rw [Int.zero_mul]; exact Int.mul_pos (by omega) hP)
  unfold wD; omega

/-! ### windows follow one another -/
theorem next_release {E P i : Int} (hE : 0 < E) : wR E P (i + 1) = wD E P i - wB E P i := by
  unfold wR wD wB
  rw [cdv_part hE, Int.add_sub_cancel]
  split <;> omega
theorem next_some {E P i : Int} (hE : 0 < E) (hP : 0 < P) : wR E P i < wD E P i := by
  have h1 := (wR_bd (P := P) (i := i) hE).1
  have h2 := (wD_bd (P := P) (i := i) hE).1
  have h3 : (i - 1) * P = i * P - P := by grind
  exact Int.lt_of_mul_lt_mul_right (show wR E P i * E < wD E P i * E by omega) (by omega)
theorem next_later {E P i : Int} (hE : 0 < E) (hEP : E ≤ P) : wD E P i < wD E P (i + 1) := by
  have h1 := (wD_bd (P := P) (i := i) hE).2
  have h2 := (wD_bd (P := P) (i := i + 1) hE).1
  have h3 : (i + 1) * P = i * P + P := by grind
  have h4 : (wD E P i - 1) * E = wD E P i * E - E := by grind
  exact Int.lt_of_mul_lt_mul_right (show wD E P i * E < wD E P (i + 1) * E by omega) (by omega)
theorem first_release (E P : Int) : wR E P 1 = 0 := by unfold wR; simp

/-! ### the same in each P -/
theorem round_release {E P i : Int} (hE : 0 < E) : wR E P (i + E) = wR E P i + P := by
  unfold wR
  rw [show (i + E - 1) * P = (i - 1) * P + P * E by grind, Int.add_mul_ediv_right _ _ (by omega)]
theorem round_deadline {E P i : Int} (hE : 0 < E) : wD E P (i + E) = wD E P i + P := by
  unfold wD
  rw [show (i + E) * P = i * P + P * E by grind, cdv_add hE]
theorem round_bit {E P i : Int} : wB E P (i + E) = wB E P i := by
  unfold wB
  rw [show (i + E) * P = i * P + P * E by grind, Int.add_mul_emod_self_right]
theorem round_group {E P i : Int} (hE : 0 < E) (hEP : E ≤ P) : (2 * E < P ∧ wG E P i = 0 ∧ wG E P (i + E) = 0) ∨ wG E P (i + E) = wG E P i + P := by
  by_cases h : 2 * E < P
  · exact .inl ⟨h, if_pos h, if_pos h⟩
  · refine .inr ?_
    unfold wG
    rw [if_neg h, if_neg h]
    by_cases g : E = P
    · rw [if_pos g, if_pos g, round_deadline hE]
    · rw [if_neg g, if_neg g]
      have k : wK E P (i + E) = wK E P i + (P - E) := by
        unfold wK
        rw [round_deadline hE, show (wD E P i + P - 1) * (P - E) = (wD E P i - 1) * (P - E) + (P - E) * P by grind, Int.add_mul_ediv_right _ _ (by omega)]
        omega
      rw [k, show (wK E P i + (P - E)) * P = wK E P i * P + P * (P - E) by grind, cdv_add (by omega)]
theorem whole_deadline {E P : Int} (hE : 0 < E) : wD E P E = P := by
  unfold wD; rw [Int.mul_comm]; exact cdv_exact hE
theorem whole_bit (E P : Int) : wB E P E = 0 := by
  unfold wB; rw [if_pos (by rw [Int.mul_emod_right])]

/-! ### up to each slot -/
theorem lag_all {E P at_ : Int} (hE : 0 < E) (hP : 0 < P) : wD E P (at_ * E / P) ≤ at_ ∧ at_ < wD E P (at_ * E / P + 1) ∧ wR E P (at_ * E / P + 1) ≤ at_ ∧ at_ ≤ wR E P (at_ * E / P + 2) := by
  have h1 := Int.mul_ediv_add_emod (at_ * E) P
  have h2 := Int.emod_nonneg (at_ * E) (show P ≠ 0 by omega)
  have h3 := Int.emod_lt_of_pos (at_ * E) hP
  obtain ⟨v, hv⟩ : ∃ v, at_ * E / P = v := ⟨_, rfl⟩
  rw [hv] at h1 ⊢
  rw [Int.mul_comm P v] at h1
  have e1 : (v + 1) * P = v * P + P := by grind
  refine ⟨cdv_min hE (by omega), cdv_gt hE (by omega), ?_, ?_⟩
  · unfold wR
    rw [Int.add_sub_cancel]
    have : v * P / E < at_ + 1 := Int.ediv_lt_of_lt_mul hE (by rw [Int.add_mul]; omega)
    omega
  · unfold wR
    rw [show v + 2 - 1 = v + 1 by omega]
    exact Int.le_ediv_of_mul_le hE (by omega)

/-! ### groups -/
theorem group_light {E P i : Int} (h : 2 * E < P) : wG E P i = 0 := if_pos h
theorem group_one {E i : Int} (hE : 0 < E) : wG E E i = wD E E i := by unfold wG; rw [if_neg (by omega), if_pos rfl]
theorem group_bd {E P i : Int} (hE : 0 < E) (hEP : E ≤ P) (hh : ¬ 2 * E < P) : wD E P i ≤ wG E P i ∧ wG E P i - wD E P i ≤ P := by
  unfold wG
  rw [if_neg hh]
  by_cases g : E = P
  · rw [if_pos g]; omega
  · rw [if_neg g]
    have q : 0 < P - E := by omega
    have h1 := Int.mul_ediv_add_emod ((wD E P i - 1) * (P - E)) P
    have h2 := Int.emod_nonneg ((wD E P i - 1) * (P - E)) (show P ≠ 0 by omega)
    have h3 := Int.emod_lt_of_pos ((wD E P i - 1) * (P - E)) (show 0 < P by omega)
    have k1 : wK E P i * P = P * ((wD E P i - 1) * (P - E) / P) + P := by unfold wK; grind
    have l1 := cdv_gt (a := wK E P i * P) (n := wD E P i - 1) q (by omega)
    have l2 := cdv_lt (a := wK E P i * P) q
    obtain ⟨G, hG⟩ : ∃ G, cdv (wK E P i * P) (P - E) = G := ⟨_, rfl⟩
    rw [hG] at l1 l2 ⊢
    refine ⟨by omega, ?_⟩
    have s : (G - 1) * (P - E) = (G - wD E P i) * (P - E) + (wD E P i - 1) * (P - E) := by grind
    have t : (G - wD E P i) * 1 ≤ (G - wD E P i) * (P - E) := Int.mul_le_mul_of_nonneg_left (by omega) (by omega)
    omega
theorem group_mono {E P i : Int} (hE : 0 < E) (hEP : E ≤ P) : wG E P i ≤ wG E P (i + 1) := by
  have d := next_later (i := i) hE hEP
  unfold wG
  split
  · omega
  · split
    · omega
    · have q : 0 < P - E := by omega
      refine cdv_mono q ?_
      refine Int.mul_le_mul_of_nonneg_right ?_ (by omega)
      unfold wK
      have : (wD E P i - 1) * (P - E) / P ≤ (wD E P (i + 1) - 1) * (P - E) / P := Int.ediv_le_ediv (by omega) (Int.mul_le_mul_of_nonneg_right (by omega) (by omega))
      omega
/-- the group's deadline is the least so many times P by what is left of P, rounded up, that is not ahead of the window's -/
theorem group_least {E P i k : Int} (hEP : E < P) (hP : 0 < P) (h : wD E P i ≤ cdv (k * P) (P - E)) : wK E P i ≤ k := by
  have q : 0 < P - E := by omega
  have h1 := cdv_lt (a := k * P) q
  have h2 : (wD E P i - 1) * (P - E) ≤ (cdv (k * P) (P - E) - 1) * (P - E) := Int.mul_le_mul_of_nonneg_right (by omega) (by omega)
  have h3 : (wD E P i - 1) * (P - E) / P < k := Int.ediv_lt_of_lt_mul hP (by omega)
  unfold wK; omega

/-! ### how long -/
theorem long_one {E i : Int} (hE : 0 < E) : wD E E i - wR E E i = 1 ∧ wB E E i = 0 := by
  refine ⟨?_, ?_⟩
  · unfold wD wR
    rw [cdv_exact hE, Int.mul_ediv_cancel _ (by omega)]; omega
  · unfold wB; rw [if_pos (by rw [Int.mul_emod_left])]
theorem long_bd {E P i : Int} (hE : 0 < E) : P ≤ (wD E P i - wR E P i) * E ∧ (wD E P i - wR E P i) * E < P + 2 * E := by
  have h1 := wR_bd (P := P) (i := i) hE
  have h2 := wD_bd (P := P) (i := i) hE
  have s1 : (i - 1) * P = i * P - P := by grind
  have s2 : (wR E P i + 1) * E = wR E P i * E + E := by grind
  have s3 : (wD E P i - 1) * E = wD E P i * E - E := by grind
  rw [Int.sub_mul]
  omega
theorem long_heavy {E P i : Int} (hE : 0 < E) (hEP : E < P) (hh : P ≤ 2 * E) : wD E P i - wR E P i = 2 ∨ wD E P i - wR E P i = 3 := by
  have ⟨h1, h2⟩ := long_bd (P := P) (i := i) hE
  obtain ⟨L, hL⟩ : ∃ L, wD E P i - wR E P i = L := ⟨_, rfl⟩
  rw [hL] at h1 h2 ⊢
  have k1 : 1 < L := Int.lt_of_mul_lt_mul_right (show 1 * E < L * E by omega) (by omega)
  have k2 : L < 4 := Int.lt_of_mul_lt_mul_right (show L * E < 4 * E by omega) (by omega)
  omega
theorem long_light {E P i : Int} (hE : 0 < E) (hh : 2 * E < P) : 3 ≤ wD E P i - wR E P i ∧ wD E P i - wR E P i ≤ P / E + 2 := by
  have ⟨h1, h2⟩ := long_bd (P := P) (i := i) hE
  obtain ⟨L, hL⟩ : ∃ L, wD E P i - wR E P i = L := ⟨_, rfl⟩
  rw [hL] at h1 h2 ⊢
  have k1 : 2 < L := Int.lt_of_mul_lt_mul_right (show 2 * E < L * E by omega) (by omega)
  have k2 : L - 2 ≤ P / E := Int.le_ediv_of_mul_le hE (by rw [Int.sub_mul]; omega)
  omega
end Go.Proofs.Ytlcagjmppmajeaa
