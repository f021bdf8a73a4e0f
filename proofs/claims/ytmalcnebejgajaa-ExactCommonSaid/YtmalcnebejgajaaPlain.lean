/-
  Plain facts on whole numbers that the walks of exact use; no Go in sight.
-/
import Derived.WalkKit
import Derived.Lib.Hide
namespace Go.Proofs.Ytmalcnebejgajaa
open Go.RowKit

def Fits (n : Int) : Prop := -9223372036854775808 ≤ n ∧ n ≤ 9223372036854775807
instance (n : Int) : Decidable (Fits n) := by unfold Fits; infer_instance
def tv (n : Int) : Int := if Fits n then n else 0
def te (n : Int) : Int := if Fits n then 0 else 16

theorem tv_in {n : Int} (h : Fits n) : tv n = n := if_pos h
theorem te_in {n : Int} (h : Fits n) : te n = 0 := if_pos h
theorem tv_out {n : Int} (h : ¬ Fits n) : tv n = 0 := if_neg h
theorem te_out {n : Int} (h : ¬ Fits n) : te n = 16 := if_neg h
theorem tv_fits (n : Int) : Fits (tv n) := by
  by_cases h : Fits n
  · rw [tv_in h]; exact h
  · rw [tv_out h]; unfold Fits; omega

/-- what is left by a division towards 0 is smaller than the divisor -/
theorem tmod_small (p a : Int) (h : a ≠ 0) : -(a.natAbs : Int) < p.tmod a ∧ p.tmod a < (a.natAbs : Int) := by
  have key : ∀ b : Int, 0 < b → -b < p.tmod b ∧ p.tmod b < b := by
    intro b hb
    refine ⟨?_, Int.tmod_lt_of_pos p hb⟩
    have := Int.tmod_lt_of_pos (-p) hb
    rw [Int.neg_tmod] at this
    omega
  rcases Int.lt_or_gt_of_ne h with g | g
  · have := key (-a) (by omega)
    rw [Int.tmod_neg] at this
    omega
  · have := key a g
    omega

theorem mul_back {p a b : Int} (ha : Fits a) (h0 : a ≠ 0) (hk : ∃ k : Int, p = a * b + k * 18446744073709551616) (hq : p.tdiv a = b) : p = a * b := by
  obtain ⟨k, hk⟩ := hk
  have e := Int.mul_tdiv_add_tmod p a
  rw [hq] at e
  have s := tmod_small p a h0
  unfold Fits at ha
  omega

theorem mul_cancel {a b : Int} (h0 : a ≠ 0) : (a * b).tdiv a = b := Int.mul_tdiv_cancel_left b h0

theorem over_pp {a b : Int} (ha : 0 < a) (hb : 0 < b) : a ≤ (9223372036854775807 : Int).tdiv b ↔ Fits (a * b) := by
  rw [Int.tdiv_eq_ediv_of_nonneg (by omega), Int.le_ediv_iff_mul_le hb]
  have := Int.mul_pos ha hb
  unfold Fits; omega
theorem over_nn {a b : Int} (ha : a < 0) (hb : b < 0) : (9223372036854775807 : Int).tdiv b ≤ a ↔ Fits (a * b) := by
  have h := over_pp (a := -a) (b := -b) (by omega) (by omega)
  rw [Int.tdiv_neg, Int.neg_mul_neg] at h
  rw [← h]; omega
theorem over_pn {a b : Int} (ha : 0 < a) (hb : b < 0) : (-9223372036854775808 : Int).tdiv a ≤ b ↔ Fits (a * b) := by
  have e : (-9223372036854775808 : Int).tdiv a = -((9223372036854775808 : Int) / a) := by
    rw [show (-9223372036854775808 : Int) = -(9223372036854775808 : Int) from rfl, Int.neg_tdiv, Int.tdiv_eq_ediv_of_nonneg (by omega)]
  have h := Int.le_ediv_iff_mul_le (a := -b) (b := 9223372036854775808) ha
  have := Int.mul_pos ha (show 0 < -b by omega)
  rw [Int.mul_neg] at this
  rw [Int.neg_mul, Int.mul_comm b a] at h
  rw [e]; unfold Fits; omega
theorem over_np {a b : Int} (ha : a < 0) (hb : 0 < b) : (-9223372036854775808 : Int).tdiv b ≤ a ↔ Fits (a * b) := by
  rw [over_pn hb ha, Int.mul_comm]
theorem fits_cases (n : Int) : (n < -9223372036854775808 ∧ Hid (¬ Fits n)) ∨ (9223372036854775807 < n ∧ Hid (¬ Fits n)) ∨ (-9223372036854775808 ≤ n ∧ n ≤ 9223372036854775807 ∧ Hid (Fits n)) := by
  by_cases h : n < -9223372036854775808
  · exact Or.inl ⟨h, Lib.hid (by unfold Fits; omega)⟩
  · by_cases g : 9223372036854775807 < n
    · exact Or.inr (Or.inl ⟨g, Lib.hid (by unfold Fits; omega)⟩)
    · exact Or.inr (Or.inr ⟨by omega, by omega, Lib.hid (by unfold Fits; omega)⟩)

/-- what a division by b tells as its error -/
def de (b : Int) : Int := if b = 0 then 17 else if b < 0 then 1 else 0
def fv (a b : Int) : Int := if b ≤ 0 then 0 else a / b
def cv (a b : Int) : Int := if b ≤ 0 then 0 else -(-a / b)

theorem fv_up {a b : Int} (h : 0 < b) : fv a b = a / b := if_neg (by omega)
theorem cv_up {a b : Int} (h : 0 < b) : cv a b = -(-a / b) := if_neg (by omega)
theorem fv_no {a b : Int} (h : b ≤ 0) : fv a b = 0 := if_pos h
theorem cv_no {a b : Int} (h : b ≤ 0) : cv a b = 0 := if_pos h
theorem de_up {b : Int} (h : 0 < b) : de b = 0 := by unfold de; rw [if_neg (by omega), if_neg (by omega)]
theorem de_neg {b : Int} (h : b < 0) : de b = 1 := by unfold de; rw [if_neg (by omega), if_pos h]

theorem tdiv_facts (a b : Int) (hb : 0 < b) : b * a.tdiv b + a.tmod b = a ∧ -b < a.tmod b ∧ a.tmod b < b := by
  have := tmod_small a b (by omega)
  exact ⟨Int.mul_tdiv_add_tmod a b, by omega, by omega⟩
theorem ediv_is {a b q r : Int} (e : b * q + r = a) (h0 : 0 ≤ r) (h1 : r < b) : a / b = q :=
  ((Int.ediv_emod_unique (by omega)).mpr ⟨by rw [Int.add_comm]; exact e, h0, h1⟩).1
theorem floor_neg {a b : Int} (hb : 0 < b) (hr : a.tmod b < 0) : a.tdiv b - 1 = a / b := by
  obtain ⟨e, h1, h2⟩ := tdiv_facts a b hb
  refine (ediv_is (r := a.tmod b + b) ?_ (by omega) (by omega)).symm
  rw [Int.mul_sub]; omega
theorem floor_pos {a b : Int} (hb : 0 < b) (hr : 0 ≤ a.tmod b) : a.tdiv b = a / b := by
  obtain ⟨e, h1, h2⟩ := tdiv_facts a b hb
  exact (ediv_is e hr h2).symm
theorem ceil_pos {a b : Int} (hb : 0 < b) (hr : 0 < a.tmod b) : a.tdiv b + 1 = -(-a / b) := by
  have h := floor_neg (a := -a) hb (by rw [Int.neg_tmod]; omega)
  rw [Int.neg_tdiv] at h; omega
theorem ceil_neg {a b : Int} (hb : 0 < b) (hr : a.tmod b ≤ 0) : a.tdiv b = -(-a / b) := by
  have h := floor_pos (a := -a) hb (by rw [Int.neg_tmod]; omega)
  rw [Int.neg_tdiv] at h; omega
theorem tdiv_le {a b : Int} (ha : Fits a) (hb : 0 < b) : -9223372036854775808 ≤ a.tdiv b ∧ a.tdiv b ≤ 9223372036854775807 := by
  have h := Int.natAbs_tdiv_le_natAbs a b
  unfold Fits at ha
  by_cases g : 0 ≤ a
  · have := Int.tdiv_nonneg g (show 0 ≤ b by omega); omega
  · have := Int.tdiv_nonneg (show 0 ≤ -a by omega) (show 0 ≤ b by omega)
    rw [Int.neg_tdiv] at this; omega
theorem tdiv_lo {a b : Int} (ha : Fits a) (hb : 0 < b) (hr : a.tmod b < 0) : -9223372036854775807 ≤ a.tdiv b := by
  have h := tdiv_le ha hb
  by_cases g : a.tdiv b = -9223372036854775808
  · obtain ⟨e, h1, h2⟩ := tdiv_facts a b hb
    rw [g] at e
    unfold Fits at ha
    omega
  · omega
theorem tdiv_hi {a b : Int} (ha : Fits a) (hb : 0 < b) (hr : 0 < a.tmod b) : a.tdiv b ≤ 9223372036854775806 := by
  have h := tdiv_le ha hb
  by_cases g : a.tdiv b = 9223372036854775807
  · obtain ⟨e, h1, h2⟩ := tdiv_facts a b hb
    rw [g] at e
    unfold Fits at ha
    omega
  · omega

theorem wrap64_k (n : Int) : Fits (wrap64 n) ∧ ∃ k : Int, wrap64 n = n + k * 18446744073709551616 := by
  unfold wrap64 Fits
  refine ⟨by omega, -((n + 9223372036854775808) / 18446744073709551616), by omega⟩
theorem mul_wraps {a b : Int} (ha : Fits a) (h0 : a ≠ 0) (hf : ¬ Fits (a * b)) : ¬ (wrap64 (a * b)).tdiv a = b := by
  intro h
  have e := mul_back ha h0 (wrap64_k (a * b)).2 h
  exact hf (e ▸ (wrap64_k (a * b)).1)
theorem quo_fits {p a : Int} (hp : Fits p) (h0 : a ≠ 0) (h1 : a ≠ -1) : -9223372036854775808 ≤ p.tdiv a ∧ p.tdiv a ≤ 9223372036854775807 := by
  have h := Int.natAbs_tdiv_le_natAbs p a
  unfold Fits at hp
  refine ⟨by omega, ?_⟩
  by_cases g : p.tdiv a = 9223372036854775808
  · have e := Int.mul_tdiv_add_tmod p a
    have s := tmod_small p a h0
    rw [g] at e
    omega
  · omega
theorem max_quo {b : Int} (_ : b < 0) : -9223372036854775808 ≤ (9223372036854775807 : Int).tdiv b ∧ (9223372036854775807 : Int).tdiv b ≤ 9223372036854775807 := by
  have h := Int.natAbs_tdiv_le_natAbs 9223372036854775807 b
  omega
end Go.Proofs.Ytmalcnebejgajaa
