/-
  Plain facts on whole numbers that the walks of exact use; no Go in sight.
  Plain facts on what numbers have in common; no Go in sight.
  What Mul gives back, of exact and of the document's answer: contracts.
  What common, Gcd and multiple give back: contracts.
  What Lcm gives back, of exact and of the document's answer: contracts.
-/
import Derived.WalkKit
import Derived.Lib.Hide
import Derived.Test.YtnlgophgglgneaaKit
import Derived.Test.YtnlgophgglgneaaProg
import Derived.IntWalk
import Derived.Outline
import Derived.Deep.QuietTactic
import Derived.BigQuiet
namespace Go.Proofs.Ytnlgophgglgneaa.Ex
open Go.RowKit

def Fits (n : Int) : Prop := -9223372036854775808 ≤ n ∧ n ≤ 9223372036854775807
instance (n : Int) : Decidable (Fits n) := by unfold Fits; infer_instance
def tv (n : Int) : Int := if Fits n then n else 0
def te (n : Int) : Int := if Fits n then 0 else 16

theorem tv_in {n : Int} (h : Fits n) : tv n = n := if_pos h
theorem te_in {n : Int} (h : Fits n) : te n = 0 := if_pos h
theorem tv_out {n : Int} (h : ¬ Fits n) : tv n = 0 := if_neg h
theorem te_out {n : Int} (h : ¬ Fits n) : te n = 16 := if_neg h
theorem tv_fits (n : Int) : Fits (tv n) := by
  by_cases h : Fits n
  · rw [tv_in h]; exact h
  · rw [tv_out h]; unfold Fits; omega

/-- what is left by a division towards 0 is smaller than the divisor -/
theorem tmod_small (p a : Int) (h : a ≠ 0) : -(a.natAbs : Int) < p.tmod a ∧ p.tmod a < (a.natAbs : Int) := by
  have key : ∀ b : Int, 0 < b → -b < p.tmod b ∧ p.tmod b < b := by
    intro b hb
    refine ⟨?_, Int.tmod_lt_of_pos p hb⟩
    have := Int.tmod_lt_of_pos (-p) hb
    rw [Int.neg_tmod] at this
    omega
  rcases Int.lt_or_gt_of_ne h with g | g
  · have := key (-a) (by omega)
    rw [Int.tmod_neg] at this
    omega
  · have := key a g
    omega

theorem mul_back {p a b : Int} (ha : Fits a) (h0 : a ≠ 0) (hk : ∃ k : Int, p = a * b + k * 18446744073709551616) (hq : p.tdiv a = b) : p = a * b := by
  obtain ⟨k, hk⟩ := hk
  have e := Int.mul_tdiv_add_tmod p a
  rw [hq] at e
  have s := tmod_small p a h0
  unfold Fits at ha
  omega

theorem mul_cancel {a b : Int} (h0 : a ≠ 0) : (a * b).tdiv a = b := Int.mul_tdiv_cancel_left b h0

theorem over_pp {a b : Int} (ha : 0 < a) (hb : 0 < b) : a ≤ (9223372036854775807 : Int).tdiv b ↔ Fits (a * b) := by
  rw [Int.tdiv_eq_ediv_of_nonneg (by omega), Int.le_ediv_iff_mul_le hb]
  have := Int.mul_pos ha hb
  unfold Fits; omega
theorem over_nn {a b : Int} (ha : a < 0) (hb : b < 0) : (9223372036854775807 : Int).tdiv b ≤ a ↔ Fits (a * b) := by
  have h := over_pp (a := -a) (b := -b) (by omega) (by omega)
  rw [Int.tdiv_neg, Int.neg_mul_neg] at h
  rw [← h]; omega
theorem over_pn {a b : Int} (ha : 0 < a) (hb : b < 0) : (-9223372036854775808 : Int).tdiv a ≤ b ↔ Fits (a * b) := by
  have e : (-9223372036854775808 : Int).tdiv a = -((9223372036854775808 : Int) / a) := by
    rw [show (-9223372036854775808 : Int) = -(9223372036854775808 : Int) from rfl, Int.neg_tdiv, Int.tdiv_eq_ediv_of_nonneg (by omega)]
  have h := Int.le_ediv_iff_mul_le (a := -b) (b := 9223372036854775808) ha
  have := Int.mul_pos ha (show 0 < -b by omega)
  rw [Int.mul_neg] at this
  rw [Int.neg_mul, Int.mul_comm b a] at h
  rw [e]; unfold Fits; omega
theorem over_np {a b : Int} (ha : a < 0) (hb : 0 < b) : (-9223372036854775808 : Int).tdiv b ≤ a ↔ Fits (a * b) := by
  rw [over_pn hb ha, Int.mul_comm]
theorem fits_cases (n : Int) : (n < -9223372036854775808 ∧ Hid (¬ Fits n)) ∨ (9223372036854775807 < n ∧ Hid (¬ Fits n)) ∨ (-9223372036854775808 ≤ n ∧ n ≤ 9223372036854775807 ∧ Hid (Fits n)) := by
  by_cases h : n < -9223372036854775808
  · exact Or.inl ⟨h, Lib.hid (by unfold Fits; omega)⟩
  · by_cases g : 9223372036854775807 < n
    · exact Or.inr (Or.inl ⟨g, Lib.hid (by unfold Fits; omega)⟩)
    · exact Or.inr (Or.inr ⟨by omega, by omega, Lib.hid (by unfold Fits; omega)⟩)

/-- what a division by b tells as its error -/
def de (b : Int) : Int := if b = 0 then 17 else if b < 0 then 1 else 0
def fv (a b : Int) : Int := if b ≤ 0 then 0 else a / b
def cv (a b : Int) : Int := if b ≤ 0 then 0 else -(-a / b)

theorem fv_up {a b : Int} (h : 0 < b) : fv a b = a / b := if_neg (by omega)
theorem cv_up {a b : Int} (h : 0 < b) : cv a b = -(-a / b) := if_neg (by omega)
theorem fv_no {a b : Int} (h : b ≤ 0) : fv a b = 0 := if_pos h
theorem cv_no {a b : Int} (h : b ≤ 0) : cv a b = 0 := if_pos h
theorem de_up {b : Int} (h : 0 < b) : de b = 0 := by unfold de; rw [if_neg (by omega), if_neg (by omega)]
theorem de_neg {b : Int} (h : b < 0) : de b = 1 := by unfold de; rw [if_neg (by omega), if_pos h]

theorem tdiv_facts (a b : Int) (hb : 0 < b) : b * a.tdiv b + a.tmod b = a ∧ -b < a.tmod b ∧ a.tmod b < b := by
  have := tmod_small a b (by omega)
  exact ⟨Int.mul_tdiv_add_tmod a b, by omega, by omega⟩
theorem ediv_is {a b q r : Int} (e : b * q + r = a) (h0 : 0 ≤ r) (h1 : r < b) : a / b = q :=
  ((Int.ediv_emod_unique (by omega)).mpr ⟨by rw [Int.add_comm]; exact e, h0, h1⟩).1
theorem floor_neg {a b : Int} (hb : 0 < b) (hr : a.tmod b < 0) : a.tdiv b - 1 = a / b := by
  obtain ⟨e, h1, h2⟩ := tdiv_facts a b hb
  refine (ediv_is (r := a.tmod b + b) ?_ (by omega) (by omega)).symm
  rw [Int.mul_sub]; omega
theorem floor_pos {a b : Int} (hb : 0 < b) (hr : 0 ≤ a.tmod b) : a.tdiv b = a / b := by
  obtain ⟨e, h1, h2⟩ := tdiv_facts a b hb
  exact (ediv_is e hr h2).symm
theorem ceil_pos {a b : Int} (hb : 0 < b) (hr : 0 < a.tmod b) : a.tdiv b + 1 = -(-a / b) := by
  have h := floor_neg (a := -a) hb (by rw [Int.neg_tmod]; omega)
  rw [Int.neg_tdiv] at h; omega
theorem ceil_neg {a b : Int} (hb : 0 < b) (hr : a.tmod b ≤ 0) : a.tdiv b = -(-a / b) := by
  have h := floor_pos (a := -a) hb (by rw [Int.neg_tmod]; omega)
  rw [Int.neg_tdiv] at h; omega
theorem tdiv_le {a b : Int} (ha : Fits a) (hb : 0 < b) : -9223372036854775808 ≤ a.tdiv b ∧ a.tdiv b ≤ 9223372036854775807 := by
  have h := Int.natAbs_tdiv_le_natAbs a b
  unfold Fits at ha
  by_cases g : 0 ≤ a
  · have := Int.tdiv_nonneg g (show 0 ≤ b by omega); omega
  · have := Int.tdiv_nonneg (show 0 ≤ -a by omega) (show 0 ≤ b by omega)
    rw [Int.neg_tdiv] at this; omega
theorem tdiv_lo {a b : Int} (ha : Fits a) (hb : 0 < b) (hr : a.tmod b < 0) : -9223372036854775807 ≤ a.tdiv b := by
  have h := tdiv_le ha hb
  by_cases g : a.tdiv b = -9223372036854775808
  · obtain ⟨e, h1, h2⟩ := tdiv_facts a b hb
    rw [g] at e
    unfold Fits at ha
    omega
  · omega
theorem tdiv_hi {a b : Int} (ha : Fits a) (hb : 0 < b) (hr : 0 < a.tmod b) : a.tdiv b ≤ 9223372036854775806 := by
  have h := tdiv_le ha hb
  by_cases g : a.tdiv b = 9223372036854775807
  · obtain ⟨e, h1, h2⟩ := tdiv_facts a b hb
    rw [g] at e
    unfold Fits at ha
    omega
  · omega

theorem wrap64_k (n : Int) : Fits (wrap64 n) ∧ ∃ k : Int, wrap64 n = n + k * 18446744073709551616 := by
  unfold wrap64 Fits
  refine ⟨by omega, -((n + 9223372036854775808) / 18446744073709551616), by omega⟩
theorem mul_wraps {a b : Int} (ha : Fits a) (h0 : a ≠ 0) (hf : ¬ Fits (a * b)) : ¬ (wrap64 (a * b)).tdiv a = b := by
  intro h
  have e := mul_back ha h0 (wrap64_k (a * b)).2 h
  exact hf (e ▸ (wrap64_k (a * b)).1)
theorem quo_fits {p a : Int} (hp : Fits p) (h0 : a ≠ 0) (h1 : a ≠ -1) : -9223372036854775808 ≤ p.tdiv a ∧ p.tdiv a ≤ 9223372036854775807 := by
  have h := Int.natAbs_tdiv_le_natAbs p a
  unfold Fits at hp
  refine ⟨by omega, ?_⟩
  by_cases g : p.tdiv a = 9223372036854775808
  · have e := Int.mul_tdiv_add_tmod p a
    have s := tmod_small p a h0
    rw [g] at e
    omega
  · omega
theorem max_quo {b : Int} (_ : b < 0) : -9223372036854775808 ≤ (9223372036854775807 : Int).tdiv b ∧ (9223372036854775807 : Int).tdiv b ≤ 9223372036854775807 := by
  have h := Int.natAbs_tdiv_le_natAbs 9223372036854775807 b
  omega
end Go.Proofs.Ytnlgophgglgneaa.Ex
namespace Go.Proofs.Ytnlgophgglgneaa.Ex
open Go.RowKit

/-! ### what is common -/
def gc (a b : Int) : Int := (Int.gcd a b : Int)
theorem gc_step {a b : Int} (ha : 0 ≤ a) (hb : 0 ≤ b) : gc b (a % b) = gc a b := by
  obtain ⟨x, rfl⟩ := Int.eq_ofNat_of_zero_le ha
  obtain ⟨y, rfl⟩ := Int.eq_ofNat_of_zero_le hb
  unfold gc
  have e : ((x : Int) % (y : Int)) = ((x % y : Nat) : Int) := by omega
  rw [e]
  show ((Nat.gcd y (x % y) : Nat) : Int) = ((Nat.gcd x y : Nat) : Int)
  rw [Nat.gcd_comm x y, Nat.gcd_rec y x, Nat.gcd_comm]
theorem gc_zero {a : Int} (ha : 0 ≤ a) : gc a 0 = a := by
  obtain ⟨x, rfl⟩ := Int.eq_ofNat_of_zero_le ha
  show ((Nat.gcd x 0 : Nat) : Int) = _
  rw [Nat.gcd_zero_right]
theorem gc_pos {a b : Int} (ha : 0 < a) : 1 ≤ gc a b := by
  have h : 0 < Int.gcd a b := Int.gcd_pos_of_ne_zero_left b (by omega)
  unfold gc; omega
theorem gc_dvd {a b : Int} : gc a b ∣ a := Int.gcd_dvd_left a b
theorem gc_dvd' {a b : Int} : gc a b ∣ b := Int.gcd_dvd_right a b
theorem quo_bd {a g : Int} (ha : 0 < a) (hg : 1 ≤ g) (hd : g ∣ a) : 1 ≤ a / g ∧ a / g ≤ a := by
  obtain ⟨c, rfl⟩ := hd
  rw [Int.mul_ediv_cancel_left c (by omega)]
  have hc : 0 < c := by
    rcases Int.lt_trichotomy c 0 with h | h | h
    · have := Int.mul_neg_of_pos_of_neg (show 0 < g by omega) h; omega
    · subst h; omega
    · exact h
  refine ⟨by omega, ?_⟩
  have := Int.mul_le_mul_of_nonneg_right hg (show 0 ≤ c by omega)
  omega
/-- Gcd's number and its error -/
def gv (a b : Int) : Int := if a < 0 ∨ b < 0 then 0 else gc a b
def ge (a b : Int) : Int := if a < 0 ∨ b < 0 then 1 else 0
/-- the least number that both divide -/
def lc (a b : Int) : Int := a / gc a b * b
def lv (a b : Int) : Int := if b < 1 then 0 else tv (lc a b)
def le (a b : Int) : Int := if b < 1 then 1 else te (lc a b)
theorem lv_up {a b : Int} (h : 1 ≤ b) : lv a b = tv (lc a b) := if_neg (by omega)
theorem le_up {a b : Int} (h : 1 ≤ b) : le a b = te (lc a b) := if_neg (by omega)
theorem lv_no {a b : Int} (h : b < 1) : lv a b = 0 := if_pos h
theorem le_no {a b : Int} (h : b < 1) : le a b = 1 := if_pos h
/-- the least number that all of a row divide, and its error -/
def rowL (m : Int) : List Int → Int × Int
  | [] => (m, 0)
  | n :: r => if le m n = 0 then rowL (lv m n) r else (0, le m n)
theorem lc_pos {a b : Int} (ha : 0 < a) (hb : 0 < b) : 1 ≤ lc a b := by
  have h := quo_bd ha (gc_pos (b := b) ha) gc_dvd
  have := Int.mul_pos (show 0 < a / gc a b by omega) hb
  unfold lc; omega
theorem le_zero {a b : Int} (ha : 0 < a) (h : le a b = 0) : 1 ≤ b ∧ Fits (lc a b) ∧ lv a b = lc a b ∧ 1 ≤ lv a b ∧ lv a b ≤ 9223372036854775807 := by
  by_cases hb : b < 1
  · rw [le_no hb] at h; omega
  · by_cases f : Fits (lc a b)
    · have e : lv a b = lc a b := by rw [lv_up (by omega), tv_in f]
      have := lc_pos ha (show 0 < b by omega)
      refine ⟨by omega, f, e, by omega, ?_⟩
      rw [e]; exact f.2
    · rw [le_up (by omega), te_out f] at h; omega
theorem le_not {a b : Int} (h : ¬ le a b = 0) : lv a b = 0 := by
  by_cases hb : b < 1
  · exact lv_no hb
  · rw [le_up (by omega)] at h
    rw [lv_up (by omega)]
    by_cases f : Fits (lc a b)
    · rw [te_in f] at h; omega
    · exact tv_out f
theorem rowL_step {m n : Int} {r : List Int} (h : le m n = 0) : rowL m (n :: r) = rowL (lv m n) r := if_pos h
theorem rowL_stop {m n : Int} {r : List Int} (h : ¬ le m n = 0) : rowL m (n :: r) = (0, le m n) := if_neg h
end Go.Proofs.Ytnlgophgglgneaa.Ex
namespace Go.Proofs.Ytnlgophgglgneaa.Ex
open Go.RowKit

theorem mul_any (a b : Int) (w : World) (ha : Fits a) (hb : Fits b) :
    Calls Try.prog 94 #[.int .i64 a, .int .i64 b] w fun e w' => e = .returned (.tuple #[.int .i64 (tv (a * b)), .int .i64 (te (a * b))]) ∧ w = w' := by
  by_cases h0 : a = 0
  · subst h0
    have H := Lib.hid (show Fits (0 * b) by rw [Int.zero_mul]; decide)
    clear ha hb
    go_enter Try.func94, Try.ntmps94
    go_wp2
    go_ret2
    exact ⟨ret_two (by rw [tv_in H.out, Int.zero_mul]) (te_in H.out).symm, rfl⟩
  · have ⟨a1, a2⟩ := ha
    have ⟨b1, b2⟩ := hb
    by_cases h1 : a = -1
    · subst h1
      rcases fits_cases (-1 * b) with ⟨g, H⟩ | ⟨g, H⟩ | ⟨g, g', H⟩
      · omega
      · obtain rfl : b = -9223372036854775808 := by omega
        clear ha hb h0
        go_enter Try.func94, Try.ntmps94
        go_wp2
        go_ret2
        exact ⟨ret_two (tv_out H.out).symm (te_out H.out).symm, rfl⟩
      · have hb' : -9223372036854775808 < b := by omega
        have hq := mul_cancel (b := b) h0
        clear ha hb
        go_enter Try.func94, Try.ntmps94
        go_wp2
        go_ret2
        exact ⟨ret_two (by rw [tv_in H.out]; omega) (te_in H.out).symm, rfl⟩
    · rcases fits_cases (a * b) with ⟨g, H⟩ | ⟨g, H⟩ | ⟨g, g', H⟩
      · have ⟨q1, q2⟩ := quo_fits (wrap64_k (a * b)).1 h0 h1
        have hq := mul_wraps ha h0 H.out
        clear ha hb g
        go_enter Try.func94, Try.ntmps94
        go_wp2
        go_ret2
        exact ⟨ret_two (tv_out H.out).symm (te_out H.out).symm, rfl⟩
      · have ⟨q1, q2⟩ := quo_fits (wrap64_k (a * b)).1 h0 h1
        have hq := mul_wraps ha h0 H.out
        clear ha hb g
        go_enter Try.func94, Try.ntmps94
        go_wp2
        go_ret2
        exact ⟨ret_two (tv_out H.out).symm (te_out H.out).symm, rfl⟩
      · have hq := mul_cancel (b := b) h0
        clear ha hb
        go_enter Try.func94, Try.ntmps94
        go_wp2
        go_ret2
        exact ⟨ret_two (tv_in H.out).symm (te_in H.out).symm, rfl⟩

theorem ref_mul (a b : Int) (w : World) (ha : Fits a) (hb : Fits b) :
    Calls Try.prog 64 #[.int .i64 a, .int .i64 b] w fun e w' => e = .returned (.tuple #[.int .i64 (tv (a * b)), .int .i64 (te (a * b))]) ∧ w = w' := by
  have ⟨a1, a2⟩ := ha
  have ⟨b1, b2⟩ := hb
  rcases Int.lt_trichotomy a 0 with h | h | h
  · rcases Int.lt_trichotomy b 0 with k | k | k
    · have ⟨q1, q2⟩ := max_quo k
      have hc := over_nn h k
      have t0 : (a == 0) = false := by simp; omega
      have t1 : (b == 0) = false := by simp; omega
      have t2 : decide (0 < a) = false := by simp; omega
      have t3 : decide (a < 0) = true := by simp; omega
      have t4 : decide (0 < b) = false := by simp; omega
      have t5 : decide (b < 0) = true := by simp; omega
      by_cases f : Fits (a * b)
      · have hd : decide (a < Int.tdiv 9223372036854775807 b) = false := by have := hc.mpr f; simp; omega
        have ⟨f1, f2⟩ := f
        have H := Lib.hid f
        clear ha hb hc f
        go_enter Try.func64, Try.ntmps64
        go_wp2
        go_ret2
        exact ⟨ret_two (tv_in H.out).symm (te_in H.out).symm, rfl⟩
      · have hd : decide (a < Int.tdiv 9223372036854775807 b) = true := by have := mt hc.mp f; simp; omega
        have H := Lib.hid f
        clear ha hb hc f
        go_enter Try.func64, Try.ntmps64
        go_wp2
        go_ret2
        exact ⟨ret_two (tv_out H.out).symm (te_out H.out).symm, rfl⟩
    · subst k
      have t0 : (a == 0) = false := by simp; omega
      have H := Lib.hid (show Fits (a * 0) by rw [Int.mul_zero]; decide)
      clear ha hb
      go_enter Try.func64, Try.ntmps64
      go_wp2
      go_ret2
      exact ⟨ret_two (by rw [tv_in H.out, Int.mul_zero]) (te_in H.out).symm, rfl⟩
    · have ⟨q1, q2⟩ := tdiv_le (a := -9223372036854775808) (by decide) k
      have hc := over_np h k
      rw [Int.neg_tdiv] at q1 q2 hc
      have t0 : (a == 0) = false := by simp; omega
      have t1 : (b == 0) = false := by simp; omega
      have t2 : decide (0 < a) = false := by simp; omega
      have t3 : decide (a < 0) = true := by simp; omega
      have t4 : decide (0 < b) = true := by simp; omega
      have t5 : decide (b < 0) = false := by simp; omega
      by_cases f : Fits (a * b)
      · have hd : decide (a < -Int.tdiv 9223372036854775808 b) = false := by have := hc.mpr f; simp; omega
        have ⟨f1, f2⟩ := f
        have H := Lib.hid f
        clear ha hb hc f
        go_enter Try.func64, Try.ntmps64
        go_wp2
        go_ret2
        exact ⟨ret_two (tv_in H.out).symm (te_in H.out).symm, rfl⟩
      · have hd : decide (a < -Int.tdiv 9223372036854775808 b) = true := by have := mt hc.mp f; simp; omega
        have H := Lib.hid f
        clear ha hb hc f
        go_enter Try.func64, Try.ntmps64
        go_wp2
        go_ret2
        exact ⟨ret_two (tv_out H.out).symm (te_out H.out).symm, rfl⟩
  · subst h
    have H := Lib.hid (show Fits (0 * b) by rw [Int.zero_mul]; decide)
    clear ha hb
    go_enter Try.func64, Try.ntmps64
    go_wp2
    go_ret2
    exact ⟨ret_two (by rw [tv_in H.out, Int.zero_mul]) (te_in H.out).symm, rfl⟩
  · rcases Int.lt_trichotomy b 0 with k | k | k
    · have ⟨q1, q2⟩ := tdiv_le (a := -9223372036854775808) (by decide) h
      have hc := over_pn h k
      rw [Int.neg_tdiv] at q1 q2 hc
      have t0 : (a == 0) = false := by simp; omega
      have t1 : (b == 0) = false := by simp; omega
      have t2 : decide (0 < a) = true := by simp; omega
      have t3 : decide (a < 0) = false := by simp; omega
      have t4 : decide (0 < b) = false := by simp; omega
      have t5 : decide (b < 0) = true := by simp; omega
      by_cases f : Fits (a * b)
      · have hd : decide (b < -Int.tdiv 9223372036854775808 a) = false := by have := hc.mpr f; simp; omega
        have ⟨f1, f2⟩ := f
        have H := Lib.hid f
        clear ha hb hc f
        go_enter Try.func64, Try.ntmps64
        go_wp2
        go_ret2
        exact ⟨ret_two (tv_in H.out).symm (te_in H.out).symm, rfl⟩
      · have hd : decide (b < -Int.tdiv 9223372036854775808 a) = true := by have := mt hc.mp f; simp; omega
        have H := Lib.hid f
        clear ha hb hc f
        go_enter Try.func64, Try.ntmps64
        go_wp2
        go_ret2
        exact ⟨ret_two (tv_out H.out).symm (te_out H.out).symm, rfl⟩
    · subst k
      have t0 : (a == 0) = false := by simp; omega
      have H := Lib.hid (show Fits (a * 0) by rw [Int.mul_zero]; decide)
      clear ha hb
      go_enter Try.func64, Try.ntmps64
      go_wp2
      go_ret2
      exact ⟨ret_two (by rw [tv_in H.out, Int.mul_zero]) (te_in H.out).symm, rfl⟩
    · have ⟨q1, q2⟩ := tdiv_le (a := 9223372036854775807) (by decide) k
      have hc := over_pp h k
      have t0 : (a == 0) = false := by simp; omega
      have t1 : (b == 0) = false := by simp; omega
      have t2 : decide (0 < a) = true := by simp; omega
      have t3 : decide (a < 0) = false := by simp; omega
      have t4 : decide (0 < b) = true := by simp; omega
      have t5 : decide (b < 0) = false := by simp; omega
      rw [Int.tdiv_eq_ediv_of_nonneg (by omega)] at q1 q2 hc
      by_cases f : Fits (a * b)
      · have hd : decide (9223372036854775807 / b < a) = false := by have := hc.mpr f; simp; omega
        have ⟨f1, f2⟩ := f
        have H := Lib.hid f
        clear ha hb hc f
        go_enter Try.func64, Try.ntmps64
        go_wp2
        go_ret2
        exact ⟨ret_two (tv_in H.out).symm (te_in H.out).symm, rfl⟩
      · have hd : decide (9223372036854775807 / b < a) = true := by have := mt hc.mp f; simp; omega
        have H := Lib.hid f
        clear ha hb hc f
        go_enter Try.func64, Try.ntmps64
        go_wp2
        go_ret2
        exact ⟨ret_two (tv_out H.out).symm (te_out H.out).symm, rfl⟩
end Go.Proofs.Ytnlgophgglgneaa.Ex
namespace Go.Proofs.Ytnlgophgglgneaa.Ex
open Go.RowKit

theorem common_any (a b : Int) (w : World) (ha : 0 ≤ a) (ha' : a ≤ 9223372036854775807) (hb : 0 ≤ b) (hb' : b ≤ 9223372036854775807) :
    Calls Try.prog 95 #[.int .i64 a, .int .i64 b] w fun e w' => e = .returned (.int .i64 (gc a b)) ∧ ∃ n, w' = w.drewN n := by
  go_enter Try.func95, Try.ntmps95
  go_wp2
  go_step3
  go_wp2
  go_step3
  go_wp2
  go_loopw [0, 1] (fun u v wr => ∃ p q : Int, ∃ n : Nat, 0 ≤ p ∧ p ≤ 9223372036854775807 ∧ 0 ≤ q ∧ q ≤ 9223372036854775807 ∧ gc p q = gc a b ∧ u = .int .i64 p ∧ v = .int .i64 q ∧ wr = w.drewN n) (fun _ v _ => (intOf v).toNat)
  case atStart => exact ⟨a, b, 0, ha, ha', hb, hb', rfl, rfl, rfl, rfl⟩
  case round =>
    obtain ⟨p, q, n, hp, hp', hq, hq', hg, rfl, rfl, rfl⟩ := hrel
    have HG := Lib.hid hg
    clear hg
    by_cases h : q = 0
    · subst h
      go_wp2
      try rw [Exit.noGoto_ret]
      go_ret
      exact ⟨ret_one (by rw [← HG.out, gc_zero hp]), n, rfl⟩
    · have h0 : 0 ≤ p % q := Int.emod_nonneg _ h
      have h1 : p % q < q := Int.emod_lt_of_pos _ (by omega)
      go_wp2
      go_region
      all_goals
        go_wp2
        go_roundw
        case rel => exact ⟨q, p % q, n + 1, hq, hq', h0, by omega, by rw [gc_step hp hq]; exact HG.out, rfl, rfl, rfl⟩
        case measure => simp [intOf]; omega

theorem gcd_any (a b : Int) (w : World) (ha : Fits a) (hb : Fits b) :
    Calls Try.prog 119 #[.int .i64 a, .int .i64 b] w fun e w' => e = .returned (.tuple #[.int .i64 (gv a b), .int .i64 (ge a b)]) ∧ ∃ n, w' = w.drewN n := by
  have ⟨a1, a2⟩ := ha
  have ⟨b1, b2⟩ := hb
  clear ha hb
  by_cases h : a < 0 ∨ b < 0
  · have e1 := Lib.hid (show gv a b = 0 from if_pos h)
    have e2 := Lib.hid (show ge a b = 1 from if_pos h)
    by_cases h1 : a < 0
    · clear h
      go_enter Try.func119, Try.ntmps119
      go_wp2
      go_ret2
      exact ⟨ret_two e1.out.symm e2.out.symm, 0, rfl⟩
    · have h2 : b < 0 := by omega
      clear h
      go_enter Try.func119, Try.ntmps119
      go_wp2
      go_ret2
      exact ⟨ret_two e1.out.symm e2.out.symm, 0, rfl⟩
  · have e1 := Lib.hid (show gv a b = gc a b from if_neg h)
    have e2 := Lib.hid (show ge a b = 0 from if_neg h)
    have h1 : 0 ≤ a := by omega
    have h2 : 0 ≤ b := by omega
    clear h
    go_enter Try.func119, Try.ntmps119
    go_wp2_with (go_at_call 95; refine (common_any _ _ _ (by omega) (by omega) (by omega) (by omega)).mono ?_; rintro e w' ⟨rfl, n, rfl⟩)
    go_ret2
    exact ⟨ret_two e1.out.symm e2.out.symm, _, rfl⟩

theorem ref_gcd_up (k : Nat) : ∀ (a b : Int) (w : World), b ≤ k → 0 ≤ a → a ≤ 9223372036854775807 → 0 ≤ b → b ≤ 9223372036854775807 →
    Calls Try.prog 63 #[.int .i64 a, .int .i64 b] w fun e w' => e = .returned (.tuple #[.int .i64 (gc a b), .int .i64 0]) ∧ w = w' := by
  induction k with
  | zero =>
    intro a b w hk ha ha' hb hb'
    obtain rfl : b = 0 := by omega
    have H := Lib.hid (gc_zero ha)
    go_enter Try.func63, Try.ntmps63
    go_wp2_with fail
    go_ret2
    exact ⟨ret_two H.out.symm rfl, rfl⟩
  | succ k ih =>
    intro a b w hk ha ha' hb hb'
    by_cases h : b = 0
    · subst h
      have H := Lib.hid (gc_zero ha)
      clear hk
      go_enter Try.func63, Try.ntmps63
      go_wp2_with fail
      go_ret2
      exact ⟨ret_two H.out.symm rfl, rfl⟩
    · have h0 : 0 ≤ a % b := Int.emod_nonneg _ h
      have h1 : a % b < b := Int.emod_lt_of_pos _ (by omega)
      have H := Lib.hid (gc_step ha hb)
      have IH := Lib.hid (ih b (a % b) w (by omega) hb hb' h0 (by omega))
      clear ih
      go_enter Try.func63, Try.ntmps63
      go_wp2_with (go_at_call 63; refine IH.out.mono ?_; rintro e w' ⟨rfl, rfl⟩)
      go_ret2
      exact ⟨ret_two H.out rfl, rfl⟩

theorem ref_gcd (a b : Int) (w : World) (ha : Fits a) (hb : Fits b) :
    Calls Try.prog 63 #[.int .i64 a, .int .i64 b] w fun e w' => e = .returned (.tuple #[.int .i64 (gv a b), .int .i64 (ge a b)]) ∧ w = w' := by
  by_cases h : a < 0 ∨ b < 0
  · have ⟨a1, a2⟩ := ha
    have ⟨b1, b2⟩ := hb
    clear ha hb
    have e1 := Lib.hid (show gv a b = 0 from if_pos h)
    have e2 := Lib.hid (show ge a b = 1 from if_pos h)
    by_cases h1 : a < 0
    · clear h
      go_enter Try.func63, Try.ntmps63
      go_wp2_with fail
      go_ret2
      exact ⟨ret_two e1.out.symm e2.out.symm, rfl⟩
    · have h2 : b < 0 := by omega
      clear h
      go_enter Try.func63, Try.ntmps63
      go_wp2_with fail
      go_ret2
      exact ⟨ret_two e1.out.symm e2.out.symm, rfl⟩
  · rw [show gv a b = gc a b from if_neg h, show ge a b = 0 from if_neg h]
    exact ref_gcd_up b.toNat a b w (by omega) (by omega) ha.2 (by omega) hb.2

theorem multiple_any (a n : Int) (w : World) (ha : 0 < a) (ha' : a ≤ 9223372036854775807) (hn : Fits n) :
    Calls Try.prog 71 #[.int .i64 a, .int .i64 n] w fun e w' => e = .returned (.tuple #[.int .i64 (lv a n), .int .i64 (le a n)]) ∧ ∃ k, w' = w.drewN k := by
  have ⟨n1, n2⟩ := hn
  clear hn
  by_cases h : n < 1
  · have e1 := Lib.hid (lv_no (a := a) h)
    have e2 := Lib.hid (le_no (a := a) h)
    go_enter Try.func71, Try.ntmps71
    go_wp2_with fail
    go_ret2
    exact ⟨ret_two e1.out.symm e2.out.symm, 0, rfl⟩
  · have e1 := Lib.hid (lv_up (a := a) (show 1 ≤ n by omega))
    have e2 := Lib.hid (le_up (a := a) (show 1 ≤ n by omega))
    have hg := gc_pos (b := n) ha
    have ⟨q1, q2⟩ := quo_bd ha hg gc_dvd
    go_enter Try.func71, Try.ntmps71
    go_wp2_with (first | (go_at_call 95; refine (common_any _ _ _ (by omega) (by omega) (by omega) (by omega)).mono ?_; rintro e w' ⟨rfl, k, rfl⟩) | (go_at_call 94; refine (mul_any _ _ _ (by unfold Fits; omega) (by unfold Fits; omega)).mono ?_; rintro e w' ⟨rfl, rfl⟩))
    go_ret2
    exact ⟨ret_two e1.out.symm e2.out.symm, _, rfl⟩
end Go.Proofs.Ytnlgophgglgneaa.Ex
namespace Go.Proofs.Ytnlgophgglgneaa.Ex
open Go.RowKit

theorem drop_at {zs : List Int} {k : Nat} (h : k < zs.length) : zs.drop k = zs.getD k 0 :: zs.drop (k + 1) := by
  rw [List.drop_eq_getElem_cons h, List.getD_eq_getElem?_getD, List.getElem?_eq_getElem h]; rfl
theorem fits_at {zs : List Int} (hz : ∀ z ∈ zs, Fits z) (k : Nat) : Fits (zs.getD k 0) := by
  by_cases h : k < zs.length
  · rw [List.getD_eq_getElem?_getD, List.getElem?_eq_getElem h]; exact hz _ (List.getElem_mem h)
  · rw [List.getD_eq_getElem?_getD, List.getElem?_eq_none (by omega)]; decide

theorem lcm_row (zs : List Int) (b off cap : Nat) (w : World) (hz : ∀ z ∈ zs, Fits z) (hl : zs.length ≤ 9223372036854775807)
    (hc : ∀ i, i < zs.length → w.cell? ⟨b, off + i, none⟩ = some (.int .i64 (zs.getD i 0))) :
    Calls Try.prog 47 #[.slice (some ⟨b, off, none⟩) zs.length cap] w fun e w' => e = .returned (.tuple #[.int .i64 (rowL 1 zs).1, .int .i64 (rowL 1 zs).2]) ∧ ∃ n, w' = w.drewN n := by
  obtain ⟨len, hlen⟩ : ∃ len, zs.length = len := ⟨_, rfl⟩
  rw [hlen] at hl hc ⊢
  have HZ := Lib.hid hz
  have HC := Lib.hid hc
  have HL := Lib.hid hlen
  clear hz hc hlen
  go_enter Try.func47, Try.ntmps47
  go_wp2
  go_step3
  go_wp2
  go_step3
  go_wp2
  go_loopw [4, 5, 10] (fun u v i wr => ∃ A : Int, ∃ k n : Nat, 0 < A ∧ A ≤ 9223372036854775807 ∧ k ≤ len ∧ rowL A (zs.drop k) = rowL 1 zs ∧ u = .int .i64 A ∧ v = .int .i64 0 ∧ i = .int .i64 k ∧ wr = w.drewN n) (fun _ _ i _ => len - (intOf i).toNat)
  case atStart => exact ⟨1, 0, 0, by omega, by omega, by omega, rfl, rfl, rfl, rfl, rfl⟩
  case round =>
    obtain ⟨A, k, n, hA, hA', hk, hr, rfl, rfl, rfl, rfl⟩ := hrel
    by_cases h : k < len
    · have hd := drop_at (zs := zs) (k := k) (by rw [HL.out]; exact h)
      have hz := fits_at HZ.out k
      have hcell := HC.out k h
      obtain ⟨z, hz0⟩ : ∃ z, zs.getD k 0 = z := ⟨_, rfl⟩
      rw [hz0] at hd hz hcell
      rw [hd] at hr
      clear hz0 hd
      by_cases g : le A z = 0
      · have ⟨g1, g2⟩ := (le_zero hA g).2.2.2
        rw [rowL_step g] at hr
        have HR := Lib.hid hr
        have G := Lib.hid g
        have g3 : (le A z != 0) = false := by simp [g]
        clear hr g
        go_wp2_with (go_at_call 71; refine (multiple_any _ _ _ (by omega) (by omega) hz).mono ?_; rintro e w' ⟨rfl, m, rfl⟩)
        go_roundw
        case rel => exact ⟨lv A z, k + 1, _, by omega, g2, by omega, HR.out, rfl, by rw [G.out], by go_num, rfl⟩
        case measure => simp [intOf]; omega
      · rw [rowL_stop g] at hr
        have HR := Lib.hid hr
        have G := Lib.hid (le_not g)
        have g3 : (le A z != 0) = true := by simp [g]
        clear hr g
        go_wp2_with (go_at_call 71; refine (multiple_any _ _ _ (by omega) (by omega) hz).mono ?_; rintro e w' ⟨rfl, m, rfl⟩)
        try rw [Exit.noGoto_ret]
        go_ret2
        exact ⟨ret_two (by rw [← HR.out]; exact G.out) (by rw [← HR.out]), _, rfl⟩
    · obtain rfl : k = len := by omega
      rw [List.drop_eq_nil_of_le (by rw [HL.out]; omega)] at hr
      have HR := Lib.hid hr
      clear hr
      go_wp2
      try rw [Exit.noGoto_ret]
      go_ret2
      exact ⟨ret_two (by rw [← HR.out]; rfl) (by rw [← HR.out]; rfl), _, rfl⟩

theorem lcm_none (a : Option Addr) (cap : Nat) (w : World) :
    Calls Try.prog 47 #[.slice a 0 cap] w fun e w' => e = .returned (.tuple #[.int .i64 1, .int .i64 0]) ∧ ∃ n, w' = w.drewN n := by
  go_enter Try.func47, Try.ntmps47
  go_wp2
  go_step3
  go_wp2
  go_step3
  go_wp2
  go_loopw [4, 5, 10] (fun u v i wr => u = .int .i64 1 ∧ v = .int .i64 0 ∧ i = .int .i64 0 ∧ wr = w) (fun _ _ _ _ => 0)
  case atStart => exact ⟨rfl, rfl, rfl, rfl⟩
  case round =>
    obtain ⟨rfl, rfl, rfl, rfl⟩ := hrel
    go_wp2
    try rw [Exit.noGoto_ret]
    go_ret2
    exact ⟨rfl, 0, rfl⟩

theorem ref_lcm_none (a : Option Addr) (cap : Nat) (w : World) :
    Calls Try.prog 36 #[.slice a 0 cap] w fun e w' => e = .returned (.tuple #[.int .i64 1, .int .i64 0]) ∧ ∃ n, w' = w.drewN n := by
  go_enter Try.func36, Try.ntmps36
  go_wp2
  go_loopw [4, 5] (fun u i wr => u = .int .i64 1 ∧ i = .int .i64 0 ∧ wr = w) (fun _ _ _ => 0)
  case atStart => exact ⟨rfl, rfl, rfl⟩
  case round =>
    obtain ⟨rfl, rfl, rfl⟩ := hrel
    go_wp2
    go_ret2
    exact ⟨rfl, 0, rfl⟩

theorem quiet_left {P : Program} {f : FuncId} {args : Array Value} {w : World} {n : Nat} {v : Value}
    (h : Calls P f args (w.drewN n) fun e w' => e = .returned v ∧ w.drewN n = w') : Calls P f args (w.drewN n) fun e w'' => e = .returned v ∧ ∃ m, w'' = w.drewN m :=
  h.mono fun _ _ ⟨he, hm⟩ => ⟨he, n, hm.symm⟩
theorem quiet_add_left {P : Program} {f : FuncId} {args : Array Value} {w : World} {a n : Nat} {v : Value}
    (h : Calls P f args (w.drewN (a + n)) fun e w' => e = .returned v ∧ w.drewN (a + n) = w') :
    Calls P f args (w.drewN (a + n)) fun e w'' => e = .returned v ∧ ∃ m, w'' = w.drewN (a + m) :=
  h.mono fun _ _ ⟨he, hm⟩ => ⟨he, n, hm.symm⟩

theorem ref_lcm_row (zs : List Int) (b off cap : Nat) (w : World) (hz : ∀ z ∈ zs, Fits z) (hl : zs.length ≤ 9223372036854775807)
    (hc : ∀ i, i < zs.length → w.cell? ⟨b, off + i, none⟩ = some (.int .i64 (zs.getD i 0))) :
    Calls Try.prog 36 #[.slice (some ⟨b, off, none⟩) zs.length cap] w fun e w' => e = .returned (.tuple #[.int .i64 (rowL 1 zs).1, .int .i64 (rowL 1 zs).2]) ∧ ∃ n, w' = w.drewN n := by
  obtain ⟨len, hlen⟩ : ∃ len, zs.length = len := ⟨_, rfl⟩
  rw [hlen] at hl hc ⊢
  have HZ := Lib.hid hz
  have HC := Lib.hid hc
  have HL := Lib.hid hlen
  clear hz hc hlen
  go_enter Try.func36, Try.ntmps36
  go_wp2
  go_loopw [4, 5] (fun u i wr => ∃ A : Int, ∃ k n : Nat, 0 < A ∧ A ≤ 9223372036854775807 ∧ k ≤ len ∧ rowL A (zs.drop k) = rowL 1 zs ∧ u = .int .i64 A ∧ i = .int .i64 k ∧ wr = w.drewN n) (fun _ i _ => len - (intOf i).toNat)
  case atStart => exact ⟨1, 0, 0, by omega, by omega, by omega, rfl, rfl, rfl, rfl⟩
  case round =>
    obtain ⟨A, k, n, hA, hA', hk, hr, rfl, rfl, rfl⟩ := hrel
    by_cases h : k < len
    · have hd := drop_at (zs := zs) (k := k) (by rw [HL.out]; exact h)
      have hz := fits_at HZ.out k
      have hcell := HC.out k h
      obtain ⟨z, hz0⟩ : ∃ z, zs.getD k 0 = z := ⟨_, rfl⟩
      rw [hz0] at hd hz hcell
      rw [hd] at hr
      have ⟨z1, z2⟩ := hz
      clear hz0 hd
      by_cases hz1 : z < 1
      · rw [rowL_stop (by rw [le_no hz1]; omega), le_no hz1] at hr
        have HR := Lib.hid hr
        clear hr hz
        go_wp2
        go_ret2
        exact ⟨ret_two (by rw [← HR.out]) (by rw [← HR.out]), _, rfl⟩
      · have e1 := Lib.hid (lv_up (a := A) (show 1 ≤ z by omega))
        have e2 := Lib.hid (le_up (a := A) (show 1 ≤ z by omega))
        have e3 : Hid (ge A z = 0) := Lib.hid (show ge A z = 0 from if_neg (by omega))
        have e4 : Hid (gv A z = gc A z) := Lib.hid (show gv A z = gc A z from if_neg (by omega))
        have hg := gc_pos (b := z) hA
        have ⟨q1, q2⟩ := quo_bd hA hg gc_dvd
        by_cases g : le A z = 0
        · have ⟨g1, g2⟩ := (le_zero hA g).2.2.2
          rw [rowL_step g] at hr
          have HR := Lib.hid hr
          rw [e2.out] at g
          have g3 : (te (A / gc A z * z) != 0) = false := by simp only [lc] at g; simp [g]
          clear hr g hz
          go_wp2_with (go_at_call 63; refine (ref_gcd _ _ _ (by unfold Fits; omega) (by unfold Fits; omega)).mono ?_; rintro e w' ⟨rfl, rfl⟩; rw [e4.out])
          have d1 : ¬ gc A z = 0 := by omega
          have d2 : (gc A z == 0) = false := by simp; omega
          have d3 : A.tdiv (gc A z) = A / gc A z := Int.tdiv_eq_ediv_of_nonneg (by omega)
          have d4 : IntKind.i64.wrap (A / gc A z) = A / gc A z := IntWalk.i64_in _ (by omega)
          go_quiet ((go_at_call 64; exact quiet_add_left (ref_mul _ _ _ (by unfold Fits; omega) (by unfold Fits; omega))))
          all_goals
            go_wp2
            go_roundw
            case rel => exact ⟨lv A z, k + 1, _, by omega, g2, by omega, HR.out, by rw [e1.out]; rfl, by go_num, rfl⟩
            case measure => simp [intOf]; omega
        · rw [rowL_stop g] at hr
          have HR := Lib.hid hr
          rw [e2.out] at g
          have g3 : (te (A / gc A z * z) != 0) = true := by simp only [lc] at g; simp [g]
          clear hr g hz
          go_wp2_with (go_at_call 63; refine (ref_gcd _ _ _ (by unfold Fits; omega) (by unfold Fits; omega)).mono ?_; rintro e w' ⟨rfl, rfl⟩; rw [e4.out])
          have d1 : ¬ gc A z = 0 := by omega
          have d2 : (gc A z == 0) = false := by simp; omega
          have d3 : A.tdiv (gc A z) = A / gc A z := Int.tdiv_eq_ediv_of_nonneg (by omega)
          have d4 : IntKind.i64.wrap (A / gc A z) = A / gc A z := IntWalk.i64_in _ (by omega)
          go_quiet ((go_at_call 64; exact quiet_add_left (ref_mul _ _ _ (by unfold Fits; omega) (by unfold Fits; omega))))
          all_goals
            go_wp2
            go_ret2
            exact ⟨ret_two (by rw [← HR.out]) (by rw [← HR.out, e2.out]; rfl), _, rfl⟩
    · obtain rfl : k = len := by omega
      rw [List.drop_eq_nil_of_le (by rw [HL.out]; omega)] at hr
      have HR := Lib.hid hr
      clear hr
      go_wp2
      go_ret2
      exact ⟨ret_two (by rw [← HR.out]; rfl) (by rw [← HR.out]; rfl), _, rfl⟩
end Go.Proofs.Ytnlgophgglgneaa.Ex
