/-
  What Mul gives back, of exact and of the document's answer: contracts.
-/
import Derived.Test.YtmalcnebejgajaaSums
namespace Go.Proofs.Ytmalcnebejgajaa
open Go.RowKit

theorem mul_any (a b : Int) (w : World) (ha : Fits a) (hb : Fits b) :
    Calls Try.prog 14 #[.int .i64 a, .int .i64 b] w fun e w' => e = .returned (.tuple #[.int .i64 (tv (a * b)), .int .i64 (te (a * b))]) ∧ w = w' := by
  by_cases h0 : a = 0
  · subst h0
    have H := Lib.hid (show Fits (0 * b) by rw [Int.zero_mul]; decide)
    clear ha hb
    go_enter Try.func14, Try.ntmps14
    go_wp2
    go_ret2
    exact ⟨ret_two (by rw [tv_in H.out, Int.zero_mul]) (te_in H.out).symm, rfl⟩
  · have ⟨a1, a2⟩ := ha
    have ⟨b1, b2⟩ := hb
    by_cases h1 : a = -1
    · subst h1
      rcases fits_cases (-1 * b) with ⟨g, H⟩ | ⟨g, H⟩ | ⟨g, g', H⟩
      · omega
      · obtain rfl : b = -9223372036854775808 := by omega
        clear ha hb h0
        go_enter Try.func14, Try.ntmps14
        go_wp2
        go_ret2
        exact ⟨ret_two (tv_out H.out).symm (te_out H.out).symm, rfl⟩
      · have hb' : -9223372036854775808 < b := by omega
        have hq := mul_cancel (b := b) h0
        clear ha hb
        go_enter Try.func14, Try.ntmps14
        go_wp2
        go_ret2
        exact ⟨ret_two (by rw [tv_in H.out]; omega) (te_in H.out).symm, rfl⟩
    · rcases fits_cases (a * b) with ⟨g, H⟩ | ⟨g, H⟩ | ⟨g, g', H⟩
      · have ⟨q1, q2⟩ := quo_fits (wrap64_k (a * b)).1 h0 h1
        have hq := mul_wraps ha h0 H.out
        clear ha hb g
        go_enter Try.func14, Try.ntmps14
        go_wp2
        go_ret2
        exact ⟨ret_two (tv_out H.out).symm (te_out H.out).symm, rfl⟩
      · have ⟨q1, q2⟩ := quo_fits (wrap64_k (a * b)).1 h0 h1
        have hq := mul_wraps ha h0 H.out
        clear ha hb g
        go_enter Try.func14, Try.ntmps14
        go_wp2
        go_ret2
        exact ⟨ret_two (tv_out H.out).symm (te_out H.out).symm, rfl⟩
      · have hq := mul_cancel (b := b) h0
        clear ha hb
        go_enter Try.func14, Try.ntmps14
        go_wp2
        go_ret2
        exact ⟨ret_two (tv_in H.out).symm (te_in H.out).symm, rfl⟩

theorem ref_mul (a b : Int) (w : World) (ha : Fits a) (hb : Fits b) :
    Calls Try.prog 15 #[.int .i64 a, .int .i64 b] w fun e w' => e = .returned (.tuple #[.int .i64 (tv (a * b)), .int .i64 (te (a * b))]) ∧ w = w' := by
  have ⟨a1, a2⟩ := ha
  have ⟨b1, b2⟩ := hb
  rcases Int.lt_trichotomy a 0 with h | h | h
  · rcases Int.lt_trichotomy b 0 with k | k | k
    · have ⟨q1, q2⟩ := max_quo k
      have hc := over_nn h k
      have t0 : (a == 0) = false := by simp; omega
      have t1 : (b == 0) = false := by simp; omega
      have t2 : decide (0 < a) = false := by simp; omega
      have t3 : decide (a < 0) = true := by simp; omega
      have t4 : decide (0 < b) = false := by simp; omega
      have t5 : decide (b < 0) = true := by simp; omega
      by_cases f : Fits (a * b)
      · have hd : decide (a < Int.tdiv 9223372036854775807 b) = false := by have := hc.mpr f; simp; omega
        have ⟨f1, f2⟩ := f
        have H := Lib.hid f
        clear ha hb hc f
        go_enter Try.func15, Try.ntmps15
        go_wp2
        go_ret2
        exact ⟨ret_two (tv_in H.out).symm (te_in H.out).symm, rfl⟩
      · have hd : decide (a < Int.tdiv 9223372036854775807 b) = true := by have := mt hc.mp f; simp; omega
        have H := Lib.hid f
        clear ha hb hc f
        go_enter Try.func15, Try.ntmps15
        go_wp2
        go_ret2
        exact ⟨ret_two (tv_out H.out).symm (te_out H.out).symm, rfl⟩
    · subst k
      have t0 : (a == 0) = false := by simp; omega
      have H := Lib.hid (show Fits (a * 0) by rw [Int.mul_zero]; decide)
      clear ha hb
      go_enter Try.func15, Try.ntmps15
      go_wp2
      go_ret2
      exact ⟨ret_two (by rw [tv_in H.out, Int.mul_zero]) (te_in H.out).symm, rfl⟩
    · have ⟨q1, q2⟩ := tdiv_le (a := -9223372036854775808) (by decide) k
      have hc := over_np h k
      rw [Int.neg_tdiv] at q1 q2 hc
      have t0 : (a == 0) = false := by simp; omega
      have t1 : (b == 0) = false := by simp; omega
      have t2 : decide (0 < a) = false := by simp; omega
      have t3 : decide (a < 0) = true := by simp; omega
      have t4 : decide (0 < b) = true := by simp; omega
      have t5 : decide (b < 0) = false := by simp; omega
      by_cases f : Fits (a * b)
      · have hd : decide (a < -Int.tdiv 9223372036854775808 b) = false := by have := hc.mpr f; simp; omega
        have ⟨f1, f2⟩ := f
        have H := Lib.hid f
        clear ha hb hc f
        go_enter Try.func15, Try.ntmps15
        go_wp2
        go_ret2
        exact ⟨ret_two (tv_in H.out).symm (te_in H.out).symm, rfl⟩
      · have hd : decide (a < -Int.tdiv 9223372036854775808 b) = true := by have := mt hc.mp f; simp; omega
        have H := Lib.hid f
        clear ha hb hc f
        go_enter Try.func15, Try.ntmps15
        go_wp2
        go_ret2
        exact ⟨ret_two (tv_out H.out).symm (te_out H.out).symm, rfl⟩
  · subst h
    have H := Lib.hid (show Fits (0 * b) by rw [Int.zero_mul]; decide)
    clear ha hb
    go_enter Try.func15, Try.ntmps15
    go_wp2
    go_ret2
    exact ⟨ret_two (by rw [tv_in H.out, Int.zero_mul]) (te_in H.out).symm, rfl⟩
  · rcases Int.lt_trichotomy b 0 with k | k | k
    · have ⟨q1, q2⟩ := tdiv_le (a := -9223372036854775808) (by decide) h
      have hc := over_pn h k
      rw [Int.neg_tdiv] at q1 q2 hc
      have t0 : (a == 0) = false := by simp; omega
      have t1 : (b == 0) = false := by simp; omega
      have t2 : decide (0 < a) = true := by simp; omega
      have t3 : decide (a < 0) = false := by simp; omega
      have t4 : decide (0 < b) = false := by simp; omega
      have t5 : decide (b < 0) = true := by simp; omega
      by_cases f : Fits (a * b)
      · have hd : decide (b < -Int.tdiv 9223372036854775808 a) = false := by have := hc.mpr f; simp; omega
        have ⟨f1, f2⟩ := f
        have H := Lib.hid f
        clear ha hb hc f
        go_enter Try.func15, Try.ntmps15
        go_wp2
        go_ret2
        exact ⟨ret_two (tv_in H.out).symm (te_in H.out).symm, rfl⟩
      · have hd : decide (b < -Int.tdiv 9223372036854775808 a) = true := by have := mt hc.mp f; simp; omega
        have H := Lib.hid f
        clear ha hb hc f
        go_enter Try.func15, Try.ntmps15
        go_wp2
        go_ret2
        exact ⟨ret_two (tv_out H.out).symm (te_out H.out).symm, rfl⟩
    · subst k
      have t0 : (a == 0) = false := by simp; omega
      have H := Lib.hid (show Fits (a * 0) by rw [Int.mul_zero]; decide)
      clear ha hb
      go_enter Try.func15, Try.ntmps15
      go_wp2
      go_ret2
      exact ⟨ret_two (by rw [tv_in H.out, Int.mul_zero]) (te_in H.out).symm, rfl⟩
    · have ⟨q1, q2⟩ := tdiv_le (a := 9223372036854775807) (by decide) k
      have hc := over_pp h k
      have t0 : (a == 0) = false := by simp; omega
      have t1 : (b == 0) = false := by simp; omega
      have t2 : decide (0 < a) = true := by simp; omega
      have t3 : decide (a < 0) = false := by simp; omega
      have t4 : decide (0 < b) = true := by simp; omega
      have t5 : decide (b < 0) = false := by simp; omega
      rw [Int.tdiv_eq_ediv_of_nonneg (by omega)] at q1 q2 hc
      by_cases f : Fits (a * b)
      · have hd : decide (9223372036854775807 / b < a) = false := by have := hc.mpr f; simp; omega
        have ⟨f1, f2⟩ := f
        have H := Lib.hid f
        clear ha hb hc f
        go_enter Try.func15, Try.ntmps15
        go_wp2
        go_ret2
        exact ⟨ret_two (tv_in H.out).symm (te_in H.out).symm, rfl⟩
      · have hd : decide (9223372036854775807 / b < a) = true := by have := mt hc.mp f; simp; omega
        have H := Lib.hid f
        clear ha hb hc f
        go_enter Try.func15, Try.ntmps15
        go_wp2
        go_ret2
        exact ⟨ret_two (tv_out H.out).symm (te_out H.out).symm, rfl⟩
end Go.Proofs.Ytmalcnebejgajaa
