/-
  What common, Gcd and multiple give back: contracts.
-/
import Derived.Test.YtmalcnebejgajaaMul
import Derived.Test.YtmalcnebejgajaaPlainGcd
import Derived.Outline
import Derived.Deep.QuietTactic
import Derived.BigQuiet
namespace Go.Proofs.Ytmalcnebejgajaa
open Go.RowKit

theorem common_any (a b : Int) (w : World) (ha : 0 ≤ a) (ha' : a ≤ 9223372036854775807) (hb : 0 ≤ b) (hb' : b ≤ 9223372036854775807) :
    Calls Try.prog 25 #[.int .i64 a, .int .i64 b] w fun e w' => e = .returned (.int .i64 (gc a b)) ∧ ∃ n, w' = w.drewN n := by
  go_enter Try.func25, Try.ntmps25
  go_wp2
  go_step3
  go_wp2
  go_step3
  go_wp2
  go_loopw [0, 1] (fun u v wr => ∃ p q : Int, ∃ n : Nat, 0 ≤ p ∧ p ≤ 9223372036854775807 ∧ 0 ≤ q ∧ q ≤ 9223372036854775807 ∧ gc p q = gc a b ∧ u = .int .i64 p ∧ v = .int .i64 q ∧ wr = w.drewN n) (fun _ v _ => (intOf v).toNat)
  case atStart => exact ⟨a, b, 0, ha, ha', hb, hb', rfl, rfl, rfl, rfl⟩
  case round =>
    obtain ⟨p, q, n, hp, hp', hq, hq', hg, rfl, rfl, rfl⟩ := hrel
    have HG := Lib.hid hg
    clear hg
    by_cases h : q = 0
    · subst h
      go_wp2
      try rw [Exit.noGoto_ret]
      go_ret
      exact ⟨ret_one (by rw [← HG.out, gc_zero hp]), n, rfl⟩
    · have h0 : 0 ≤ p % q := Int.emod_nonneg _ h
      have h1 : p % q < q := Int.emod_lt_of_pos _ (by omega)
      go_wp2
      go_region
      all_goals
        go_wp2
        go_roundw
        case rel => exact ⟨q, p % q, n + 1, hq, hq', h0, by omega, by rw [gc_step hp hq]; exact HG.out, rfl, rfl, rfl⟩
        case measure => simp [intOf]; omega

theorem gcd_any (a b : Int) (w : World) (ha : Fits a) (hb : Fits b) :
    Calls Try.prog 20 #[.int .i64 a, .int .i64 b] w fun e w' => e = .returned (.tuple #[.int .i64 (gv a b), .int .i64 (ge a b)]) ∧ ∃ n, w' = w.drewN n := by
  have ⟨a1, a2⟩ := ha
  have ⟨b1, b2⟩ := hb
  clear ha hb
  by_cases h : a < 0 ∨ b < 0
  · have e1 := Lib.hid (show gv a b = 0 from if_pos h)
    have e2 := Lib.hid (show ge a b = 1 from if_pos h)
    by_cases h1 : a < 0
    · clear h
      go_enter Try.func20, Try.ntmps20
      go_wp2
      go_ret2
      exact ⟨ret_two e1.out.symm e2.out.symm, 0, rfl⟩
    · have h2 : b < 0 := by omega
      clear h
      go_enter Try.func20, Try.ntmps20
      go_wp2
      go_ret2
      exact ⟨ret_two e1.out.symm e2.out.symm, 0, rfl⟩
  · have e1 := Lib.hid (show gv a b = gc a b from if_neg h)
    have e2 := Lib.hid (show ge a b = 0 from if_neg h)
    have h1 : 0 ≤ a := by omega
    have h2 : 0 ≤ b := by omega
    clear h
    go_enter Try.func20, Try.ntmps20
    go_wp2_with (go_at_call 25; refine (common_any _ _ _ (by omega) (by omega) (by omega) (by omega)).mono ?_; rintro e w' ⟨rfl, n, rfl⟩)
    go_ret2
    exact ⟨ret_two e1.out.symm e2.out.symm, _, rfl⟩

theorem ref_gcd_up (k : Nat) : ∀ (a b : Int) (w : World), b ≤ k → 0 ≤ a → a ≤ 9223372036854775807 → 0 ≤ b → b ≤ 9223372036854775807 →
    Calls Try.prog 21 #[.int .i64 a, .int .i64 b] w fun e w' => e = .returned (.tuple #[.int .i64 (gc a b), .int .i64 0]) ∧ w = w' := by
  induction k with
  | zero =>
    intro a b w hk ha ha' hb hb'
    obtain rfl : b = 0 := by omega
    have H := Lib.hid (gc_zero ha)
    go_enter Try.func21, Try.ntmps21
    go_wp2_with fail
    go_ret2
    exact ⟨ret_two H.out.symm rfl, rfl⟩
  | succ k ih =>
    intro a b w hk ha ha' hb hb'
    by_cases h : b = 0
    · subst h
      have H := Lib.hid (gc_zero ha)
      clear hk
      go_enter Try.func21, Try.ntmps21
      go_wp2_with fail
      go_ret2
      exact ⟨ret_two H.out.symm rfl, rfl⟩
    · have h0 : 0 ≤ a % b := Int.emod_nonneg _ h
      have h1 : a % b < b := Int.emod_lt_of_pos _ (by omega)
      have H := Lib.hid (gc_step ha hb)
      have IH := Lib.hid (ih b (a % b) w (by omega) hb hb' h0 (by omega))
      clear ih
      go_enter Try.func21, Try.ntmps21
      go_wp2_with (go_at_call 21; refine IH.out.mono ?_; rintro e w' ⟨rfl, rfl⟩)
      go_ret2
      exact ⟨ret_two H.out rfl, rfl⟩

theorem ref_gcd (a b : Int) (w : World) (ha : Fits a) (hb : Fits b) :
    Calls Try.prog 21 #[.int .i64 a, .int .i64 b] w fun e w' => e = .returned (.tuple #[.int .i64 (gv a b), .int .i64 (ge a b)]) ∧ w = w' := by
  by_cases h : a < 0 ∨ b < 0
  · have ⟨a1, a2⟩ := ha
    have ⟨b1, b2⟩ := hb
    clear ha hb
    have e1 := Lib.hid (show gv a b = 0 from if_pos h)
    have e2 := Lib.hid (show ge a b = 1 from if_pos h)
    by_cases h1 : a < 0
    · clear h
      go_enter Try.func21, Try.ntmps21
      go_wp2_with fail
      go_ret2
      exact ⟨ret_two e1.out.symm e2.out.symm, rfl⟩
    · have h2 : b < 0 := by omega
      clear h
      go_enter Try.func21, Try.ntmps21
      go_wp2_with fail
      go_ret2
      exact ⟨ret_two e1.out.symm e2.out.symm, rfl⟩
  · rw [show gv a b = gc a b from if_neg h, show ge a b = 0 from if_neg h]
    exact ref_gcd_up b.toNat a b w (by omega) (by omega) ha.2 (by omega) hb.2

theorem multiple_any (a n : Int) (w : World) (ha : 0 < a) (ha' : a ≤ 9223372036854775807) (hn : Fits n) :
    Calls Try.prog 26 #[.int .i64 a, .int .i64 n] w fun e w' => e = .returned (.tuple #[.int .i64 (lv a n), .int .i64 (le a n)]) ∧ ∃ k, w' = w.drewN k := by
  have ⟨n1, n2⟩ := hn
  clear hn
  by_cases h : n < 1
  · have e1 := Lib.hid (lv_no (a := a) h)
    have e2 := Lib.hid (le_no (a := a) h)
    go_enter Try.func26, Try.ntmps26
    go_wp2_with fail
    go_ret2
    exact ⟨ret_two e1.out.symm e2.out.symm, 0, rfl⟩
  · have e1 := Lib.hid (lv_up (a := a) (show 1 ≤ n by omega))
    have e2 := Lib.hid (le_up (a := a) (show 1 ≤ n by omega))
    have hg := gc_pos (b := n) ha
    have ⟨q1, q2⟩ := quo_bd ha hg gc_dvd
    go_enter Try.func26, Try.ntmps26
    go_wp2_with (first | (go_at_call 25; refine (common_any _ _ _ (by omega) (by omega) (by omega) (by omega)).mono ?_; rintro e w' ⟨rfl, k, rfl⟩) | (go_at_call 14; refine (mul_any _ _ _ (by unfold Fits; omega) (by unfold Fits; omega)).mono ?_; rintro e w' ⟨rfl, rfl⟩))
    go_ret2
    exact ⟨ret_two e1.out.symm e2.out.symm, _, rfl⟩
end Go.Proofs.Ytmalcnebejgajaa
