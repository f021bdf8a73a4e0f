/-
  What each function of exact, and of the document's answer, gives back: contracts of those that only reckon.
-/
import Derived.Test.YtmalcnebejgajaaRows
import Derived.Test.YtmalcnebejgajaaPlain
import Derived.WalkKit
import Derived.Lib.Hide
namespace Go.Proofs.Ytmalcnebejgajaa
open Go.RowKit

theorem ret_two {a b c d : Int} (h : a = b) (k : c = d) : Ending.returned (.tuple #[.int .i64 a, .int .i64 c]) = .returned (.tuple #[.int .i64 b, .int .i64 d]) := by rw [h, k]
theorem ret_one {a b : Int} (h : a = b) : Ending.returned (.int .i64 a) = .returned (.int .i64 b) := by rw [h]

theorem add_any (a b : Int) (w : World) (ha : Fits a) (hb : Fits b) :
    Calls Try.prog 10 #[.int .i64 a, .int .i64 b] w fun e w' => e = .returned (.tuple #[.int .i64 (tv (a + b)), .int .i64 (te (a + b))]) ∧ w = w' := by
  have ⟨a1, a2⟩ := ha
  have ⟨b1, b2⟩ := hb
  clear ha hb
  rcases Int.lt_trichotomy b 0 with h | h | h
  · rcases fits_cases (a + b) with ⟨g, H⟩ | ⟨g, H⟩ | ⟨g, g', H⟩
    · go_enter Try.func10, Try.ntmps10
      go_wp2
      go_ret2
      exact ⟨ret_two (tv_out H.out).symm (te_out H.out).symm, rfl⟩
    · omega
    · go_enter Try.func10, Try.ntmps10
      go_wp2
      go_ret2
      exact ⟨ret_two (tv_in H.out).symm (te_in H.out).symm, rfl⟩
  · subst h
    rcases fits_cases (a + 0) with ⟨g, H⟩ | ⟨g, H⟩ | ⟨g, g', H⟩
    · omega
    · omega
    · go_enter Try.func10, Try.ntmps10
      go_wp2
      go_ret2
      exact ⟨ret_two (by rw [tv_in H.out]; omega) (te_in H.out).symm, rfl⟩
  · rcases fits_cases (a + b) with ⟨g, H⟩ | ⟨g, H⟩ | ⟨g, g', H⟩
    · omega
    · go_enter Try.func10, Try.ntmps10
      go_wp2
      go_ret2
      exact ⟨ret_two (tv_out H.out).symm (te_out H.out).symm, rfl⟩
    · go_enter Try.func10, Try.ntmps10
      go_wp2
      go_ret2
      exact ⟨ret_two (tv_in H.out).symm (te_in H.out).symm, rfl⟩

theorem ref_add (a b : Int) (w : World) (ha : Fits a) (hb : Fits b) :
    Calls Try.prog 11 #[.int .i64 a, .int .i64 b] w fun e w' => e = .returned (.tuple #[.int .i64 (tv (a + b)), .int .i64 (te (a + b))]) ∧ w = w' := by
  have ⟨a1, a2⟩ := ha
  have ⟨b1, b2⟩ := hb
  clear ha hb
  rcases Int.lt_trichotomy b 0 with h | h | h
  · rcases fits_cases (a + b) with ⟨g, H⟩ | ⟨g, H⟩ | ⟨g, g', H⟩
    · go_enter Try.func11, Try.ntmps11
      go_wp2
      go_ret2
      exact ⟨ret_two (tv_out H.out).symm (te_out H.out).symm, rfl⟩
    · omega
    · go_enter Try.func11, Try.ntmps11
      go_wp2
      go_ret2
      exact ⟨ret_two (tv_in H.out).symm (te_in H.out).symm, rfl⟩
  · subst h
    rcases fits_cases (a + 0) with ⟨g, H⟩ | ⟨g, H⟩ | ⟨g, g', H⟩
    · omega
    · omega
    · go_enter Try.func11, Try.ntmps11
      go_wp2
      go_ret2
      exact ⟨ret_two (by rw [tv_in H.out]; omega) (te_in H.out).symm, rfl⟩
  · rcases fits_cases (a + b) with ⟨g, H⟩ | ⟨g, H⟩ | ⟨g, g', H⟩
    · omega
    · go_enter Try.func11, Try.ntmps11
      go_wp2
      go_ret2
      exact ⟨ret_two (tv_out H.out).symm (te_out H.out).symm, rfl⟩
    · go_enter Try.func11, Try.ntmps11
      go_wp2
      go_ret2
      exact ⟨ret_two (tv_in H.out).symm (te_in H.out).symm, rfl⟩

theorem sub_any (a b : Int) (w : World) (ha : Fits a) (hb : Fits b) :
    Calls Try.prog 12 #[.int .i64 a, .int .i64 b] w fun e w' => e = .returned (.tuple #[.int .i64 (tv (a - b)), .int .i64 (te (a - b))]) ∧ w = w' := by
  have ⟨a1, a2⟩ := ha
  have ⟨b1, b2⟩ := hb
  clear ha hb
  rcases Int.lt_trichotomy b 0 with h | h | h
  · rcases fits_cases (a - b) with ⟨g, H⟩ | ⟨g, H⟩ | ⟨g, g', H⟩
    · omega
    · go_enter Try.func12, Try.ntmps12
      go_wp2
      go_ret2
      exact ⟨ret_two (tv_out H.out).symm (te_out H.out).symm, rfl⟩
    · go_enter Try.func12, Try.ntmps12
      go_wp2
      go_ret2
      exact ⟨ret_two (tv_in H.out).symm (te_in H.out).symm, rfl⟩
  · subst h
    rcases fits_cases (a - 0) with ⟨g, H⟩ | ⟨g, H⟩ | ⟨g, g', H⟩
    · omega
    · omega
    · go_enter Try.func12, Try.ntmps12
      go_wp2
      go_ret2
      exact ⟨ret_two (by rw [tv_in H.out]; omega) (te_in H.out).symm, rfl⟩
  · rcases fits_cases (a - b) with ⟨g, H⟩ | ⟨g, H⟩ | ⟨g, g', H⟩
    · go_enter Try.func12, Try.ntmps12
      go_wp2
      go_ret2
      exact ⟨ret_two (tv_out H.out).symm (te_out H.out).symm, rfl⟩
    · omega
    · go_enter Try.func12, Try.ntmps12
      go_wp2
      go_ret2
      exact ⟨ret_two (tv_in H.out).symm (te_in H.out).symm, rfl⟩

theorem ref_sub (a b : Int) (w : World) (ha : Fits a) (hb : Fits b) :
    Calls Try.prog 13 #[.int .i64 a, .int .i64 b] w fun e w' => e = .returned (.tuple #[.int .i64 (tv (a - b)), .int .i64 (te (a - b))]) ∧ w = w' := by
  have ⟨a1, a2⟩ := ha
  have ⟨b1, b2⟩ := hb
  clear ha hb
  rcases Int.lt_trichotomy b 0 with h | h | h
  · rcases fits_cases (a - b) with ⟨g, H⟩ | ⟨g, H⟩ | ⟨g, g', H⟩
    · omega
    · go_enter Try.func13, Try.ntmps13
      go_wp2
      go_ret2
      exact ⟨ret_two (tv_out H.out).symm (te_out H.out).symm, rfl⟩
    · go_enter Try.func13, Try.ntmps13
      go_wp2
      go_ret2
      exact ⟨ret_two (tv_in H.out).symm (te_in H.out).symm, rfl⟩
  · subst h
    rcases fits_cases (a - 0) with ⟨g, H⟩ | ⟨g, H⟩ | ⟨g, g', H⟩
    · omega
    · omega
    · go_enter Try.func13, Try.ntmps13
      go_wp2
      go_ret2
      exact ⟨ret_two (by rw [tv_in H.out]; omega) (te_in H.out).symm, rfl⟩
  · rcases fits_cases (a - b) with ⟨g, H⟩ | ⟨g, H⟩ | ⟨g, g', H⟩
    · go_enter Try.func13, Try.ntmps13
      go_wp2
      go_ret2
      exact ⟨ret_two (tv_out H.out).symm (te_out H.out).symm, rfl⟩
    · omega
    · go_enter Try.func13, Try.ntmps13
      go_wp2
      go_ret2
      exact ⟨ret_two (tv_in H.out).symm (te_in H.out).symm, rfl⟩

theorem floor_any (a b : Int) (w : World) (ha : Fits a) (hb : Fits b) :
    Calls Try.prog 16 #[.int .i64 a, .int .i64 b] w fun e w' => e = .returned (.tuple #[.int .i64 (fv a b), .int .i64 (de b)]) ∧ w = w' := by
  rcases Int.lt_trichotomy b 0 with h | h | h
  · have e1 := Lib.hid (fv_no (a := a) (Int.le_of_lt h))
    have e2 := Lib.hid (de_neg h)
    have ⟨b1, b2⟩ := hb
    clear ha hb
    go_enter Try.func16, Try.ntmps16
    go_wp2
    go_ret2
    exact ⟨ret_two e1.out.symm e2.out.symm, rfl⟩
  · subst h
    clear ha hb
    go_enter Try.func16, Try.ntmps16
    go_wp2
    go_ret2
    exact ⟨ret_two rfl rfl, rfl⟩
  · have e2 := Lib.hid (de_up h)
    have ⟨b1, b2⟩ := hb
    have ⟨q1, q2⟩ := tdiv_le ha h
    by_cases hr : a.tmod b < 0
    · have q3 := tdiv_lo ha h hr
      have e1 := Lib.hid ((floor_neg h hr).trans (fv_up h).symm)
      clear ha hb
      go_enter Try.func16, Try.ntmps16
      go_wp2
      go_ret2
      exact ⟨ret_two e1.out e2.out.symm, rfl⟩
    · have e1 := Lib.hid ((floor_pos (a := a) h (by omega)).trans (fv_up h).symm)
      clear ha hb
      go_enter Try.func16, Try.ntmps16
      go_wp2
      go_ret2
      exact ⟨ret_two e1.out e2.out.symm, rfl⟩

theorem ref_floor (a b : Int) (w : World) (ha : Fits a) (hb : Fits b) :
    Calls Try.prog 17 #[.int .i64 a, .int .i64 b] w fun e w' => e = .returned (.tuple #[.int .i64 (fv a b), .int .i64 (de b)]) ∧ w = w' := by
  rcases Int.lt_trichotomy b 0 with h | h | h
  · have e1 := Lib.hid (fv_no (a := a) (Int.le_of_lt h))
    have e2 := Lib.hid (de_neg h)
    have ⟨b1, b2⟩ := hb
    clear ha hb
    go_enter Try.func17, Try.ntmps17
    go_wp2
    go_ret2
    exact ⟨ret_two e1.out.symm e2.out.symm, rfl⟩
  · subst h
    clear ha hb
    go_enter Try.func17, Try.ntmps17
    go_wp2
    go_ret2
    exact ⟨ret_two rfl rfl, rfl⟩
  · have e2 := Lib.hid (de_up h)
    have ⟨b1, b2⟩ := hb
    have ⟨q1, q2⟩ := tdiv_le ha h
    by_cases hr : a.tmod b < 0
    · have q3 := tdiv_lo ha h hr
      have e1 := Lib.hid ((floor_neg h hr).trans (fv_up h).symm)
      clear ha hb
      go_enter Try.func17, Try.ntmps17
      go_wp2
      go_ret2
      exact ⟨ret_two e1.out e2.out.symm, rfl⟩
    · have e1 := Lib.hid ((floor_pos (a := a) h (by omega)).trans (fv_up h).symm)
      clear ha hb
      go_enter Try.func17, Try.ntmps17
      go_wp2
      go_ret2
      exact ⟨ret_two e1.out e2.out.symm, rfl⟩

theorem ceil_any (a b : Int) (w : World) (ha : Fits a) (hb : Fits b) :
    Calls Try.prog 18 #[.int .i64 a, .int .i64 b] w fun e w' => e = .returned (.tuple #[.int .i64 (cv a b), .int .i64 (de b)]) ∧ w = w' := by
  rcases Int.lt_trichotomy b 0 with h | h | h
  · have e1 := Lib.hid (cv_no (a := a) (Int.le_of_lt h))
    have e2 := Lib.hid (de_neg h)
    have ⟨b1, b2⟩ := hb
    clear ha hb
    go_enter Try.func18, Try.ntmps18
    go_wp2
    go_ret2
    exact ⟨ret_two e1.out.symm e2.out.symm, rfl⟩
  · subst h
    clear ha hb
    go_enter Try.func18, Try.ntmps18
    go_wp2
    go_ret2
    exact ⟨ret_two rfl rfl, rfl⟩
  · have e2 := Lib.hid (de_up h)
    have ⟨b1, b2⟩ := hb
    have ⟨q1, q2⟩ := tdiv_le ha h
    by_cases hr : 0 < a.tmod b
    · have q3 := tdiv_hi ha h hr
      have e1 := Lib.hid ((ceil_pos h hr).trans (cv_up h).symm)
      clear ha hb
      go_enter Try.func18, Try.ntmps18
      go_wp2
      go_ret2
      exact ⟨ret_two e1.out e2.out.symm, rfl⟩
    · have e1 := Lib.hid ((ceil_neg (a := a) h (by omega)).trans (cv_up h).symm)
      clear ha hb
      go_enter Try.func18, Try.ntmps18
      go_wp2
      go_ret2
      exact ⟨ret_two e1.out e2.out.symm, rfl⟩

theorem ref_ceil (a b : Int) (w : World) (ha : Fits a) (hb : Fits b) :
    Calls Try.prog 19 #[.int .i64 a, .int .i64 b] w fun e w' => e = .returned (.tuple #[.int .i64 (cv a b), .int .i64 (de b)]) ∧ w = w' := by
  rcases Int.lt_trichotomy b 0 with h | h | h
  · have e1 := Lib.hid (cv_no (a := a) (Int.le_of_lt h))
    have e2 := Lib.hid (de_neg h)
    have ⟨b1, b2⟩ := hb
    clear ha hb
    go_enter Try.func19, Try.ntmps19
    go_wp2
    go_ret2
    exact ⟨ret_two e1.out.symm e2.out.symm, rfl⟩
  · subst h
    clear ha hb
    go_enter Try.func19, Try.ntmps19
    go_wp2
    go_ret2
    exact ⟨ret_two rfl rfl, rfl⟩
  · have e2 := Lib.hid (de_up h)
    have ⟨b1, b2⟩ := hb
    have ⟨q1, q2⟩ := tdiv_le ha h
    by_cases hr : 0 < a.tmod b
    · have q3 := tdiv_hi ha h hr
      have e1 := Lib.hid ((ceil_pos h hr).trans (cv_up h).symm)
      clear ha hb
      go_enter Try.func19, Try.ntmps19
      go_wp2
      go_ret2
      exact ⟨ret_two e1.out e2.out.symm, rfl⟩
    · have e1 := Lib.hid ((ceil_neg (a := a) h (by omega)).trans (cv_up h).symm)
      clear ha hb
      go_enter Try.func19, Try.ntmps19
      go_wp2
      go_ret2
      exact ⟨ret_two e1.out e2.out.symm, rfl⟩
end Go.Proofs.Ytmalcnebejgajaa
