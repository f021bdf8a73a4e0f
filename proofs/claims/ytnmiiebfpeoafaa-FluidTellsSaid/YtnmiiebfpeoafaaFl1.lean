/-
  What package fluid's Lag, Fair, Low, High and Due give back: contracts.
-/
import Derived.Test.YtnmiiebfpeoafaaFl0
namespace Go.Proofs.Ytnmiiebfpeoafaa
open Go.RowKit

theorem fnum_any (t : Int) (w : World) (b : Bool) (hb : decide (Sl t) = b) :
    Calls Try.prog 37 #[.int .i64 t] w fun e w' => e = .returned (.bool b) ∧ w = w' := by
  subst hb
  by_cases h1 : 0 ≤ t
  · have b1 : decide (0 ≤ t) = true := by simp; omega
    by_cases h2 : t ≤ 1099511627776
    · have b2 : decide (t ≤ 1099511627776) = true := by simp; omega
      rw [show decide (Sl t) = true from decide_eq_true ⟨h1, h2⟩]
      go_enter Try.func37, Try.ntmps37
      go_wp2
      go_ret
      exact ⟨rfl, rfl⟩
    · have b2 : decide (t ≤ 1099511627776) = false := by simp; omega
      rw [show decide (Sl t) = false from decide_eq_false (fun h => h2 h.2)]
      go_enter Try.func37, Try.ntmps37
      go_wp2
      go_ret
      exact ⟨rfl, rfl⟩
  · have b1 : decide (0 ≤ t) = false := by simp; omega
    rw [show decide (Sl t) = false from decide_eq_false (fun h => h1 h.1)]
    go_enter Try.func37, Try.ntmps37
    go_wp2
    go_ret
    exact ⟨rfl, rfl⟩
/-- exact's Sub of numbers that are not below 0 -/
theorem esub_any (a b : Int) (w : World) (a0 : 0 ≤ a) (a1 : a ≤ 1152921504606846976) (b0 : 0 ≤ b) (b1 : b ≤ 1152921504606846976) :
    Calls Try.prog 39 #[.int .i64 a, .int .i64 b] w fun e w' => e = .returned (.tuple #[.int .i64 (a - b), .int .i64 0]) ∧ w = w' := by
  have hs : IntKind.i64.wrap (a - b) = a - b := IntWalk.i64_in _ (by omega)
  have ha : IntKind.i64.wrap (-9223372036854775808 + b) = -9223372036854775808 + b := IntWalk.i64_in _ (by omega)
  have t1 : decide (b < 0) = false := by simp; omega
  have t2 : decide (a < -9223372036854775808 + b) = false := by simp; omega
  by_cases h : 0 < b
  · have t0 : decide (0 < b) = true := by simp; omega
    go_enter Try.func39, Try.ntmps39
    go_wp2
    go_ret2
    exact ⟨rfl, rfl⟩
  · have t0 : decide (0 < b) = false := by simp; omega
    go_enter Try.func39, Try.ntmps39
    go_wp2
    go_ret2
    exact ⟨rfl, rfl⟩

theorem flag_yes (E P t q : Int) (w : World) (h : MayBe E P ∧ Sl t ∧ Sl q) :
    Calls Try.prog 21 #[.agg #[.int .i64 E, .int .i64 P], .int .i64 t, .int .i64 q] w fun e w' => e = .returned (.tuple #[.int .i64 (lagV E P t q), .int .i64 (lagE E P t q)]) ∧ Below w.heap.size w w' := by
  rw [lagV_yes h, lagE_yes h]
  have HM := Lib.hid h.1; have HT := Lib.hid (show decide (Sl t) = true from decide_eq_true h.2.1); have HQ := Lib.hid (show decide (Sl q) = true from decide_eq_true h.2.2)
  have K := Lib.hid (Blk.new w 24 #[Value.int .i64 E, Value.int .i64 P])
  have F1 := Lib.hid (fit_et h.1 h.2.1); have F2 := Lib.hid (fit_pt h.1 h.2.2)
  have H := Lib.hid h
  clear h
  go_enter Try.func21, Try.ntmps21
  go_wp2_with fail
  refine (wcheck_yes E P _ HM.out).mono ?_
  rintro e w1 ⟨rfl, hb⟩
  have B := Lib.hid (below_next (wbox _ _) hb)
  have K := Lib.hid (K.out.below hb)
  have k0 := K.out.cell 0
  have k1 := K.out.cell 1
  simp at k0 k1
  clear hb
  go_wp2_with fail
  refine (fnum_any t _ true HT.out).mono ?_
  rintro e w2 ⟨rfl, rfl⟩
  go_wp2_with fail
  refine (fnum_any q _ true HQ.out).mono ?_
  rintro e w2 ⟨rfl, rfl⟩
  go_wp2_with fail
  refine (emul_any E t _ (by have := HM.out.1; omega) (by have := HM.out.2.1; have := HM.out.2.2; omega) H.out.2.1.1 (by have := H.out.2.1.2; omega) (by have := F1.out; omega)).mono ?_
  rintro e w2 ⟨rfl, rfl⟩
  go_wp2_with fail
  refine (emul_any P q _ (by have := HM.out.1; have := HM.out.2.1; omega) (by have := HM.out.2.2; omega) H.out.2.2.1 (by have := H.out.2.2.2; omega) (by have := F2.out; omega)).mono ?_
  rintro e w2 ⟨rfl, rfl⟩
  go_wp2_with fail
  refine (esub_any (E * t) (P * q) _ F1.out.1 F1.out.2 F2.out.1 F2.out.2).mono ?_
  rintro e w2 ⟨rfl, rfl⟩
  go_wp2
  go_ret2
  exact ⟨rfl, B.out⟩
theorem flag_no (E P t q : Int) (w : World) (h : ¬ (MayBe E P ∧ Sl t ∧ Sl q)) :
    Calls Try.prog 21 #[.agg #[.int .i64 E, .int .i64 P], .int .i64 t, .int .i64 q] w fun e w' => e = .returned (.tuple #[.int .i64 (lagV E P t q), .int .i64 (lagE E P t q)]) ∧ Below w.heap.size w w' := by
  rw [lagV_no h, lagE_no h]
  by_cases hM : MayBe E P
  · have HM := Lib.hid hM
    by_cases ht : Sl t
    · have HT := Lib.hid (show decide (Sl t) = true from decide_eq_true ht)
      have HQ := Lib.hid (show decide (Sl q) = false from decide_eq_false (fun g => h ⟨hM, ht, g⟩))
      clear h hM ht
      go_enter Try.func21, Try.ntmps21
      go_wp2_with fail
      refine (wcheck_yes E P _ HM.out).mono ?_
      rintro e w1 ⟨rfl, hb⟩
      have B := Lib.hid (below_next (wbox _ _) hb)
      clear hb
      go_wp2_with fail
      refine (fnum_any t _ true HT.out).mono ?_
      rintro e w2 ⟨rfl, rfl⟩
      go_wp2_with fail
      refine (fnum_any q _ false HQ.out).mono ?_
      rintro e w2 ⟨rfl, rfl⟩
      go_wp2
      go_ret2
      exact ⟨rfl, B.out⟩
    · have HT := Lib.hid (show decide (Sl t) = false from decide_eq_false ht)
      clear h hM ht
      go_enter Try.func21, Try.ntmps21
      go_wp2_with fail
      refine (wcheck_yes E P _ HM.out).mono ?_
      rintro e w1 ⟨rfl, hb⟩
      have B := Lib.hid (below_next (wbox _ _) hb)
      clear hb
      go_wp2_with fail
      refine (fnum_any t _ false HT.out).mono ?_
      rintro e w2 ⟨rfl, rfl⟩
      go_wp2
      go_ret2
      exact ⟨rfl, B.out⟩
  · have HM := Lib.hid (show false = true ↔ MayBe E P from ⟨fun g => (by cases g), fun g => absurd g hM⟩)
    clear h hM
    go_enter Try.func21, Try.ntmps21
    go_wp2_with fail
    refine (wcheck_any E P _ false HM.out).mono ?_
    rintro e w1 ⟨rfl, hb⟩
    have B := Lib.hid (below_next (wbox _ _) hb)
    clear hb
    go_wp2
    go_ret2
    exact ⟨rfl, B.out⟩
theorem flag_any (E P t q : Int) (w : World) :
    Calls Try.prog 21 #[.agg #[.int .i64 E, .int .i64 P], .int .i64 t, .int .i64 q] w fun e w' => e = .returned (.tuple #[.int .i64 (lagV E P t q), .int .i64 (lagE E P t q)]) ∧ Below w.heap.size w w' := by
  by_cases h : MayBe E P ∧ Sl t ∧ Sl q
  · exact flag_yes E P t q w h
  · exact flag_no E P t q w h
theorem fair_pick (P L : Int) : ((if decide (-P < L) = true then Value.bool (decide (L < P)) else Value.bool false) = Value.bool (decide (-P < L) && decide (L < P))) := by
  cases decide (-P < L) <;> rfl
theorem ffair_any (E P t q : Int) (w : World) (b : Bool) (hb : fairB E P t q = b) :
    Calls Try.prog 14 #[.agg #[.int .i64 E, .int .i64 P], .int .i64 t, .int .i64 q] w fun e w' => e = .returned (.bool b) ∧ Below w.heap.size w w' := by
  have K := Lib.hid (Blk.new w 24 #[Value.int .i64 E, Value.int .i64 P])
  by_cases h : MayBe E P ∧ Sl t ∧ Sl q
  · rw [fairB_is h] at hb
    have LV := Lib.hid (lagV_yes h); have LE := Lib.hid (lagE_yes h)
    have P0 : 0 < P := by have := h.1.1; have := h.1.2.1; omega
    have P1 : P ≤ 1048576 := h.1.2.2
    have hn : IntKind.i64.wrap (-P) = -P := IntWalk.i64_in _ (by omega)
    clear h
    obtain ⟨L, hL⟩ : ∃ L, E * t - P * q = L := ⟨_, rfl⟩
    rw [hL] at hb LV
    clear hL
    subst hb
    by_cases h1 : -P < L
    · have d1 : decide (-P < L) = true := by simp; omega
      by_cases h2 : L < P
      · have d2 : decide (L < P) = true := by simp; omega
        go_enter Try.func14, Try.ntmps14
        go_wp2_with fail
        refine (flag_any E P t q _).mono ?_
        rintro e w1 ⟨rfl, hb⟩
        rw [LV.out, LE.out]
        have B := Lib.hid (below_next (wbox _ _) hb)
        have k1 := (K.out.below hb).cell 1
        simp at k1
        clear hb
        go_wp2
        go_ret
        exact ⟨by rw [d1, d2]; rfl, B.out⟩
      · have d2 : decide (L < P) = false := by simp; omega
        go_enter Try.func14, Try.ntmps14
        go_wp2_with fail
        refine (flag_any E P t q _).mono ?_
        rintro e w1 ⟨rfl, hb⟩
        rw [LV.out, LE.out]
        have B := Lib.hid (below_next (wbox _ _) hb)
        have k1 := (K.out.below hb).cell 1
        simp at k1
        clear hb
        go_wp2
        go_ret
        exact ⟨by rw [d1, d2]; rfl, B.out⟩
    · have d1 : decide (-P < L) = false := by simp; omega
      go_enter Try.func14, Try.ntmps14
      go_wp2_with fail
      refine (flag_any E P t q _).mono ?_
      rintro e w1 ⟨rfl, hb⟩
      rw [LV.out, LE.out]
      have B := Lib.hid (below_next (wbox _ _) hb)
      have k1 := (K.out.below hb).cell 1
      simp at k1
      clear hb
      go_wp2
      go_ret
      exact ⟨by rw [d1]; rfl, B.out⟩
  · rw [fairB_no h] at hb
    have LV := Lib.hid (lagV_no h); have LE := Lib.hid (lagE_no h)
    clear h
    subst hb
    go_enter Try.func14, Try.ntmps14
    go_wp2_with fail
    refine (flag_any E P t q _).mono ?_
    rintro e w1 ⟨rfl, hb⟩
    rw [LV.out, LE.out]
    have B := Lib.hid (below_next (wbox _ _) hb)
    clear hb
    go_wp2
    go_ret
    exact ⟨rfl, B.out⟩
end Go.Proofs.Ytnmiiebfpeoafaa
