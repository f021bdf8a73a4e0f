/-
  What the document's own lags and bounds (regattaref09) give back: contracts.
-/
import Derived.Test.YtnmiiebfpeoafaaFl2
import Derived.Test.YtnmiiebfpeoafaaWr1
namespace Go.Proofs.Ytnmiiebfpeoafaa
open Go.RowKit

theorem r4check_no (E P : Int) (w : World) (h : ¬ MayBe E P) :
    Calls Try.prog 41 #[.agg #[.int .i64 E, .int .i64 P]] w fun e w' => e = .returned (.bool false) ∧ Below w.heap.size w w' := r4check_any E P w false ⟨fun g => (by cases g), fun g => absurd g h⟩

theorem r9right_any (E P t q : Int) (w : World) (b : Bool) (hb : b = true ↔ MayBe E P ∧ Sl t ∧ Sl q) :
    Calls Try.prog 40 #[.agg #[.int .i64 E, .int .i64 P], .int .i64 t, .int .i64 q] w fun e w' => e = .returned (.bool b) ∧ Below w.heap.size w w' := by
  by_cases hM : MayBe E P
  · have HC := Lib.hid hM
    by_cases h0 : 0 ≤ t
    · have b0 : decide (0 ≤ t) = true := by simp; omega
      by_cases h1 : t ≤ 1099511627776
      · have b1 : decide (t ≤ 1099511627776) = true := by simp; omega
        by_cases h2 : 0 ≤ q
        · have b2 : decide (0 ≤ q) = true := by simp; omega
          by_cases h3 : q ≤ 1099511627776
          · have b3 : decide (q ≤ 1099511627776) = true := by simp; omega
            obtain rfl : b = true := hb.mpr ⟨hM, ⟨h0, h1⟩, ⟨h2, h3⟩⟩
            clear hM hb
            go_enter Try.func40, Try.ntmps40
            go_wp2_with fail
            refine (r4check_yes E P _ HC.out).mono ?_
            rintro e w1 ⟨rfl, hb⟩
            have B := Lib.hid (below_next (wbox _ _) hb)
            clear hb
            go_wp2
            go_ret
            exact ⟨rfl, B.out⟩
          · have b3 : decide (q ≤ 1099511627776) = false := by simp; omega
            obtain rfl : b = false := by cases b; rfl; exact absurd (hb.mp rfl) (fun g => h3 g.2.2.2)
            clear hM hb
            go_enter Try.func40, Try.ntmps40
            go_wp2_with fail
            refine (r4check_yes E P _ HC.out).mono ?_
            rintro e w1 ⟨rfl, hb⟩
            have B := Lib.hid (below_next (wbox _ _) hb)
            clear hb
            go_wp2
            go_ret
            exact ⟨rfl, B.out⟩
        · have b2 : decide (0 ≤ q) = false := by simp; omega
          obtain rfl : b = false := by cases b; rfl; exact absurd (hb.mp rfl) (fun g => h2 g.2.2.1)
          clear hM hb
          go_enter Try.func40, Try.ntmps40
          go_wp2_with fail
          refine (r4check_yes E P _ HC.out).mono ?_
          rintro e w1 ⟨rfl, hb⟩
          have B := Lib.hid (below_next (wbox _ _) hb)
          clear hb
          go_wp2
          go_ret
          exact ⟨rfl, B.out⟩
      · have b1 : decide (t ≤ 1099511627776) = false := by simp; omega
        obtain rfl : b = false := by cases b; rfl; exact absurd (hb.mp rfl) (fun g => h1 g.2.1.2)
        clear hM hb
        go_enter Try.func40, Try.ntmps40
        go_wp2_with fail
        refine (r4check_yes E P _ HC.out).mono ?_
        rintro e w1 ⟨rfl, hb⟩
        have B := Lib.hid (below_next (wbox _ _) hb)
        clear hb
        go_wp2
        go_ret
        exact ⟨rfl, B.out⟩
    · have b0 : decide (0 ≤ t) = false := by simp; omega
      obtain rfl : b = false := by cases b; rfl; exact absurd (hb.mp rfl) (fun g => h0 g.2.1.1)
      clear hM hb
      go_enter Try.func40, Try.ntmps40
      go_wp2_with fail
      refine (r4check_yes E P _ HC.out).mono ?_
      rintro e w1 ⟨rfl, hb⟩
      have B := Lib.hid (below_next (wbox _ _) hb)
      clear hb
      go_wp2
      go_ret
      exact ⟨rfl, B.out⟩
  · have HC := Lib.hid hM
    obtain rfl : b = false := by cases b; rfl; exact absurd (hb.mp rfl) (fun g => hM g.1)
    clear hM hb
    go_enter Try.func40, Try.ntmps40
    go_wp2_with fail
    refine (r4check_no E P _ HC.out).mono ?_
    rintro e w1 ⟨rfl, hb⟩
    have B := Lib.hid (below_next (wbox _ _) hb)
    clear hb
    go_wp2
    go_ret
    exact ⟨rfl, B.out⟩
theorem r9right_yes (E P t q : Int) (w : World) (h : MayBe E P ∧ Sl t ∧ Sl q) :
    Calls Try.prog 40 #[.agg #[.int .i64 E, .int .i64 P], .int .i64 t, .int .i64 q] w fun e w' => e = .returned (.bool true) ∧ Below w.heap.size w w' := r9right_any E P t q w true ⟨fun _ => h, fun _ => rfl⟩
theorem r9right_no (E P t q : Int) (w : World) (h : ¬ (MayBe E P ∧ Sl t ∧ Sl q)) :
    Calls Try.prog 40 #[.agg #[.int .i64 E, .int .i64 P], .int .i64 t, .int .i64 q] w fun e w' => e = .returned (.bool false) ∧ Below w.heap.size w w' := r9right_any E P t q w false ⟨fun g => (by cases g), fun g => absurd g h⟩
theorem sl_zero : Sl 0 := ⟨by decide, by decide⟩
theorem r9lag_any (E P t q : Int) (w : World) :
    Calls Try.prog 22 #[.agg #[.int .i64 E, .int .i64 P], .int .i64 t, .int .i64 q] w fun e w' => e = .returned (.tuple #[.int .i64 (lagV E P t q), .int .i64 (lagE E P t q)]) ∧ Below w.heap.size w w' := by
  by_cases h : MayBe E P ∧ Sl t ∧ Sl q
  · rw [lagV_yes h, lagE_yes h]
    have HR := Lib.hid h
    have K := Lib.hid (Blk.new w 24 #[Value.int .i64 E, Value.int .i64 P])
    have f1 := fit_et h.1 h.2.1
    have f2 := fit_pt h.1 h.2.2
    have g1 : IntKind.i64.wrap (E * t) = E * t := IntWalk.i64_in _ (by omega)
    have g2 : IntKind.i64.wrap (P * q) = P * q := IntWalk.i64_in _ (by omega)
    have g3 : IntKind.i64.wrap (E * t - P * q) = E * t - P * q := IntWalk.i64_in _ (by omega)
    clear h f1 f2
    go_enter Try.func22, Try.ntmps22
    go_wp2_with fail
    refine (r9right_yes E P t q _ HR.out).mono ?_
    rintro e w1 ⟨rfl, hb⟩
    have B := Lib.hid (below_next (wbox _ _) hb)
    have k0 := (K.out.below hb).cell 0
    have k1 := (K.out.below hb).cell 1
    simp at k0 k1
    clear hb
    go_wp2
    go_ret2
    exact ⟨rfl, B.out⟩
  · rw [lagV_no h, lagE_no h]
    have HR := Lib.hid h
    clear h
    go_enter Try.func22, Try.ntmps22
    go_wp2_with fail
    refine (r9right_no E P t q _ HR.out).mono ?_
    rintro e w1 ⟨rfl, hb⟩
    have B := Lib.hid (below_next (wbox _ _) hb)
    clear hb
    go_wp2
    go_ret2
    exact ⟨rfl, B.out⟩
theorem r9fair_any (E P t q : Int) (w : World) (b : Bool) (hb : fairB E P t q = b) :
    Calls Try.prog 24 #[.agg #[.int .i64 E, .int .i64 P], .int .i64 t, .int .i64 q] w fun e w' => e = .returned (.bool b) ∧ Below w.heap.size w w' := by
  have K := Lib.hid (Blk.new w 24 #[Value.int .i64 E, Value.int .i64 P])
  by_cases h : MayBe E P ∧ Sl t ∧ Sl q
  · rw [fairB_is h] at hb
    have LV := Lib.hid (lagV_yes h); have LE := Lib.hid (lagE_yes h)
    have P0 : 0 < P := by have := h.1.1; have := h.1.2.1; omega
    have P1 : P ≤ 1048576 := h.1.2.2
    have hn : IntKind.i64.wrap (-P) = -P := IntWalk.i64_in _ (by omega)
    clear h
    obtain ⟨L, hL⟩ : ∃ L, E * t - P * q = L := ⟨_, rfl⟩
    rw [hL] at hb LV
    clear hL
    subst hb
    by_cases h1 : -P < L
    · have d1 : decide (-P < L) = true := by simp; omega
      by_cases h2 : L < P
      · have d2 : decide (L < P) = true := by simp; omega
        go_enter Try.func24, Try.ntmps24
        go_wp2_with fail
        refine (r9lag_any E P t q _).mono ?_
        rintro e w1 ⟨rfl, hb⟩
        rw [LV.out, LE.out]
        have B := Lib.hid (below_next (wbox _ _) hb)
        have k1 := (K.out.below hb).cell 1
        simp at k1
        clear hb
        go_wp2
        go_ret
        exact ⟨by rw [d1, d2]; rfl, B.out⟩
      · have d2 : decide (L < P) = false := by simp; omega
        go_enter Try.func24, Try.ntmps24
        go_wp2_with fail
        refine (r9lag_any E P t q _).mono ?_
        rintro e w1 ⟨rfl, hb⟩
        rw [LV.out, LE.out]
        have B := Lib.hid (below_next (wbox _ _) hb)
        have k1 := (K.out.below hb).cell 1
        simp at k1
        clear hb
        go_wp2
        go_ret
        exact ⟨by rw [d1, d2]; rfl, B.out⟩
    · have d1 : decide (-P < L) = false := by simp; omega
      go_enter Try.func24, Try.ntmps24
      go_wp2_with fail
      refine (r9lag_any E P t q _).mono ?_
      rintro e w1 ⟨rfl, hb⟩
      rw [LV.out, LE.out]
      have B := Lib.hid (below_next (wbox _ _) hb)
      have k1 := (K.out.below hb).cell 1
      simp at k1
      clear hb
      go_wp2
      go_ret
      exact ⟨by rw [d1]; rfl, B.out⟩
  · rw [fairB_no h] at hb
    have LV := Lib.hid (lagV_no h); have LE := Lib.hid (lagE_no h)
    clear h
    subst hb
    go_enter Try.func24, Try.ntmps24
    go_wp2_with fail
    refine (r9lag_any E P t q _).mono ?_
    rintro e w1 ⟨rfl, hb⟩
    rw [LV.out, LE.out]
    have B := Lib.hid (below_next (wbox _ _) hb)
    clear hb
    go_wp2
    go_ret
    exact ⟨rfl, B.out⟩
theorem r9low_any (E P t v : Int) (w : World) (hv : lowV E P t = v) :
    Calls Try.prog 23 #[.agg #[.int .i64 E, .int .i64 P], .int .i64 t] w fun e w' => e = .returned (.int .i64 v) ∧ Below w.heap.size w w' := by
  by_cases h : MayBe E P ∧ Sl t
  · rw [lowV_yes h] at hv
    have HR := Lib.hid (show MayBe E P ∧ Sl t ∧ Sl 0 from ⟨h.1, h.2, sl_zero⟩)
    have K := Lib.hid (Blk.new w 24 #[Value.int .i64 E, Value.int .i64 P])
    have f1 := fit_et h.1 h.2
    have g1 : IntKind.i64.wrap (E * t) = E * t := IntWalk.i64_in _ (by omega)
    have hd : (E * t).tdiv P = E * t / P := Int.tdiv_eq_ediv_of_nonneg f1.1
    have d0 : 0 ≤ E * t / P := Int.ediv_nonneg f1.1 (by have := h.1.1; have := h.1.2.1; omega)
    have d1 : E * t / P ≤ E * t := Int.ediv_le_self _ f1.1
    have nP : ¬ P = 0 := by have := h.1.1; have := h.1.2.1; omega
    rw [hv] at hd d0 d1
    clear h hv
    go_enter Try.func23, Try.ntmps23
    go_wp2_with fail
    refine (r9right_yes E P t 0 _ HR.out).mono ?_
    rintro e w1 ⟨rfl, hb⟩
    have B := Lib.hid (below_next (wbox _ _) hb)
    have k0 := (K.out.below hb).cell 0
    have k1 := (K.out.below hb).cell 1
    simp at k0 k1
    clear hb
    go_wp2
    go_ret
    exact ⟨rfl, B.out⟩
  · rw [lowV_no h] at hv
    subst hv
    have HR := Lib.hid (show ¬ (MayBe E P ∧ Sl t ∧ Sl 0) from fun g => h ⟨g.1, g.2.1⟩)
    clear h
    go_enter Try.func23, Try.ntmps23
    go_wp2_with fail
    refine (r9right_no E P t 0 _ HR.out).mono ?_
    rintro e w1 ⟨rfl, hb⟩
    have B := Lib.hid (below_next (wbox _ _) hb)
    clear hb
    go_wp2
    go_ret
    exact ⟨rfl, B.out⟩
theorem r9high_any (E P t v : Int) (w : World) (hv : highV E P t = v) :
    Calls Try.prog 25 #[.agg #[.int .i64 E, .int .i64 P], .int .i64 t] w fun e w' => e = .returned (.int .i64 v) ∧ Below w.heap.size w w' := by
  by_cases h : MayBe E P ∧ Sl t
  · have HR := Lib.hid (show MayBe E P ∧ Sl t ∧ Sl 0 from ⟨h.1, h.2, sl_zero⟩)
    have K := Lib.hid (Blk.new w 24 #[Value.int .i64 E, Value.int .i64 P])
    have f1 := fit_et h.1 h.2
    have g1 : IntKind.i64.wrap (E * t) = E * t := IntWalk.i64_in _ (by omega)
    have hd : (E * t).tdiv P = E * t / P := Int.tdiv_eq_ediv_of_nonneg f1.1
    have P0 : 0 < P := by have := h.1.1; have := h.1.2.1; omega
    have d0 : 0 ≤ E * t / P := Int.ediv_nonneg f1.1 (by omega)
    have d1 : E * t / P ≤ E * t := Int.ediv_le_self _ f1.1
    have nP : ¬ P = 0 := by omega
    have e1 := Int.mul_ediv_add_emod (E * t) P
    have e2 := Int.emod_nonneg (E * t) (show P ≠ 0 by omega)
    have e3 : E * t / P * P = P * (E * t / P) := Int.mul_comm _ _
    have n0 : 0 ≤ E * t / P * P := Int.mul_nonneg d0 (by omega)
    have hh := high_low h.1 h.2
    rw [lowV_yes h, hv] at hh
    obtain ⟨Q, hQ⟩ : ∃ Q, E * t / P = Q := ⟨_, rfl⟩
    rw [hQ] at hd d0 d1 e1 e3 n0 hh
    have wq : IntKind.i64.wrap (Q * P) = Q * P := IntWalk.i64_in _ (by omega)
    clear h hQ hv
    by_cases g : E * t % P = 0
    · have bt : decide (Q * P < E * t) = false := by simp; omega
      obtain rfl : v = Q := by rw [hh, if_pos g]; omega
      clear hh e1 e2 e3 n0 g
      go_enter Try.func25, Try.ntmps25
      go_wp2_with fail
      refine (r9right_yes E P t 0 _ HR.out).mono ?_
      rintro e w1 ⟨rfl, hb⟩
      have B := Lib.hid (below_next (wbox _ _) hb)
      have k0 := (K.out.below hb).cell 0
      have k1 := (K.out.below hb).cell 1
      simp at k0 k1
      clear hb
      go_wp2
      go_ret
      exact ⟨rfl, B.out⟩
    · have bt : decide (Q * P < E * t) = true := by simp; omega
      have hv : Q + 1 = v := by rw [hh, if_neg g]
      have HV := Lib.hid hv
      clear hh hv e1 e2 e3 n0 g
      go_enter Try.func25, Try.ntmps25
      go_wp2_with fail
      refine (r9right_yes E P t 0 _ HR.out).mono ?_
      rintro e w1 ⟨rfl, hb⟩
      have B := Lib.hid (below_next (wbox _ _) hb)
      have k0 := (K.out.below hb).cell 0
      have k1 := (K.out.below hb).cell 1
      simp at k0 k1
      clear hb
      go_wp2
      go_ret
      exact ⟨ret_one HV.out, B.out⟩
  · rw [highV_no h] at hv
    subst hv
    have HR := Lib.hid (show ¬ (MayBe E P ∧ Sl t ∧ Sl 0) from fun g => h ⟨g.1, g.2.1⟩)
    clear h
    go_enter Try.func25, Try.ntmps25
    go_wp2_with fail
    refine (r9right_no E P t 0 _ HR.out).mono ?_
    rintro e w1 ⟨rfl, hb⟩
    have B := Lib.hid (below_next (wbox _ _) hb)
    clear hb
    go_wp2
    go_ret
    exact ⟨rfl, B.out⟩

theorem ex9_may : MayBe 2 3 := ⟨by decide, by decide, by decide⟩
theorem f9awake_any (w : World) : Calls Try.prog 9 #[] w fun e w' => e = .returned (.bool true) ∧ Below w.heap.size w w' := by
  have H1 := Lib.hid (show lowV 2 3 4 = 2 by decide)
  have H2 := Lib.hid (show highV 2 3 4 = 3 by decide)
  have H3 := Lib.hid (show fairB 2 3 4 2 = true by decide)
  have H4 := Lib.hid (show fairB 2 3 4 4 = false by decide)
  have K := Lib.hid (Blk.new w 24 #[Value.int .i64 2, Value.int .i64 3])
  go_enter Try.func9, Try.ntmps9
  go_wp2_with fail
  refine (flow_any 2 3 4 2 _ H1.out).mono ?_
  rintro e w1 ⟨rfl, hb⟩
  have B := Lib.hid (below_next (wbox _ _) hb)
  have K := Lib.hid (K.out.below hb)
  clear hb
  have k0 := K.out.cell 0
  have k1 := K.out.cell 1
  simp at k0 k1
  go_wp2_with fail
  refine (fhigh_any 2 3 4 3 _ H2.out).mono ?_
  rintro e w2 ⟨rfl, hb⟩
  have B := Lib.hid (below_next B.out hb)
  have K := Lib.hid (K.out.below hb)
  clear hb k0 k1
  have k0 := K.out.cell 0
  have k1 := K.out.cell 1
  simp at k0 k1
  go_wp2_with fail
  refine (ffair_any 2 3 4 2 _ true H3.out).mono ?_
  rintro e w3 ⟨rfl, hb⟩
  have B := Lib.hid (below_next B.out hb)
  have K := Lib.hid (K.out.below hb)
  clear hb k0 k1
  have k0 := K.out.cell 0
  have k1 := K.out.cell 1
  simp at k0 k1
  go_wp2_with fail
  refine (ffair_any 2 3 4 4 _ false H4.out).mono ?_
  rintro e w4 ⟨rfl, hb⟩
  have B := Lib.hid (below_next B.out hb)
  clear hb k0 k1
  go_wp2
  go_ret
  exact ⟨rfl, B.out⟩
end Go.Proofs.Ytnmiiebfpeoafaa
