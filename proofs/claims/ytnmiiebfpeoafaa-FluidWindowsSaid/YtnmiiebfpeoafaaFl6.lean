/-
  The walk of the law FluidWindows.
-/
import Derived.Test.YtnmiiebfpeoafaaFl3
import Derived.Test.YtnmiiebfpeoafaaWr1
namespace Go.Proofs.Ytnmiiebfpeoafaa
open Go.RowKit

set_option maxHeartbeats 2000000 in
theorem f9windows_walk (qa qb n : Int) (w : World) : Calls Try.prog 5 #[.agg #[.int .i64 qa, .int .i64 qb], .int .i64 n] w fun e w' => e = .returned (.bool true) ∧ Below w.heap.size w w' := by
  obtain ⟨t, ht⟩ : ∃ t, bits .and .i64 n 1073741823 = t := ⟨_, rfl⟩
  have mt := mask_le n 1073741823 (by omega) (by omega)
  rw [ht] at mt
  have Q := Lib.hid (Blk.new w 22 #[Value.int .i64 qa, Value.int .i64 qb])
  go_enter Try.func5, Try.ntmps5
  go_wp2_with fail
  refine (f9awake_any _).mono ?_
  rintro e w1 ⟨rfl, hb⟩
  have B := Lib.hid (below_next (wbox _ _) hb)
  have q0 := (Q.out.below hb).cell 0
  have q1 := (Q.out.below hb).cell 1
  simp at q0 q1
  clear hb Q
  go_wp2_with fail
  refine (wmade_any qa qb _).mono ?_
  rintro e w2 ⟨E, P, rfl, hM, hb⟩
  have B := Lib.hid (below_next (below_next B.out hb) (wbox _ (Obj.cells #[Value.int .i64 E, Value.int .i64 P] 24)))
  have K := Lib.hid (Blk.new w2 24 #[Value.int .i64 E, Value.int .i64 P])
  clear hb q0 q1
  obtain ⟨t0, t1⟩ := mt
  have HM := Lib.hid hM
  have st : Sl t := ⟨by omega, by omega⟩
  have lf := lowV_fit hM st
  have hf := highV_fit hM st
  have d0 := low_dead (i := lowV E P t) hM st
  have d1 := low_dead (i := lowV E P t + 1) hM st
  have r0 := high_rel (i := highV E P t) hM st
  have r1 := high_rel (i := highV E P t + 1) hM st
  obtain ⟨U, hU⟩ : ∃ U, lowV E P t = U := ⟨_, rfl⟩
  obtain ⟨X, hX⟩ : ∃ X, highV E P t = X := ⟨_, rfl⟩
  rw [hU] at lf d0 d1
  rw [hX] at hf r0 r1
  obtain ⟨D0, hD0⟩ : ∃ D, wD E P U = D := ⟨_, rfl⟩
  obtain ⟨D1, hD1⟩ : ∃ D, wD E P (U + 1) = D := ⟨_, rfl⟩
  obtain ⟨R0, hR0⟩ : ∃ D, wR E P X = D := ⟨_, rfl⟩
  obtain ⟨R1, hR1⟩ : ∃ D, wR E P (X + 1) = D := ⟨_, rfl⟩
  rw [hD0] at d0; rw [hD1] at d1; rw [hR0] at r0; rw [hR1] at r1
  have HU := Lib.hid hU; have HX := Lib.hid hX; have HD0 := Lib.hid hD0; have HD1 := Lib.hid hD1; have HR0 := Lib.hid hR0; have HR1 := Lib.hid hR1
  have N1 := Lib.hid (show Nth (U + 1) from ⟨by omega, by omega⟩)
  have N3 := Lib.hid (show Nth (X + 1) from ⟨by omega, by omega⟩)
  have t_d0 : decide (t < D0) = false := by have := d0.mpr (Int.le_refl _); simp; omega
  have t_d1 : decide (D1 ≤ t) = false := by have : ¬ D1 ≤ t := fun h => by have := d1.mp h; omega
                                            simp; omega
  have t_r0 : decide (R0 < t) = true := by have := r0.mpr (Int.le_refl _); simp; omega
  have t_r1 : decide (t ≤ R1) = true := by have : ¬ R1 < t := fun h => by have := r1.mp h; omega
                                           simp; omega
  have u0 : 0 ≤ U := lf.1
  have u1 : U ≤ 1073741823 := by omega
  have x0 : 0 ≤ X := hf.1
  have x1 : X ≤ 1073741823 := by omega
  clear hM st lf hf d0 d1 r0 r1 hU hX hD0 hD1 hR0 hR1
  by_cases gu : 0 < U
  · have g_u : decide (0 < U) = true := by simp; omega
    have N0 := Lib.hid (show Nth U from ⟨by omega, by omega⟩)
    by_cases gx : X = 0
    · have g_x : (X == 0) = true := by simp; omega
      clear gu gx
      go_wp2_with fail
      refine (flow_any E P t U _ HU.out).mono ?_
      rintro e w3 ⟨rfl, hb⟩
      have B := Lib.hid (below_next B.out hb)
      have K := Lib.hid (K.out.below hb)
      clear hb
      try clear k0 k1
      have k0 := K.out.cell 0
      have k1 := K.out.cell 1
      simp at k0 k1
      go_wp2_with fail
      refine (fhigh_any E P t X _ HX.out).mono ?_
      rintro e w4 ⟨rfl, hb⟩
      have B := Lib.hid (below_next B.out hb)
      have K := Lib.hid (K.out.below hb)
      clear hb
      try clear k0 k1
      have k0 := K.out.cell 0
      have k1 := K.out.cell 1
      simp at k0 k1
      go_wp2_with fail
      refine (r4deadline_yes E P U D0 _ HM.out N0.out HD0.out).mono ?_
      rintro e w5 ⟨rfl, hb⟩
      have B := Lib.hid (below_next B.out hb)
      have K := Lib.hid (K.out.below hb)
      clear hb
      try clear k0 k1
      have k0 := K.out.cell 0
      have k1 := K.out.cell 1
      simp at k0 k1
      go_wp2_with fail
      refine (r4deadline_yes E P (U + 1) D1 _ HM.out N1.out HD1.out).mono ?_
      rintro e w6 ⟨rfl, hb⟩
      have B := Lib.hid (below_next B.out hb)
      have K := Lib.hid (K.out.below hb)
      clear hb
      try clear k0 k1
      have k0 := K.out.cell 0
      have k1 := K.out.cell 1
      simp at k0 k1
      go_wp2_with fail
      refine (r4release_yes E P (X + 1) R1 _ HM.out N3.out HR1.out).mono ?_
      rintro e w7 ⟨rfl, hb⟩
      have B := Lib.hid (below_next B.out hb)
      have K := Lib.hid (K.out.below hb)
      clear hb
      try clear k0 k1
      have k0 := K.out.cell 0
      have k1 := K.out.cell 1
      simp at k0 k1
      go_wp2
      go_ret
      exact ⟨rfl, B.out⟩
    · have g_x : (X == 0) = false := by simp; omega
      have N2 := Lib.hid (show Nth X from ⟨by omega, by omega⟩)
      clear gu gx
      go_wp2_with fail
      refine (flow_any E P t U _ HU.out).mono ?_
      rintro e w3 ⟨rfl, hb⟩
      have B := Lib.hid (below_next B.out hb)
      have K := Lib.hid (K.out.below hb)
      clear hb
      try clear k0 k1
      have k0 := K.out.cell 0
      have k1 := K.out.cell 1
      simp at k0 k1
      go_wp2_with fail
      refine (fhigh_any E P t X _ HX.out).mono ?_
      rintro e w4 ⟨rfl, hb⟩
      have B := Lib.hid (below_next B.out hb)
      have K := Lib.hid (K.out.below hb)
      clear hb
      try clear k0 k1
      have k0 := K.out.cell 0
      have k1 := K.out.cell 1
      simp at k0 k1
      go_wp2_with fail
      refine (r4deadline_yes E P U D0 _ HM.out N0.out HD0.out).mono ?_
      rintro e w5 ⟨rfl, hb⟩
      have B := Lib.hid (below_next B.out hb)
      have K := Lib.hid (K.out.below hb)
      clear hb
      try clear k0 k1
      have k0 := K.out.cell 0
      have k1 := K.out.cell 1
      simp at k0 k1
      go_wp2_with fail
      refine (r4deadline_yes E P (U + 1) D1 _ HM.out N1.out HD1.out).mono ?_
      rintro e w6 ⟨rfl, hb⟩
      have B := Lib.hid (below_next B.out hb)
      have K := Lib.hid (K.out.below hb)
      clear hb
      try clear k0 k1
      have k0 := K.out.cell 0
      have k1 := K.out.cell 1
      simp at k0 k1
      go_wp2_with fail
      refine (r4release_yes E P X R0 _ HM.out N2.out HR0.out).mono ?_
      rintro e w7 ⟨rfl, hb⟩
      have B := Lib.hid (below_next B.out hb)
      have K := Lib.hid (K.out.below hb)
      clear hb
      try clear k0 k1
      have k0 := K.out.cell 0
      have k1 := K.out.cell 1
      simp at k0 k1
      go_wp2_with fail
      refine (r4release_yes E P (X + 1) R1 _ HM.out N3.out HR1.out).mono ?_
      rintro e w8 ⟨rfl, hb⟩
      have B := Lib.hid (below_next B.out hb)
      have K := Lib.hid (K.out.below hb)
      clear hb
      try clear k0 k1
      have k0 := K.out.cell 0
      have k1 := K.out.cell 1
      simp at k0 k1
      go_wp2
      go_ret
      exact ⟨rfl, B.out⟩
  · have g_u : decide (0 < U) = false := by simp; omega
    by_cases gx : X = 0
    · have g_x : (X == 0) = true := by simp; omega
      clear gu gx
      go_wp2_with fail
      refine (flow_any E P t U _ HU.out).mono ?_
      rintro e w3 ⟨rfl, hb⟩
      have B := Lib.hid (below_next B.out hb)
      have K := Lib.hid (K.out.below hb)
      clear hb
      try clear k0 k1
      have k0 := K.out.cell 0
      have k1 := K.out.cell 1
      simp at k0 k1
      go_wp2_with fail
      refine (fhigh_any E P t X _ HX.out).mono ?_
      rintro e w4 ⟨rfl, hb⟩
      have B := Lib.hid (below_next B.out hb)
      have K := Lib.hid (K.out.below hb)
      clear hb
      try clear k0 k1
      have k0 := K.out.cell 0
      have k1 := K.out.cell 1
      simp at k0 k1
      go_wp2_with fail
      refine (r4deadline_yes E P (U + 1) D1 _ HM.out N1.out HD1.out).mono ?_
      rintro e w5 ⟨rfl, hb⟩
      have B := Lib.hid (below_next B.out hb)
      have K := Lib.hid (K.out.below hb)
      clear hb
      try clear k0 k1
      have k0 := K.out.cell 0
      have k1 := K.out.cell 1
      simp at k0 k1
      go_wp2_with fail
      refine (r4release_yes E P (X + 1) R1 _ HM.out N3.out HR1.out).mono ?_
      rintro e w6 ⟨rfl, hb⟩
      have B := Lib.hid (below_next B.out hb)
      have K := Lib.hid (K.out.below hb)
      clear hb
      try clear k0 k1
      have k0 := K.out.cell 0
      have k1 := K.out.cell 1
      simp at k0 k1
      go_wp2
      go_ret
      exact ⟨rfl, B.out⟩
    · have g_x : (X == 0) = false := by simp; omega
      have N2 := Lib.hid (show Nth X from ⟨by omega, by omega⟩)
      clear gu gx
      go_wp2_with fail
      refine (flow_any E P t U _ HU.out).mono ?_
      rintro e w3 ⟨rfl, hb⟩
      have B := Lib.hid (below_next B.out hb)
      have K := Lib.hid (K.out.below hb)
      clear hb
      try clear k0 k1
      have k0 := K.out.cell 0
      have k1 := K.out.cell 1
      simp at k0 k1
      go_wp2_with fail
      refine (fhigh_any E P t X _ HX.out).mono ?_
      rintro e w4 ⟨rfl, hb⟩
      have B := Lib.hid (below_next B.out hb)
      have K := Lib.hid (K.out.below hb)
      clear hb
      try clear k0 k1
      have k0 := K.out.cell 0
      have k1 := K.out.cell 1
      simp at k0 k1
      go_wp2_with fail
      refine (r4deadline_yes E P (U + 1) D1 _ HM.out N1.out HD1.out).mono ?_
      rintro e w5 ⟨rfl, hb⟩
      have B := Lib.hid (below_next B.out hb)
      have K := Lib.hid (K.out.below hb)
      clear hb
      try clear k0 k1
      have k0 := K.out.cell 0
      have k1 := K.out.cell 1
      simp at k0 k1
      go_wp2_with fail
      refine (r4release_yes E P X R0 _ HM.out N2.out HR0.out).mono ?_
      rintro e w6 ⟨rfl, hb⟩
      have B := Lib.hid (below_next B.out hb)
      have K := Lib.hid (K.out.below hb)
      clear hb
      try clear k0 k1
      have k0 := K.out.cell 0
      have k1 := K.out.cell 1
      simp at k0 k1
      go_wp2_with fail
      refine (r4release_yes E P (X + 1) R1 _ HM.out N3.out HR1.out).mono ?_
      rintro e w7 ⟨rfl, hb⟩
      have B := Lib.hid (below_next B.out hb)
      have K := Lib.hid (K.out.below hb)
      clear hb
      try clear k0 k1
      have k0 := K.out.cell 0
      have k1 := K.out.cell 1
      simp at k0 k1
      go_wp2
      go_ret
      exact ⟨rfl, B.out⟩
end Go.Proofs.Ytnmiiebfpeoafaa
