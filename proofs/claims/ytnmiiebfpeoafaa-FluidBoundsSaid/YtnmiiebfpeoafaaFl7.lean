/-
  The walk of the law FluidBounds.
-/
import Derived.Test.YtnmiiebfpeoafaaFl3
import Derived.Test.YtnmiiebfpeoafaaWr1
namespace Go.Proofs.Ytnmiiebfpeoafaa
open Go.RowKit

/-- P9.4, of whatever number of quanta that is not below 0 -/
theorem fair_nonneg {E P t n : Int} (hM : MayBe E P) (ht : Sl t) (n0 : 0 ≤ n) : fairB E P t n = (decide (lowV E P t ≤ n) && decide (n ≤ highV E P t)) := by
  by_cases h : n ≤ 1099511627776
  · have := fair_iff hM ht (show Sl n from ⟨n0, h⟩)
    by_cases g : lowV E P t ≤ n ∧ n ≤ highV E P t
    · rw [this.mpr g]; simp [g.1, g.2]
    · have e : fairB E P t n = false := by cases hb : fairB E P t n; rfl; exact absurd (this.mp hb) g
      rw [e]
      by_cases g1 : lowV E P t ≤ n
      · have g2 : ¬ n ≤ highV E P t := fun x => g ⟨g1, x⟩
        simp [g1, g2]
      · simp [g1]
  · have := (highV_fit hM ht).2
    have := ht.2
    rw [fairB_no (fun g => h g.2.2.2)]
    have g2 : ¬ n ≤ highV E P t := by omega
    simp [g2]
set_option maxHeartbeats 2000000 in
theorem f9bounds_walk (qa qb n : Int) (d : Int) (w : World) : Calls Try.prog 4 #[.agg #[.int .i64 qa, .int .i64 qb], .int .i64 n, .int .i64 d] w fun e w' => e = .returned (.bool true) ∧ Below w.heap.size w w' := by
  obtain ⟨t, ht⟩ : ∃ t, bits .and .i64 n 1099511627775 = t := ⟨_, rfl⟩
  have mt := mask_le n 1099511627775 (by omega) (by omega)
  rw [ht] at mt
  have Q := Lib.hid (Blk.new w 22 #[Value.int .i64 qa, Value.int .i64 qb])
  go_enter Try.func4, Try.ntmps4
  go_wp2_with fail
  refine (f9awake_any _).mono ?_
  rintro e w1 ⟨rfl, hb⟩
  have B := Lib.hid (below_next (wbox _ _) hb)
  have q0 := (Q.out.below hb).cell 0
  have q1 := (Q.out.below hb).cell 1
  simp at q0 q1
  clear hb Q
  go_wp2_with fail
  refine (wmade_any qa qb _).mono ?_
  rintro e w2 ⟨E, P, rfl, hM, hb⟩
  have B := Lib.hid (below_next (below_next B.out hb) (wbox _ (Obj.cells #[Value.int .i64 E, Value.int .i64 P] 24)))
  have K := Lib.hid (Blk.new w2 24 #[Value.int .i64 E, Value.int .i64 P])
  clear hb q0 q1
  obtain ⟨t0, t1⟩ := mt
  have HM := Lib.hid hM
  have st : Sl t := ⟨by omega, by omega⟩
  have lf := lowV_fit hM st
  have hf := highV_fit hM st
  have hl := high_low hM st
  have fe := fit_et hM st
  have P0 : 0 < P := by have := hM.1; have := hM.2.1; omega
  obtain ⟨r, hr⟩ : ∃ r, d.tmod 10 = r := ⟨_, rfl⟩
  have ra := Int.lt_tmod_of_pos d (show (0 : Int) < 10 by omega)
  have rb := Int.tmod_lt_of_pos d (show (0 : Int) < 10 by omega)
  rw [hr] at ra rb
  have hfair : ∀ q, 0 ≤ q → fairB E P t q = (decide (lowV E P t ≤ q) && decide (q ≤ highV E P t)) := fun q => fair_nonneg hM st
  obtain ⟨U, hU⟩ : ∃ U, lowV E P t = U := ⟨_, rfl⟩
  obtain ⟨X, hX⟩ : ∃ X, highV E P t = X := ⟨_, rfl⟩
  rw [hU] at lf hl hfair
  rw [hX] at hf hl hfair
  have we : IntKind.i64.wrap (E * t) = E * t := IntWalk.i64_in _ (by omega)
  have hm : (E * t).tmod P = E * t % P := Int.tmod_eq_emod_of_nonneg fe.1
  obtain ⟨M, hM'⟩ : ∃ M, E * t % P = M := ⟨_, rfl⟩
  rw [hM'] at hm hl
  have nP : ¬ P = 0 := by omega
  obtain ⟨k, hk⟩ : ∃ k, U + r = k := ⟨_, rfl⟩
  have wk : IntKind.i64.wrap (U + r) = k := by rw [← hk]; exact IntWalk.i64_in _ (by omega)
  have HU := Lib.hid hU; have HX := Lib.hid hX
  have u0 : 0 ≤ U := lf.1
  have u1 : U ≤ 1099511627775 := by omega
  have wu : IntKind.i64.wrap (U + 1) = U + 1 := IntWalk.i64_in _ (by omega)
  have kb : k ≤ 1099511627785 := by omega
  have HF := Lib.hid hfair
  have HS := Lib.hid (show k < 0 → fairB E P t k = false from fun h => fairB_no (fun g => by have := g.2.2.1; omega))
  clear hM st lf hf fe hU hX hM' hfair ra rb hk
  by_cases gk : k < 0
  · have g_k : decide (k < 0) = true := by simp; omega
    have HB := Lib.hid (HS.out gk)
    clear gk hl
    go_wp2_with fail
    refine (flow_any E P t U _ HU.out).mono ?_
    rintro e w3 ⟨rfl, hb⟩
    have B := Lib.hid (below_next B.out hb)
    have K := Lib.hid (K.out.below hb)
    clear hb
    try clear k0 k1
    have k0 := K.out.cell 0
    have k1 := K.out.cell 1
    simp at k0 k1
    go_wp2_with fail
    refine (fhigh_any E P t X _ HX.out).mono ?_
    rintro e w4 ⟨rfl, hb⟩
    have B := Lib.hid (below_next B.out hb)
    have K := Lib.hid (K.out.below hb)
    clear hb
    try clear k0 k1
    have k0 := K.out.cell 0
    have k1 := K.out.cell 1
    simp at k0 k1
    go_wp2_with fail
    refine (ffair_any E P t k _ false HB.out).mono ?_
    rintro e w5 ⟨rfl, hb⟩
    have B := Lib.hid (below_next B.out hb)
    have K := Lib.hid (K.out.below hb)
    clear hb
    try clear k0 k1
    have k0 := K.out.cell 0
    have k1 := K.out.cell 1
    simp at k0 k1
    go_wp2
    go_ret
    exact ⟨rfl, B.out⟩
  · have g_k : decide (k < 0) = false := by simp; omega
    have hb := HF.out k (by omega)
    by_cases g1 : U ≤ k
    · have g_1 : decide (U ≤ k) = true := by simp; omega
      by_cases g2 : k ≤ X
      · have g_2 : decide (k ≤ X) = true := by simp; omega
        have HB := Lib.hid (show fairB E P t k = true by rw [hb, g_1, g_2]; rfl)
        clear gk g1 g2 hb
        by_cases gm : M = 0
        · have g_m : (M == 0) = true := by simp; omega
          have g_x : (X == U) = true := by rw [hl, if_pos gm]; simp
          clear hl gm
          go_wp2_with fail
          refine (flow_any E P t U _ HU.out).mono ?_
          rintro e w3 ⟨rfl, hb⟩
          have B := Lib.hid (below_next B.out hb)
          have K := Lib.hid (K.out.below hb)
          clear hb
          try clear k0 k1
          have k0 := K.out.cell 0
          have k1 := K.out.cell 1
          simp at k0 k1
          go_wp2_with fail
          refine (fhigh_any E P t X _ HX.out).mono ?_
          rintro e w4 ⟨rfl, hb⟩
          have B := Lib.hid (below_next B.out hb)
          have K := Lib.hid (K.out.below hb)
          clear hb
          try clear k0 k1
          have k0 := K.out.cell 0
          have k1 := K.out.cell 1
          simp at k0 k1
          go_wp2_with fail
          refine (ffair_any E P t k _ true HB.out).mono ?_
          rintro e w5 ⟨rfl, hb⟩
          have B := Lib.hid (below_next B.out hb)
          have K := Lib.hid (K.out.below hb)
          clear hb
          try clear k0 k1
          have k0 := K.out.cell 0
          have k1 := K.out.cell 1
          simp at k0 k1
          go_wp2
          go_ret
          exact ⟨rfl, B.out⟩
        · have g_m : (M == 0) = false := by simp; omega
          have g_x : (X == U) = false := by rw [hl, if_neg gm]; simp <;> omega
          have g_y : (X == U + 1) = true := by rw [hl, if_neg gm]; simp <;> omega
          clear hl gm
          go_wp2_with fail
          refine (flow_any E P t U _ HU.out).mono ?_
          rintro e w3 ⟨rfl, hb⟩
          have B := Lib.hid (below_next B.out hb)
          have K := Lib.hid (K.out.below hb)
          clear hb
          try clear k0 k1
          have k0 := K.out.cell 0
          have k1 := K.out.cell 1
          simp at k0 k1
          go_wp2_with fail
          refine (fhigh_any E P t X _ HX.out).mono ?_
          rintro e w4 ⟨rfl, hb⟩
          have B := Lib.hid (below_next B.out hb)
          have K := Lib.hid (K.out.below hb)
          clear hb
          try clear k0 k1
          have k0 := K.out.cell 0
          have k1 := K.out.cell 1
          simp at k0 k1
          go_wp2_with fail
          refine (ffair_any E P t k _ true HB.out).mono ?_
          rintro e w5 ⟨rfl, hb⟩
          have B := Lib.hid (below_next B.out hb)
          have K := Lib.hid (K.out.below hb)
          clear hb
          try clear k0 k1
          have k0 := K.out.cell 0
          have k1 := K.out.cell 1
          simp at k0 k1
          go_wp2
          go_ret
          exact ⟨rfl, B.out⟩
      · have g_2 : decide (k ≤ X) = false := by simp; omega
        have HB := Lib.hid (show fairB E P t k = false by rw [hb, g_1, g_2]; rfl)
        clear gk g1 g2 hb
        by_cases gm : M = 0
        · have g_m : (M == 0) = true := by simp; omega
          have g_x : (X == U) = true := by rw [hl, if_pos gm]; simp
          clear hl gm
          go_wp2_with fail
          refine (flow_any E P t U _ HU.out).mono ?_
          rintro e w3 ⟨rfl, hb⟩
          have B := Lib.hid (below_next B.out hb)
          have K := Lib.hid (K.out.below hb)
          clear hb
          try clear k0 k1
          have k0 := K.out.cell 0
          have k1 := K.out.cell 1
          simp at k0 k1
          go_wp2_with fail
          refine (fhigh_any E P t X _ HX.out).mono ?_
          rintro e w4 ⟨rfl, hb⟩
          have B := Lib.hid (below_next B.out hb)
          have K := Lib.hid (K.out.below hb)
          clear hb
          try clear k0 k1
          have k0 := K.out.cell 0
          have k1 := K.out.cell 1
          simp at k0 k1
          go_wp2_with fail
          refine (ffair_any E P t k _ false HB.out).mono ?_
          rintro e w5 ⟨rfl, hb⟩
          have B := Lib.hid (below_next B.out hb)
          have K := Lib.hid (K.out.below hb)
          clear hb
          try clear k0 k1
          have k0 := K.out.cell 0
          have k1 := K.out.cell 1
          simp at k0 k1
          go_wp2
          go_ret
          exact ⟨rfl, B.out⟩
        · have g_m : (M == 0) = false := by simp; omega
          have g_x : (X == U) = false := by rw [hl, if_neg gm]; simp <;> omega
          have g_y : (X == U + 1) = true := by rw [hl, if_neg gm]; simp <;> omega
          clear hl gm
          go_wp2_with fail
          refine (flow_any E P t U _ HU.out).mono ?_
          rintro e w3 ⟨rfl, hb⟩
          have B := Lib.hid (below_next B.out hb)
          have K := Lib.hid (K.out.below hb)
          clear hb
          try clear k0 k1
          have k0 := K.out.cell 0
          have k1 := K.out.cell 1
          simp at k0 k1
          go_wp2_with fail
          refine (fhigh_any E P t X _ HX.out).mono ?_
          rintro e w4 ⟨rfl, hb⟩
          have B := Lib.hid (below_next B.out hb)
          have K := Lib.hid (K.out.below hb)
          clear hb
          try clear k0 k1
          have k0 := K.out.cell 0
          have k1 := K.out.cell 1
          simp at k0 k1
          go_wp2_with fail
          refine (ffair_any E P t k _ false HB.out).mono ?_
          rintro e w5 ⟨rfl, hb⟩
          have B := Lib.hid (below_next B.out hb)
          have K := Lib.hid (K.out.below hb)
          clear hb
          try clear k0 k1
          have k0 := K.out.cell 0
          have k1 := K.out.cell 1
          simp at k0 k1
          go_wp2
          go_ret
          exact ⟨rfl, B.out⟩
    · have g_1 : decide (U ≤ k) = false := by simp; omega
      have HB := Lib.hid (show fairB E P t k = false by rw [hb, g_1]; rfl)
      clear gk g1 hb
      by_cases gm : M = 0
      · have g_m : (M == 0) = true := by simp; omega
        have g_x : (X == U) = true := by rw [hl, if_pos gm]; simp
        clear hl gm
        go_wp2_with fail
        refine (flow_any E P t U _ HU.out).mono ?_
        rintro e w3 ⟨rfl, hb⟩
        have B := Lib.hid (below_next B.out hb)
        have K := Lib.hid (K.out.below hb)
        clear hb
        try clear k0 k1
        have k0 := K.out.cell 0
        have k1 := K.out.cell 1
        simp at k0 k1
        go_wp2_with fail
        refine (fhigh_any E P t X _ HX.out).mono ?_
        rintro e w4 ⟨rfl, hb⟩
        have B := Lib.hid (below_next B.out hb)
        have K := Lib.hid (K.out.below hb)
        clear hb
        try clear k0 k1
        have k0 := K.out.cell 0
        have k1 := K.out.cell 1
        simp at k0 k1
        go_wp2_with fail
        refine (ffair_any E P t k _ false HB.out).mono ?_
        rintro e w5 ⟨rfl, hb⟩
        have B := Lib.hid (below_next B.out hb)
        have K := Lib.hid (K.out.below hb)
        clear hb
        try clear k0 k1
        have k0 := K.out.cell 0
        have k1 := K.out.cell 1
        simp at k0 k1
        go_wp2
        go_ret
        exact ⟨rfl, B.out⟩
      · have g_m : (M == 0) = false := by simp; omega
        have g_x : (X == U) = false := by rw [hl, if_neg gm]; simp <;> omega
        have g_y : (X == U + 1) = true := by rw [hl, if_neg gm]; simp <;> omega
        clear hl gm
        go_wp2_with fail
        refine (flow_any E P t U _ HU.out).mono ?_
        rintro e w3 ⟨rfl, hb⟩
        have B := Lib.hid (below_next B.out hb)
        have K := Lib.hid (K.out.below hb)
        clear hb
        try clear k0 k1
        have k0 := K.out.cell 0
        have k1 := K.out.cell 1
        simp at k0 k1
        go_wp2_with fail
        refine (fhigh_any E P t X _ HX.out).mono ?_
        rintro e w4 ⟨rfl, hb⟩
        have B := Lib.hid (below_next B.out hb)
        have K := Lib.hid (K.out.below hb)
        clear hb
        try clear k0 k1
        have k0 := K.out.cell 0
        have k1 := K.out.cell 1
        simp at k0 k1
        go_wp2_with fail
        refine (ffair_any E P t k _ false HB.out).mono ?_
        rintro e w5 ⟨rfl, hb⟩
        have B := Lib.hid (below_next B.out hb)
        have K := Lib.hid (K.out.below hb)
        clear hb
        try clear k0 k1
        have k0 := K.out.cell 0
        have k1 := K.out.cell 1
        simp at k0 k1
        go_wp2
        go_ret
        exact ⟨rfl, B.out⟩
end Go.Proofs.Ytnmiiebfpeoafaa
