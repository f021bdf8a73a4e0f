/-
  What the document's own groups (regattaref04.Group) give back: contract.
-/
import Derived.Test.YtidfldngiagpdaaWr1
namespace Go.Proofs.Ytidfldngiagpdaa
open Go.RowKit

/-- where the document begins to look for a group's end is not behind it -/
theorem group_from {E P i : Int} (hEP : E < P) (hE : 0 < E) : wD E P i / P * (P - E) ≤ wK E P i := by
  have P0 : 0 < P := by omega
  have h1 := Int.mul_ediv_add_emod (wD E P i) P
  have h3 := Int.emod_nonneg (wD E P i) (show P ≠ 0 by omega)
  obtain ⟨q, hq⟩ : ∃ q, wD E P i / P = q := ⟨_, rfl⟩
  rw [hq] at h1 ⊢
  have h4 : P * q * (P - E) ≤ wD E P i * (P - E) := Int.mul_le_mul_of_nonneg_right (by omega) (by omega)
  have h5 : (q * (P - E) - 1) * P = P * q * (P - E) - P := by grind
  have h6 : (wD E P i - 1) * (P - E) = wD E P i * (P - E) - (P - E) := by grind
  have h7 : q * (P - E) - 1 ≤ (wD E P i - 1) * (P - E) / P := Int.le_ediv_of_mul_le P0 (by omega)
  unfold wK; omega
theorem group_ahead {E P i k : Int} (hEP : E < P) (hP : 0 < P) (h : k < wK E P i) : cdv (k * P) (P - E) < wD E P i := by
  rcases Int.lt_or_le (cdv (k * P) (P - E)) (wD E P i) with g | g
  · exact g
  · have := group_least hEP hP g
    omega

theorem r4group_yes (E P i v : Int) (w : World) (hM : MayBe E P) (hi : Nth i) (hv : wG E P i = v) :
    Calls Try.prog 19 #[.agg #[.int .i64 E, .int .i64 P], .int .i64 i] w fun e w' => e = .returned (.int .i64 v) ∧ Below w.heap.size w w' := by
  have HM := Lib.hid hM; have HI := Lib.hid hi; have HV := Lib.hid hv
  have K := Lib.hid (Blk.new w 25 #[Value.int .i64 E, Value.int .i64 P])
  clear hM hi hv
  by_cases g : 2 * E < P
  · have HT := Lib.hid (show false = decide (P ≤ 2 * E) by simp; omega)
    obtain rfl : v = 0 := HV.out.symm.trans (group_light g)
    clear g
    go_enter Try.func19, Try.ntmps19
    go_wp2_with fail
    refine (r4number_yes E P i _ HM.out HI.out).mono ?_
    rintro e w1 ⟨rfl, hb⟩
    have B := Lib.hid (below_next (wbox _ _) hb)
    have K := Lib.hid (K.out.below hb)
    have k0 := K.out.cell 0
    have k1 := K.out.cell 1
    simp at k0 k1
    clear hb
    go_wp2_with fail
    refine (r4heavy_yes E P _ HM.out false HT.out).mono ?_
    rintro e w2 ⟨rfl, hb⟩
    have B := Lib.hid (below_next B.out hb)
    clear hb k0 k1
    go_wp2
    go_ret
    exact ⟨rfl, B.out⟩
  · have HT := Lib.hid (show true = decide (P ≤ 2 * E) by simp; omega)
    obtain ⟨D, hD⟩ : ∃ D, wD E P i = D := ⟨_, rfl⟩
    have HD := Lib.hid hD
    by_cases q : E = P
    · subst q
      obtain rfl : D = v := by rw [← HV.out, ← HD.out, group_one HM.out.1]
      clear hD g
      go_enter Try.func19, Try.ntmps19
      go_wp2_with fail
      refine (r4number_yes E E i _ HM.out HI.out).mono ?_
      rintro e w1 ⟨rfl, hb⟩
      have B := Lib.hid (below_next (wbox _ _) hb)
      have K := Lib.hid (K.out.below hb)
      have k0 := K.out.cell 0
      have k1 := K.out.cell 1
      simp at k0 k1
      clear hb
      go_wp2_with fail
      refine (r4heavy_yes E E _ HM.out true HT.out).mono ?_
      rintro e w2 ⟨rfl, hb⟩
      have B := Lib.hid (below_next B.out hb)
      have K := Lib.hid (K.out.below hb)
      clear hb k0 k1
      have k0 := K.out.cell 0
      have k1 := K.out.cell 1
      simp at k0 k1
      go_wp2_with fail
      refine (r4deadline_yes E E i D _ HM.out HI.out HD.out).mono ?_
      rintro e w3 ⟨rfl, hb⟩
      have B := Lib.hid (below_next B.out hb)
      have K := Lib.hid (K.out.below hb)
      clear hb k0 k1
      have k0 := K.out.cell 0
      have k1 := K.out.cell 1
      simp at k0 k1
      go_wp2
      go_ret
      exact ⟨rfl, B.out⟩
    · obtain ⟨h1, h2, h3⟩ := HM.out
      have f0 : 0 < P - E := by omega
      have WK := wK_fit HM.out g HI.out.1 HI.out.2
      have GF := group_from (i := i) (show E < P by omega) (show 0 < E by omega)
      have GA : ∀ k, k < wK E P i → cdv (k * P) (P - E) < wD E P i := fun k h => group_ahead (by omega) (by omega) h
      have GB := (group_bd (i := i) (show 0 < E by omega) h2 g).1
      have HG := (show wG E P i = cdv (wK E P i * P) (P - E) by unfold wG; rw [if_neg g, if_neg q])
      rw [HV.out] at GB HG
      obtain ⟨d0, d1⟩ := wD_fit HM.out HI.out.1 HI.out.2
      obtain ⟨N, hN⟩ : ∃ N, wK E P i = N := ⟨_, rfl⟩
      rw [hD] at GB GF GA d0 d1
      rw [hN] at GF GA HG WK
      have q0 : 0 ≤ D / P := Int.ediv_nonneg (by omega) (by omega)
      have q1 : D / P ≤ D := Int.ediv_le_self _ (by omega)
      have fq : D.tdiv P = D / P := Int.tdiv_eq_ediv_of_nonneg (by omega)
      obtain ⟨U, hU⟩ : ∃ U, D / P = U := ⟨_, rfl⟩
      rw [hU] at GF q0 q1 fq
      have u0 : 0 ≤ U * (P - E) := Int.mul_nonneg q0 (by omega)
      have wu : IntKind.i64.wrap (U * (P - E)) = U * (P - E) := IntWalk.i64_in _ (by omega)
      have nP : ¬ P = 0 := by omega
      have qt : (E == P) = false := by simp; omega
      have W2 := Lib.hid WK.2.2.1
      have W3 := Lib.hid WK.2.2.2
      have HF := Lib.hid GF; have HA := Lib.hid GA; have HB := Lib.hid GB; have HGV := Lib.hid HG
      have HU := Lib.hid u0
      clear GF GA GB HG WK hD hN hU q g
      go_enter Try.func19, Try.ntmps19
      go_wp2_with fail
      refine (r4number_yes E P i _ HM.out HI.out).mono ?_
      rintro e w1 ⟨rfl, hb⟩
      have B := Lib.hid (below_next (wbox _ _) hb)
      have K := Lib.hid (K.out.below hb)
      have k0 := K.out.cell 0
      have k1 := K.out.cell 1
      simp at k0 k1
      clear hb
      go_wp2_with fail
      refine (r4heavy_yes E P _ HM.out true HT.out).mono ?_
      rintro e w2 ⟨rfl, hb⟩
      have B := Lib.hid (below_next B.out hb)
      have K := Lib.hid (K.out.below hb)
      clear hb k0 k1
      have k0 := K.out.cell 0
      have k1 := K.out.cell 1
      simp at k0 k1
      go_wp2_with fail
      refine (r4deadline_yes E P i D _ HM.out HI.out HD.out).mono ?_
      rintro e w3 ⟨rfl, hb⟩
      have B := Lib.hid (below_next B.out hb)
      have K := Lib.hid (K.out.below hb)
      clear hb k0 k1
      have k0 := K.out.cell 0
      have k1 := K.out.cell 1
      simp at k0 k1
      go_wp2
      go_loop [9] (fun u => ∃ k : Int, u = .int .i64 k ∧ 0 ≤ k ∧ k ≤ N) (fun u => (N - intOf u).toNat)
      case atStart => exact ⟨_, rfl, HU.out, HF.out⟩
      case round =>
        obtain ⟨k, rfl, c0, c1⟩ := hrel
        have c2 := W2.out
        have kp : k * P ≤ N * P := Int.mul_le_mul_of_nonneg_right c1 (by omega)
        have kq : 0 ≤ k * P := Int.mul_nonneg c0 (by omega)
        have kw : IntKind.i64.wrap (k * P) = k * P := IntWalk.i64_in _ (by have := W3.out; omega)
        have KP := Lib.hid kp; have KQ := Lib.hid kq
        clear kp kq
        obtain ⟨C, hC⟩ : ∃ C, cdv (k * P) (P - E) = C := ⟨_, rfl⟩
        have HC := Lib.hid hC
        clear hC
        by_cases z : k < N
        · have bt : decide (C < D) = true := by simp; have := HA.out k z; have := HC.out; omega
          go_wp2_with fail
          refine (r4up_any (k * P) (P - E) _ KQ.out (by have := KP.out; have := W3.out; omega) f0 C HC.out).mono ?_
          rintro e w4 ⟨rfl, rfl⟩
          go_wp2
          go_round
          case rel => exact ⟨k + 1, by go_num, by omega, by omega⟩
          case measure => simp [intOf]; omega
        · obtain rfl : k = N := by omega
          obtain rfl : v = C := HGV.out.trans HC.out
          have bt : decide (v < D) = false := by simp; have := HB.out; omega
          go_wp2_with fail
          refine (r4up_any (k * P) (P - E) _ KQ.out (by have := W3.out; omega) f0 v HC.out).mono ?_
          rintro e w4 ⟨rfl, rfl⟩
          go_wp2_with fail
          refine (r4up_any (k * P) (P - E) _ KQ.out (by have := W3.out; omega) f0 v HC.out).mono ?_
          rintro e w4 ⟨rfl, rfl⟩
          go_wp2
          go_ret
          exact ⟨rfl, B.out⟩
end Go.Proofs.Ytidfldngiagpdaa
