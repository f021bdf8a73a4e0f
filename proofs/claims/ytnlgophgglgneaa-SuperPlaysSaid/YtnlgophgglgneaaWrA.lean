/-
  What the document's own windows (regattaref04) give back: contracts.
  What the document's own groups (regattaref04.Group) give back: contract.
  What the document's own subtasks (regattaref04.Of) give back: contract.
-/
import Derived.Test.YtnlgophgglgneaaWinA
import Derived.Deep.DeepCutAuto
namespace Go.Proofs.Ytnlgophgglgneaa
open Go.RowKit

theorem r4check_any (E P : Int) (w : World) (t : Bool) (ht : t = true ↔ MayBe E P) :
    Calls Try.prog 31 #[.agg #[.int .i64 E, .int .i64 P]] w fun e w' => e = .returned (.bool t) ∧ Below w.heap.size w w' := by
  unfold MayBe at ht
  by_cases h1 : 1 ≤ E
  · have b1 : decide (1 ≤ E) = true := by simp; omega
    by_cases h2 : E ≤ P
    · have b2 : decide (E ≤ P) = true := by simp; omega
      by_cases h3 : P ≤ 1048576
      · have b3 : decide (P ≤ 1048576) = true := by simp; omega
        obtain rfl : t = true := ht.mpr ⟨h1, h2, h3⟩
        clear ht
        go_enter Try.func31, Try.ntmps31
        go_wp2
        go_ret
        exact ⟨rfl, wbox _ _⟩
      · have b3 : decide (P ≤ 1048576) = false := by simp; omega
        obtain rfl : t = false := by cases t; rfl; exact absurd (ht.mp rfl) (by omega)
        clear ht
        go_enter Try.func31, Try.ntmps31
        go_wp2
        go_ret
        exact ⟨rfl, wbox _ _⟩
    · have b2 : decide (E ≤ P) = false := by simp; omega
      obtain rfl : t = false := by cases t; rfl; exact absurd (ht.mp rfl) (by omega)
      clear ht
      go_enter Try.func31, Try.ntmps31
      go_wp2
      go_ret
      exact ⟨rfl, wbox _ _⟩
  · have b1 : decide (1 ≤ E) = false := by simp; omega
    obtain rfl : t = false := by cases t; rfl; exact absurd (ht.mp rfl) (by omega)
    clear ht
    go_enter Try.func31, Try.ntmps31
    go_wp2
    go_ret
    exact ⟨rfl, wbox _ _⟩
theorem r4check_yes (E P : Int) (w : World) (hM : MayBe E P) :
    Calls Try.prog 31 #[.agg #[.int .i64 E, .int .i64 P]] w fun e w' => e = .returned (.bool true) ∧ Below w.heap.size w w' := r4check_any E P w true ⟨fun _ => hM, fun _ => rfl⟩
theorem r4heavy_yes (E P : Int) (w : World) (hM : MayBe E P) (t : Bool) (ht : t = decide (P ≤ 2 * E)) :
    Calls Try.prog 72 #[.agg #[.int .i64 E, .int .i64 P]] w fun e w' => e = .returned (.bool t) ∧ Below w.heap.size w w' := by
  have HM := Lib.hid hM
  obtain ⟨h1, h2, h3⟩ := hM
  have K := Lib.hid (Blk.new w 32 #[Value.int .i64 E, Value.int .i64 P])
  subst ht
  go_enter Try.func72, Try.ntmps72
  go_wp2_with fail
  refine (r4check_yes E P _ HM.out).mono ?_
  rintro e w1 ⟨rfl, hb⟩
  have B := Lib.hid (below_next (wbox _ _) hb)
  have k0 := (K.out.below hb).cell 0
  have k1 := (K.out.below hb).cell 1
  simp at k0 k1
  clear hb
  go_wp2
  go_ret
  exact ⟨rfl, B.out⟩
theorem r4number_yes (E P i : Int) (w : World) (hM : MayBe E P) (hi : Nth i) :
    Calls Try.prog 49 #[.agg #[.int .i64 E, .int .i64 P], .int .i64 i] w fun e w' => e = .returned (.bool true) ∧ Below w.heap.size w w' := by
  have HM := Lib.hid hM
  clear hM
  obtain ⟨i0, i1⟩ := hi
  go_enter Try.func49, Try.ntmps49
  go_wp2_with fail
  refine (r4check_yes E P _ HM.out).mono ?_
  rintro e w1 ⟨rfl, hb⟩
  have B := Lib.hid (below_next (wbox _ _) hb)
  clear hb
  go_wp2
  go_ret
  exact ⟨rfl, B.out⟩
/-- no number of a subtask: above 2^40 -/
theorem r4number_past (E P i : Int) (w : World) (hM : MayBe E P) (hi : 1099511627776 < i) :
    Calls Try.prog 49 #[.agg #[.int .i64 E, .int .i64 P], .int .i64 i] w fun e w' => e = .returned (.bool false) ∧ Below w.heap.size w w' := by
  have HM := Lib.hid hM
  clear hM
  have t1 : decide (1 ≤ i) = true := by simp; omega
  have t2 : decide (i ≤ 1099511627776) = false := by simp; omega
  go_enter Try.func49, Try.ntmps49
  go_wp2_with fail
  refine (r4check_yes E P _ HM.out).mono ?_
  rintro e w1 ⟨rfl, hb⟩
  have B := Lib.hid (below_next (wbox _ _) hb)
  clear hb
  go_wp2
  go_ret
  exact ⟨rfl, B.out⟩
theorem r4up_any (a b : Int) (w : World) (a0 : 0 ≤ a) (a1 : a ≤ 4611686018427387904) (b0 : 0 < b) (v : Int) (hv : cdv a b = v) :
    Calls Try.prog 73 #[.int .i64 a, .int .i64 b] w fun e w' => e = .returned (.int .i64 v) ∧ w = w' := by
  subst hv
  have hd : a.tdiv b = a / b := Int.tdiv_eq_ediv_of_nonneg a0
  have d0 : 0 ≤ a / b := Int.ediv_nonneg a0 (by omega)
  have d1 : a / b ≤ a := Int.ediv_le_self _ a0
  have e1 := Int.mul_ediv_add_emod a b
  have e2 := Int.emod_nonneg a (show b ≠ 0 by omega)
  have e3 : a / b * b = b * (a / b) := Int.mul_comm _ _
  have n0 : 0 ≤ a / b * b := Int.mul_nonneg d0 (by omega)
  have HC := Lib.hid (cdv_part (a := a) b0)
  have nb : ¬ b = 0 := by omega
  obtain ⟨Q, hQ⟩ : ∃ Q, a / b = Q := ⟨_, rfl⟩
  rw [hQ] at hd d0 d1 e1 e3 n0 HC
  have wq : IntKind.i64.wrap (Q * b) = Q * b := IntWalk.i64_in _ (by omega)
  by_cases g : a % b = 0
  · have bt : decide (Q * b < a) = false := by simp; omega
    have HE := Lib.hid (show Q = cdv a b by rw [HC.out, if_pos g]; omega)
    clear HC e1 e2 e3 n0 g hQ
    go_enter Try.func73, Try.ntmps73
    go_wp2
    go_ret
    exact ⟨ret_one HE.out, rfl⟩
  · have bt : decide (Q * b < a) = true := by simp; omega
    have HE := Lib.hid (show Q + 1 = cdv a b by rw [HC.out, if_neg g])
    clear HC e1 e2 e3 n0 g hQ
    go_enter Try.func73, Try.ntmps73
    go_wp2
    go_ret
    exact ⟨ret_one HE.out, rfl⟩
theorem r4release_yes (E P i v : Int) (w : World) (hM : MayBe E P) (hi : Nth i) (hv : wR E P i = v) :
    Calls Try.prog 52 #[.agg #[.int .i64 E, .int .i64 P], .int .i64 i] w fun e w' => e = .returned (.int .i64 v) ∧ Below w.heap.size w w' := by
  subst hv
  have HM := Lib.hid hM; have HI := Lib.hid hi
  have K := Lib.hid (Blk.new w 32 #[Value.int .i64 E, Value.int .i64 P])
  have F := fit_w hM (show 0 ≤ i - 1 by have := hi.1; omega) (show i - 1 ≤ 1099511627776 by have := hi.2; omega)
  have i0 : 1 ≤ i := hi.1
  have i1 : i ≤ 1099511627776 := hi.2
  have hw : IntKind.i64.wrap ((i - 1) * P) = (i - 1) * P := IntWalk.i64_in _ (by omega)
  have hd : ((i - 1) * P).tdiv E = wR E P i := Int.tdiv_eq_ediv_of_nonneg F.1
  obtain ⟨r0, r1⟩ := wR_fit hM i0 i1
  have nE : ¬ E = 0 := by have := hM.1; omega
  obtain ⟨R, hR⟩ : ∃ R, wR E P i = R := ⟨_, rfl⟩
  rw [hR] at hd r0 r1
  rw [hR]
  clear hM hi F hR
  go_enter Try.func52, Try.ntmps52
  go_wp2_with fail
  refine (r4number_yes E P i _ HM.out HI.out).mono ?_
  rintro e w1 ⟨rfl, hb⟩
  have B := Lib.hid (below_next (wbox _ _) hb)
  have K := Lib.hid (K.out.below hb)
  have k0 := K.out.cell 0
  have k1 := K.out.cell 1
  simp at k0 k1
  clear hb
  go_wp2
  go_ret
  exact ⟨rfl, B.out⟩
theorem r4deadline_yes (E P i v : Int) (w : World) (hM : MayBe E P) (hi : Nth i) (hv : wD E P i = v) :
    Calls Try.prog 51 #[.agg #[.int .i64 E, .int .i64 P], .int .i64 i] w fun e w' => e = .returned (.int .i64 v) ∧ Below w.heap.size w w' := by
  subst hv
  have HM := Lib.hid hM; have HI := Lib.hid hi
  have K := Lib.hid (Blk.new w 32 #[Value.int .i64 E, Value.int .i64 P])
  have F := fit_w hM (show 0 ≤ i by have := hi.1; omega) hi.2
  obtain ⟨f0, f1⟩ := F
  have hw : IntKind.i64.wrap (i * P) = i * P := IntWalk.i64_in _ (by omega)
  have E0 := Lib.hid (show 0 < E from hM.1)
  have F0 := Lib.hid f0; have F1 := Lib.hid f1
  clear hM hi f0 f1
  go_enter Try.func51, Try.ntmps51
  go_wp2_with fail
  refine (r4number_yes E P i _ HM.out HI.out).mono ?_
  rintro e w1 ⟨rfl, hb⟩
  have B := Lib.hid (below_next (wbox _ _) hb)
  have K := Lib.hid (K.out.below hb)
  have k0 := K.out.cell 0
  have k1 := K.out.cell 1
  simp at k0 k1
  clear hb
  go_wp2_with fail
  refine (r4up_any (i * P) E _ F0.out (by have := F1.out; omega) E0.out (wD E P i) rfl).mono ?_
  rintro e w2 ⟨rfl, rfl⟩
  go_wp2
  go_ret
  exact ⟨rfl, B.out⟩
theorem r4bit_yes (E P i v : Int) (w : World) (hM : MayBe E P) (hi : Nth i) (hv : wB E P i = v) :
    Calls Try.prog 53 #[.agg #[.int .i64 E, .int .i64 P], .int .i64 i] w fun e w' => e = .returned (.int .i64 v) ∧ Below w.heap.size w w' := by
  subst hv
  have HM := Lib.hid hM; have HI := Lib.hid hi
  have K := Lib.hid (Blk.new w 32 #[Value.int .i64 E, Value.int .i64 P])
  have F := fit_w hM (show 0 ≤ i by have := hi.1; omega) hi.2
  obtain ⟨f0, f1⟩ := F
  have hw : IntKind.i64.wrap (i * P) = i * P := IntWalk.i64_in _ (by omega)
  have hm : (i * P).tmod E = i * P % E := Int.tmod_eq_emod_of_nonneg f0
  have nE : ¬ E = 0 := by have := hM.1; omega
  obtain ⟨M, hM'⟩ : ∃ M, i * P % E = M := ⟨_, rfl⟩
  have HB := Lib.hid (show wB E P i = if M = 0 then 0 else 1 by unfold wB; rw [hM'])
  rw [hM'] at hm
  clear hM hi f0 f1 hM'
  by_cases g : M = 0
  · have HB0 := Lib.hid (show (0 : Int) = wB E P i by rw [HB.out, if_pos g])
    subst g
    clear HB
    go_enter Try.func53, Try.ntmps53
    go_wp2_with fail
    refine (r4number_yes E P i _ HM.out HI.out).mono ?_
    rintro e w1 ⟨rfl, hb⟩
    have B := Lib.hid (below_next (wbox _ _) hb)
    have K := Lib.hid (K.out.below hb)
    have k0 := K.out.cell 0
    have k1 := K.out.cell 1
    simp at k0 k1
    clear hb
    go_wp2
    go_ret
    exact ⟨ret_one HB0.out, B.out⟩
  · have bt : (M == 0) = false := by simp; omega
    have HB0 := Lib.hid (show (1 : Int) = wB E P i by rw [HB.out, if_neg g])
    clear g HB
    go_enter Try.func53, Try.ntmps53
    go_wp2_with fail
    refine (r4number_yes E P i _ HM.out HI.out).mono ?_
    rintro e w1 ⟨rfl, hb⟩
    have B := Lib.hid (below_next (wbox _ _) hb)
    have K := Lib.hid (K.out.below hb)
    have k0 := K.out.cell 0
    have k1 := K.out.cell 1
    simp at k0 k1
    clear hb
    go_wp2
    go_ret
    exact ⟨ret_one HB0.out, B.out⟩
end Go.Proofs.Ytnlgophgglgneaa
namespace Go.Proofs.Ytnlgophgglgneaa
open Go.RowKit

/-- where the document begins to look for a group's end is not behind it -/
theorem group_from {E P i : Int} (hEP : E < P) (hE : 0 < E) : wD E P i / P * (P - E) ≤ wK E P i := by
  have P0 : 0 < P := by omega
  have h1 := Int.mul_ediv_add_emod (wD E P i) P
  have h3 := Int.emod_nonneg (wD E P i) (show P ≠ 0 by omega)
  obtain ⟨q, hq⟩ : ∃ q, wD E P i / P = q := ⟨_, rfl⟩
  rw [hq] at h1 ⊢
  have h4 : P * q * (P - E) ≤ wD E P i * (P - E) := Int.mul_le_mul_of_nonneg_right (by omega) (by omega)
  have h5 : (q * (P - E) - 1) * P = P * q * (P - E) - P := by grind
  have h6 : (wD E P i - 1) * (P - E) = wD E P i * (P - E) - (P - E) := by grind
  have h7 : q * (P - E) - 1 ≤ (wD E P i - 1) * (P - E) / P := Int.le_ediv_of_mul_le P0 (by omega)
  unfold wK; omega
theorem group_ahead {E P i k : Int} (hEP : E < P) (hP : 0 < P) (h : k < wK E P i) : cdv (k * P) (P - E) < wD E P i := by
  rcases Int.lt_or_le (cdv (k * P) (P - E)) (wD E P i) with g | g
  · exact g
  · have := group_least hEP hP g
    omega

theorem r4group_yes (E P i v : Int) (w : World) (hM : MayBe E P) (hi : Nth i) (hv : wG E P i = v) :
    Calls Try.prog 50 #[.agg #[.int .i64 E, .int .i64 P], .int .i64 i] w fun e w' => e = .returned (.int .i64 v) ∧ Below w.heap.size w w' := by
  have HM := Lib.hid hM; have HI := Lib.hid hi; have HV := Lib.hid hv
  have K := Lib.hid (Blk.new w 32 #[Value.int .i64 E, Value.int .i64 P])
  clear hM hi hv
  by_cases g : 2 * E < P
  · have HT := Lib.hid (show false = decide (P ≤ 2 * E) by simp; omega)
    obtain rfl : v = 0 := HV.out.symm.trans (group_light g)
    clear g
    go_enter Try.func50, Try.ntmps50
    go_wp2_with fail
    refine (r4number_yes E P i _ HM.out HI.out).mono ?_
    rintro e w1 ⟨rfl, hb⟩
    have B := Lib.hid (below_next (wbox _ _) hb)
    have K := Lib.hid (K.out.below hb)
    have k0 := K.out.cell 0
    have k1 := K.out.cell 1
    simp at k0 k1
    clear hb
    go_wp2_with fail
    refine (r4heavy_yes E P _ HM.out false HT.out).mono ?_
    rintro e w2 ⟨rfl, hb⟩
    have B := Lib.hid (below_next B.out hb)
    clear hb k0 k1
    go_wp2
    go_ret
    exact ⟨rfl, B.out⟩
  · have HT := Lib.hid (show true = decide (P ≤ 2 * E) by simp; omega)
    obtain ⟨D, hD⟩ : ∃ D, wD E P i = D := ⟨_, rfl⟩
    have HD := Lib.hid hD
    by_cases q : E = P
    · subst q
      obtain rfl : D = v := by rw [← HV.out, ← HD.out, group_one HM.out.1]
      clear hD g
      go_enter Try.func50, Try.ntmps50
      go_wp2_with fail
      refine (r4number_yes E E i _ HM.out HI.out).mono ?_
      rintro e w1 ⟨rfl, hb⟩
      have B := Lib.hid (below_next (wbox _ _) hb)
      have K := Lib.hid (K.out.below hb)
      have k0 := K.out.cell 0
      have k1 := K.out.cell 1
      simp at k0 k1
      clear hb
      go_wp2_with fail
      refine (r4heavy_yes E E _ HM.out true HT.out).mono ?_
      rintro e w2 ⟨rfl, hb⟩
      have B := Lib.hid (below_next B.out hb)
      have K := Lib.hid (K.out.below hb)
      clear hb k0 k1
      have k0 := K.out.cell 0
      have k1 := K.out.cell 1
      simp at k0 k1
      go_wp2_with fail
      refine (r4deadline_yes E E i D _ HM.out HI.out HD.out).mono ?_
      rintro e w3 ⟨rfl, hb⟩
      have B := Lib.hid (below_next B.out hb)
      have K := Lib.hid (K.out.below hb)
      clear hb k0 k1
      have k0 := K.out.cell 0
      have k1 := K.out.cell 1
      simp at k0 k1
      go_wp2
      go_ret
      exact ⟨rfl, B.out⟩
    · obtain ⟨h1, h2, h3⟩ := HM.out
      have f0 : 0 < P - E := by omega
      have WK := wK_fit HM.out g HI.out.1 HI.out.2
      have GF := group_from (i := i) (show E < P by omega) (show 0 < E by omega)
      have GA : ∀ k, k < wK E P i → cdv (k * P) (P - E) < wD E P i := fun k h => group_ahead (by omega) (by omega) h
      have GB := (group_bd (i := i) (show 0 < E by omega) h2 g).1
      have HG := (show wG E P i = cdv (wK E P i * P) (P - E) by unfold wG; rw [if_neg g, if_neg q])
      rw [HV.out] at GB HG
      obtain ⟨d0, d1⟩ := wD_fit HM.out HI.out.1 HI.out.2
      obtain ⟨N, hN⟩ : ∃ N, wK E P i = N := ⟨_, rfl⟩
      rw [hD] at GB GF GA d0 d1
      rw [hN] at GF GA HG WK
      have q0 : 0 ≤ D / P := Int.ediv_nonneg (by omega) (by omega)
      have q1 : D / P ≤ D := Int.ediv_le_self _ (by omega)
      have fq : D.tdiv P = D / P := Int.tdiv_eq_ediv_of_nonneg (by omega)
      obtain ⟨U, hU⟩ : ∃ U, D / P = U := ⟨_, rfl⟩
      rw [hU] at GF q0 q1 fq
      have u0 : 0 ≤ U * (P - E) := Int.mul_nonneg q0 (by omega)
      have wu : IntKind.i64.wrap (U * (P - E)) = U * (P - E) := IntWalk.i64_in _ (by omega)
      have nP : ¬ P = 0 := by omega
      have qt : (E == P) = false := by simp; omega
      have W2 := Lib.hid WK.2.2.1
      have W3 := Lib.hid WK.2.2.2
      have HF := Lib.hid GF; have HA := Lib.hid GA; have HB := Lib.hid GB; have HGV := Lib.hid HG
      have HU := Lib.hid u0
      clear GF GA GB HG WK hD hN hU q g
      go_enter Try.func50, Try.ntmps50
      go_wp2_with fail
      refine (r4number_yes E P i _ HM.out HI.out).mono ?_
      rintro e w1 ⟨rfl, hb⟩
      have B := Lib.hid (below_next (wbox _ _) hb)
      have K := Lib.hid (K.out.below hb)
      have k0 := K.out.cell 0
      have k1 := K.out.cell 1
      simp at k0 k1
      clear hb
      go_wp2_with fail
      refine (r4heavy_yes E P _ HM.out true HT.out).mono ?_
      rintro e w2 ⟨rfl, hb⟩
      have B := Lib.hid (below_next B.out hb)
      have K := Lib.hid (K.out.below hb)
      clear hb k0 k1
      have k0 := K.out.cell 0
      have k1 := K.out.cell 1
      simp at k0 k1
      go_wp2_with fail
      refine (r4deadline_yes E P i D _ HM.out HI.out HD.out).mono ?_
      rintro e w3 ⟨rfl, hb⟩
      have B := Lib.hid (below_next B.out hb)
      have K := Lib.hid (K.out.below hb)
      clear hb k0 k1
      have k0 := K.out.cell 0
      have k1 := K.out.cell 1
      simp at k0 k1
      go_wp2
      go_loop [9] (fun u => ∃ k : Int, u = .int .i64 k ∧ 0 ≤ k ∧ k ≤ N) (fun u => (N - intOf u).toNat)
      case atStart => exact ⟨_, rfl, HU.out, HF.out⟩
      case round =>
        obtain ⟨k, rfl, c0, c1⟩ := hrel
        have c2 := W2.out
        have kp : k * P ≤ N * P := Int.mul_le_mul_of_nonneg_right c1 (by omega)
        have kq : 0 ≤ k * P := Int.mul_nonneg c0 (by omega)
        have kw : IntKind.i64.wrap (k * P) = k * P := IntWalk.i64_in _ (by have := W3.out; omega)
        have KP := Lib.hid kp; have KQ := Lib.hid kq
        clear kp kq
        obtain ⟨C, hC⟩ : ∃ C, cdv (k * P) (P - E) = C := ⟨_, rfl⟩
        have HC := Lib.hid hC
        clear hC
        by_cases z : k < N
        · have bt : decide (C < D) = true := by simp; have := HA.out k z; have := HC.out; omega
          go_wp2_with fail
          refine (r4up_any (k * P) (P - E) _ KQ.out (by have := KP.out; have := W3.out; omega) f0 C HC.out).mono ?_
          rintro e w4 ⟨rfl, rfl⟩
          go_wp2
          go_round
          case rel => exact ⟨k + 1, by go_num, by omega, by omega⟩
          case measure => simp [intOf]; omega
        · obtain rfl : k = N := by omega
          obtain rfl : v = C := HGV.out.trans HC.out
          have bt : decide (v < D) = false := by simp; have := HB.out; omega
          go_wp2_with fail
          refine (r4up_any (k * P) (P - E) _ KQ.out (by have := W3.out; omega) f0 v HC.out).mono ?_
          rintro e w4 ⟨rfl, rfl⟩
          go_wp2_with fail
          refine (r4up_any (k * P) (P - E) _ KQ.out (by have := W3.out; omega) f0 v HC.out).mono ?_
          rintro e w4 ⟨rfl, rfl⟩
          go_wp2
          go_ret
          exact ⟨rfl, B.out⟩
end Go.Proofs.Ytnlgophgglgneaa
namespace Go.Proofs.Ytnlgophgglgneaa
open Go.RowKit

/-- the cells of a subtask -/
def subC (I R D B G : Int) : Array Value := #[.int .i64 I, .int .i64 R, .int .i64 D, .int .i64 B, .int .i64 G]
theorem Blk.set {W : World} {T : TypeId} {g : Nat} {cs : Array Value} (h : Blk W T g cs) (j : Nat) (v : Value) : Blk (W.setCell ⟨g, j, none⟩ v) T g (cs.setIfInBounds j v) := heap_setCell_same W g j cs T v h
theorem Blk.other {W : World} {T : TypeId} {g : Nat} {cs : Array Value} (h : Blk W T g cs) (p : Addr) (v : Value) (hne : g ≠ p.block) : Blk (W.setCell p v) T g cs := (Below.heap_setCell W p v g hne).trans h
theorem Blk.set5 {W : World} {T : TypeId} {g : Nat} {a b c d e u v x y z : Value} (h : Blk W T g #[a, b, c, d, e]) :
    Blk (((((W.setCell ⟨g, 0, none⟩ u).setCell ⟨g, 1, none⟩ v).setCell ⟨g, 2, none⟩ x).setCell ⟨g, 3, none⟩ y).setCell ⟨g, 4, none⟩ z) T g #[u, v, x, y, z] :=
  ((((h.set 0 u).set 1 v).set 2 x).set 3 y).set 4 z
theorem Blk.other5 {W : World} {T : TypeId} {k g : Nat} {cs : Array Value} {u v x y z : Value} (h : Blk W T k cs) (hne : k ≠ g) :
    Blk (((((W.setCell ⟨g, 0, none⟩ u).setCell ⟨g, 1, none⟩ v).setCell ⟨g, 2, none⟩ x).setCell ⟨g, 3, none⟩ y).setCell ⟨g, 4, none⟩ z) T k cs :=
  ((((h.other _ _ hne).other _ _ hne).other _ _ hne).other _ _ hne).other _ _ hne
theorem below_set5 {w W : World} {g : Nat} {u v x y z : Value} (h : Below w.heap.size w W) (hg : w.heap.size ≤ g) :
    Below w.heap.size w (((((W.setCell ⟨g, 0, none⟩ u).setCell ⟨g, 1, none⟩ v).setCell ⟨g, 2, none⟩ x).setCell ⟨g, 3, none⟩ y).setCell ⟨g, 4, none⟩ z) :=
  ((((h.setCell hg _).setCell hg _).setCell hg _).setCell hg _).setCell hg _

/-- behind the region that builds a subtask: it lies in a block of its own -/
def OfBox (w : World) (I R D B : Int) (s : Value) (wx : World) : Prop :=
  ∃ b : Nat, s = .pointer (some ⟨b, 0, none⟩) ∧ Blk wx 52 b #[.int .i64 I, .int .i64 R, .int .i64 D, .int .i64 B, .int .i64 0] ∧ w.heap.size + 1 < b ∧ Blk wx 52 (w.heap.size + 1) #[.int .i64 0, .int .i64 0, .int .i64 0, .int .i64 0, .int .i64 0] ∧ Below w.heap.size w wx

theorem ofbox_new {w v3 v6 : World} {I R D B : Int} (hB : Below w.heap.size w v3) (hL : Blk v3 52 (w.heap.size + 1) #[.int .i64 0, .int .i64 0, .int .i64 0, .int .i64 0, .int .i64 0]) (hb : Below v3.heap.size v3 v6) :
    OfBox w I R D B (.pointer (some ⟨v6.heap.size, 0, none⟩)) (v6.alloc (.cells #[.int .i64 I, .int .i64 R, .int .i64 D, .int .i64 B, .int .i64 0] 52)) :=
  ⟨_, rfl, Blk.new _ _ _, Nat.lt_of_lt_of_le hL.lt hb.size, (hL.below hb).alloc _, below_next (below_next hB hb) (wbox _ _)⟩
theorem ofbox_set {w v3 v6 : World} {I R D B : Int} {b : Nat} (hB : Below w.heap.size w v3) (hL : Blk v3 52 (w.heap.size + 1) #[.int .i64 0, .int .i64 0, .int .i64 0, .int .i64 0, .int .i64 0]) (hb : Below v3.heap.size v3 v6) (hA : Blk v6 52 b #[.int .i64 0, .int .i64 0, .int .i64 0, .int .i64 0, .int .i64 0]) (hg : v3.heap.size ≤ b) :
    OfBox w I R D B (.pointer (some ⟨b, 0, none⟩)) (((((v6.setCell ⟨b, 0, none⟩ (.int .i64 I)).setCell ⟨b, 1, none⟩ (.int .i64 R)).setCell ⟨b, 2, none⟩ (.int .i64 D)).setCell ⟨b, 3, none⟩ (.int .i64 B)).setCell ⟨b, 4, none⟩ (.int .i64 0)) :=
  ⟨_, rfl, hA.set5, Nat.lt_of_lt_of_le hL.lt hg, (hL.below hb).other5 (Nat.ne_of_lt (Nat.lt_of_lt_of_le hL.lt hg)), below_set5 (below_next hB hb) (Nat.le_of_lt (Nat.lt_trans (Nat.lt_succ_self _) (Nat.lt_of_lt_of_le hL.lt hg)))⟩

set_option maxHeartbeats 8000000 in
theorem r4of_yes (E P i o : Int) (w : World) (hM : MayBe E P) (hi : Nth i) (o0 : 0 ≤ o) (o1 : o ≤ 2305843009213693952) (G' : Int) (hG' : G' = if wG E P i = 0 then 0 else wG E P i + o) :
    Calls Try.prog 26 #[.agg #[.int .i64 E, .int .i64 P], .int .i64 i, .int .i64 o] w fun e w' => e = .returned (.tuple #[subV i (wR E P i + o) (wD E P i + o) (wB E P i) G', .int .i64 0]) ∧ Below w.heap.size w w' := by
  have HM := Lib.hid hM; have HI := Lib.hid hi; have HG' := Lib.hid hG'
  obtain ⟨r0, r1⟩ := wR_fit hM hi.1 hi.2
  obtain ⟨d0, d1⟩ := wD_fit hM hi.1 hi.2
  have gb : wG E P i = 0 ∨ 0 < wG E P i ∧ wG E P i ≤ 1152921504607895552 := by
    by_cases h : 2 * E < P
    · exact .inl (group_light h)
    · have h1 := group_bd (i := i) (show 0 < E by have := hM.1; omega) hM.2.1 h
      have h3 := hM.2.2
      exact .inr (by omega)
  obtain ⟨R, hR⟩ : ∃ v, wR E P i = v := ⟨_, rfl⟩
  obtain ⟨D, hD⟩ : ∃ v, wD E P i = v := ⟨_, rfl⟩
  obtain ⟨T, hT⟩ : ∃ v, wB E P i = v := ⟨_, rfl⟩
  obtain ⟨G, hG⟩ : ∃ v, wG E P i = v := ⟨_, rfl⟩
  rw [hR] at r0 r1
  rw [hD] at d0 d1
  rw [hG] at gb HG'
  rw [hR, hD, hT]
  have HR := Lib.hid hR; have HD := Lib.hid hD; have HT := Lib.hid hT; have HG := Lib.hid hG
  clear hM hi hG' hR hD hT hG
  have g0 : 0 ≤ G := by omega
  have g1 : G ≤ 1152921504607895552 := by omega
  have t1 : decide (4611686018427387904 < o) = false := by simp; omega
  have t2 : decide (4611686018427387904 - o < D) = false := by simp; omega
  have t3 : decide (4611686018427387904 - o < G) = false := by simp; omega
  have t4 : decide (o < 0) = false := by simp; omega
  have w1 : IntKind.i64.wrap (R + o) = R + o := IntWalk.i64_in _ (by omega)
  have w2 : IntKind.i64.wrap (D + o) = D + o := IntWalk.i64_in _ (by omega)
  have K := Lib.hid (Blk.new w 32 #[Value.int .i64 E, Value.int .i64 P] |>.alloc (Obj.cells #[Value.int .i64 0, Value.int .i64 0, Value.int .i64 0, Value.int .i64 0, Value.int .i64 0] 52))
  have L := Lib.hid (Blk.new2 w (Obj.cells #[Value.int .i64 E, Value.int .i64 P] 32) 52 #[Value.int .i64 0, Value.int .i64 0, Value.int .i64 0, Value.int .i64 0, Value.int .i64 0])
  go_enter Try.func26, Try.ntmps26
  go_wp2_with fail
  refine (r4number_yes E P i _ HM.out HI.out).mono ?_
  rintro e w1 ⟨rfl, hb⟩
  have B := Lib.hid (below_next (wbox2 _ _ _) hb)
  have K := Lib.hid (K.out.below hb)
  have L := Lib.hid (L.out.below hb)
  have k0 := K.out.cell 0
  have k1 := K.out.cell 1
  simp at k0 k1
  clear hb
  go_wp2_with fail
  refine (r4group_yes E P i G _ HM.out HI.out HG.out).mono ?_
  rintro e w2 ⟨rfl, hb⟩
  have B := Lib.hid (below_next B.out hb)
  have K := Lib.hid (K.out.below hb)
  have L := Lib.hid (L.out.below hb)
  clear hb k0 k1
  have k0 := K.out.cell 0
  have k1 := K.out.cell 1
  simp at k0 k1
  go_wp2_with fail
  refine (r4deadline_yes E P i D _ HM.out HI.out HD.out).mono ?_
  rintro e w3 ⟨rfl, hb⟩
  have B := Lib.hid (below_next B.out hb)
  have K := Lib.hid (K.out.below hb)
  have L := Lib.hid (L.out.below hb)
  clear hb k0 k1
  go_upto_region 7 with fail
  have KEPT := Lib.hid (show ∀ w', Below w3.heap.size w3 w' → w'.cell? ⟨w.heap.size, 0, none⟩ = some (.int .i64 E) ∧ w'.cell? ⟨w.heap.size, 1, none⟩ = some (.int .i64 P) from fun w' h => ⟨(K.out.below h).cell 0, (K.out.below h).cell 1⟩)
  have BB := Lib.hid (show Below w3.heap.size w3 w3.drew from (Below.refl w3.heap.size w3).drew)
  have LT := Lib.hid L.out.lt
  go_cut [10] (fun s10 wx => OfBox w i (R + o) (D + o) T s10 wx)
  case first =>
    go_region_held3 (fun w' => w'.cell? ⟨w.heap.size, 0, none⟩ = some (.int .i64 E) ∧ w'.cell? ⟨w.heap.size, 1, none⟩ = some (.int .i64 P))
      (((with_reducible refine KEPT.out _ ?_); first | with_reducible exact below_set5 BB.out AG.out | with_reducible exact BB.out | with_reducible exact (wbox _ _).drew | with_reducible exact below_next BB.out (wbox _ _)))
      (first
        | (go_at_call 52; (with_reducible refine (r4release_yes E P i R _ HM.out HI.out HR.out).mono ?_); rintro e w4 ⟨rfl, hb⟩; (first | (with_reducible have BB := Lib.hid (below_next BB.out hb)) | (with_reducible have AG := Lib.hid BB.out.size; with_reducible have A := Lib.hid ((Blk.new _ 52 #[.int .i64 0, .int .i64 0, .int .i64 0, .int .i64 0, .int .i64 0]).below hb); with_reducible have BB := Lib.hid (below_next (below_next BB.out (wbox _ _)) hb)) | (have AG := Lib.hid (Nat.le_refl w3.heap.size); have A := Lib.hid ((Blk.new w3 52 #[.int .i64 0, .int .i64 0, .int .i64 0, .int .i64 0, .int .i64 0]).drew.below hb); have BB := Lib.hid (below_next (wbox w3 (Obj.cells #[.int .i64 0, .int .i64 0, .int .i64 0, .int .i64 0, .int .i64 0] 52)).drew hb))); clear hb)
        | (go_at_call 51; (with_reducible refine (r4deadline_yes E P i D _ HM.out HI.out HD.out).mono ?_); rintro e w5 ⟨rfl, hb⟩; (first | (with_reducible have BB := Lib.hid (below_next BB.out hb); (try have A := Lib.hid (A.out.below hb))) | (with_reducible have AG := Lib.hid BB.out.size; with_reducible have A := Lib.hid ((Blk.new _ 52 #[.int .i64 0, .int .i64 0, .int .i64 0, .int .i64 0, .int .i64 0]).below hb); with_reducible have BB := Lib.hid (below_next (below_next BB.out (wbox _ _)) hb)) | (have AG := Lib.hid (Nat.le_refl w3.heap.size); have A := Lib.hid ((Blk.new w3 52 #[.int .i64 0, .int .i64 0, .int .i64 0, .int .i64 0, .int .i64 0]).drew.below hb); have BB := Lib.hid (below_next (wbox w3 (Obj.cells #[.int .i64 0, .int .i64 0, .int .i64 0, .int .i64 0, .int .i64 0] 52)).drew hb))); clear hb)
        | (go_at_call 53; (with_reducible refine (r4bit_yes E P i T _ HM.out HI.out HT.out).mono ?_); rintro e w6 ⟨rfl, hb⟩; (first | (with_reducible have BB := Lib.hid (below_next BB.out hb); (try have A := Lib.hid (A.out.below hb))) | (with_reducible have AG := Lib.hid BB.out.size; with_reducible have A := Lib.hid ((Blk.new _ 52 #[.int .i64 0, .int .i64 0, .int .i64 0, .int .i64 0, .int .i64 0]).below hb); with_reducible have BB := Lib.hid (below_next (below_next BB.out (wbox _ _)) hb)) | (have AG := Lib.hid (Nat.le_refl w3.heap.size); have A := Lib.hid ((Blk.new w3 52 #[.int .i64 0, .int .i64 0, .int .i64 0, .int .i64 0, .int .i64 0]).drew.below hb); have BB := Lib.hid (below_next (wbox w3 (Obj.cells #[.int .i64 0, .int .i64 0, .int .i64 0, .int .i64 0, .int .i64 0] 52)).drew hb))); (try (have s0 := A.out.cell 0; have s1 := A.out.cell 1; have s2 := A.out.cell 2; have s3 := A.out.cell 3; have s4 := A.out.cell 4; have f0 := A.out.free 0; have f1 := A.out.free 1; have f2 := A.out.free 2; have f3 := A.out.free 3; have f4 := A.out.free 4; simp at s0 s1 s2 s3 s4)); clear hb))
    all_goals
      go_wp2_with fail
      go_meet
      first
        | with_reducible exact ofbox_set B.out L.out BB.out A.out AG.out
        | with_reducible exact ofbox_new B.out L.out BB.out
  case rest =>
    obtain ⟨b, rfl, hb1, hlt, hb2, hbel⟩ := hcut
    have H1 := Lib.hid hb1; have H2 := Lib.hid hb2; have HB := Lib.hid hbel
    have n1 : ¬ b = w.heap.size + 1 := by omega
    have n2 : ¬ w.heap.size + 1 = b := by omega
    have c0 := hb1.cell 0; have c1 := hb1.cell 1; have c2 := hb1.cell 2; have c3 := hb1.cell 3; have c4 := hb1.cell 4
    have e4 := hb1.free 4
    have s0 := hb2.cell 0; have s1 := hb2.cell 1; have s2 := hb2.cell 2; have s3 := hb2.cell 3; have s4 := hb2.cell 4
    have f0 := hb2.free 0; have f1 := hb2.free 1; have f2 := hb2.free 2; have f3 := hb2.free 3; have f4 := hb2.free 4
    simp at c0 c1 c2 c3 c4 s0 s1 s2 s3 s4
    have u1 : w.heap.size ≤ w.heap.size + 1 := by omega
    have u2 : w.heap.size ≤ b := by omega
    clear hb1 hb2 hbel hlt
    clear KEPT BB LT K L B
    rcases gb with rfl | ⟨p0, p1⟩
    · obtain rfl : G' = 0 := by rw [HG'.out, if_pos rfl]
      go_wp2
      exact bodyPost_ret (v := .tuple #[subV i (R + o) (D + o) T 0, .int .i64 0]) (by simp [subV, results, Try.results26, go_sem, s0, s1, s2, s3, s4]) rfl ⟨rfl, below_set5 HB.out u1⟩
    · obtain rfl : G' = G + o := by rw [HG'.out, if_neg (by omega)]
      have t5 : decide (0 < G) = true := by simp; omega
      have w3 : IntKind.i64.wrap (G + o) = G + o := IntWalk.i64_in _ (by omega)
      clear p0 p1
      go_wp2
      exact bodyPost_ret (v := .tuple #[subV i (R + o) (D + o) T (G + o), .int .i64 0]) (by simp [subV, results, Try.results26, go_sem, s0, s1, s2, s3, s4]) rfl ⟨rfl, below_set5 (HB.out.setCell u2 _) u1⟩
end Go.Proofs.Ytnlgophgglgneaa
