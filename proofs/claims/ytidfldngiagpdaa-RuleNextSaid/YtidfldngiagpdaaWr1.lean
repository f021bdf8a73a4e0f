/-
  What the document's own windows (regattaref04) give back: contracts.
-/
import Derived.Test.YtidfldngiagpdaaWin7
namespace Go.Proofs.Ytidfldngiagpdaa
open Go.RowKit

theorem r4check_any (E P : Int) (w : World) (t : Bool) (ht : t = true ↔ MayBe E P) :
    Calls Try.prog 26 #[.agg #[.int .i64 E, .int .i64 P]] w fun e w' => e = .returned (.bool t) ∧ Below w.heap.size w w' := by
  unfold MayBe at ht
  by_cases h1 : 1 ≤ E
  · have b1 : decide (1 ≤ E) = true := by simp; omega
    by_cases h2 : E ≤ P
    · have b2 : decide (E ≤ P) = true := by simp; omega
      by_cases h3 : P ≤ 1048576
      · have b3 : decide (P ≤ 1048576) = true := by simp; omega
        obtain rfl : t = true := ht.mpr ⟨h1, h2, h3⟩
        clear ht
        go_enter Try.func26, Try.ntmps26
        go_wp2
        go_ret
        exact ⟨rfl, wbox _ _⟩
      · have b3 : decide (P ≤ 1048576) = false := by simp; omega
        obtain rfl : t = false := by cases t; rfl; exact absurd (ht.mp rfl) (by omega)
        clear ht
        go_enter Try.func26, Try.ntmps26
        go_wp2
        go_ret
        exact ⟨rfl, wbox _ _⟩
    · have b2 : decide (E ≤ P) = false := by simp; omega
      obtain rfl : t = false := by cases t; rfl; exact absurd (ht.mp rfl) (by omega)
      clear ht
      go_enter Try.func26, Try.ntmps26
      go_wp2
      go_ret
      exact ⟨rfl, wbox _ _⟩
  · have b1 : decide (1 ≤ E) = false := by simp; omega
    obtain rfl : t = false := by cases t; rfl; exact absurd (ht.mp rfl) (by omega)
    clear ht
    go_enter Try.func26, Try.ntmps26
    go_wp2
    go_ret
    exact ⟨rfl, wbox _ _⟩
theorem r4check_yes (E P : Int) (w : World) (hM : MayBe E P) :
    Calls Try.prog 26 #[.agg #[.int .i64 E, .int .i64 P]] w fun e w' => e = .returned (.bool true) ∧ Below w.heap.size w w' := r4check_any E P w true ⟨fun _ => hM, fun _ => rfl⟩
theorem r4heavy_yes (E P : Int) (w : World) (hM : MayBe E P) (t : Bool) (ht : t = decide (P ≤ 2 * E)) :
    Calls Try.prog 16 #[.agg #[.int .i64 E, .int .i64 P]] w fun e w' => e = .returned (.bool t) ∧ Below w.heap.size w w' := by
  have HM := Lib.hid hM
  obtain ⟨h1, h2, h3⟩ := hM
  have K := Lib.hid (Blk.new w 25 #[Value.int .i64 E, Value.int .i64 P])
  subst ht
  go_enter Try.func16, Try.ntmps16
  go_wp2_with fail
  refine (r4check_yes E P _ HM.out).mono ?_
  rintro e w1 ⟨rfl, hb⟩
  have B := Lib.hid (below_next (wbox _ _) hb)
  have k0 := (K.out.below hb).cell 0
  have k1 := (K.out.below hb).cell 1
  simp at k0 k1
  clear hb
  go_wp2
  go_ret
  exact ⟨rfl, B.out⟩
theorem r4number_yes (E P i : Int) (w : World) (hM : MayBe E P) (hi : Nth i) :
    Calls Try.prog 18 #[.agg #[.int .i64 E, .int .i64 P], .int .i64 i] w fun e w' => e = .returned (.bool true) ∧ Below w.heap.size w w' := by
  have HM := Lib.hid hM
  clear hM
  obtain ⟨i0, i1⟩ := hi
  go_enter Try.func18, Try.ntmps18
  go_wp2_with fail
  refine (r4check_yes E P _ HM.out).mono ?_
  rintro e w1 ⟨rfl, hb⟩
  have B := Lib.hid (below_next (wbox _ _) hb)
  clear hb
  go_wp2
  go_ret
  exact ⟨rfl, B.out⟩
/-- no number of a subtask: above 2^40 -/
theorem r4number_past (E P i : Int) (w : World) (hM : MayBe E P) (hi : 1099511627776 < i) :
    Calls Try.prog 18 #[.agg #[.int .i64 E, .int .i64 P], .int .i64 i] w fun e w' => e = .returned (.bool false) ∧ Below w.heap.size w w' := by
  have HM := Lib.hid hM
  clear hM
  have t1 : decide (1 ≤ i) = true := by simp; omega
  have t2 : decide (i ≤ 1099511627776) = false := by simp; omega
  go_enter Try.func18, Try.ntmps18
  go_wp2_with fail
  refine (r4check_yes E P _ HM.out).mono ?_
  rintro e w1 ⟨rfl, hb⟩
  have B := Lib.hid (below_next (wbox _ _) hb)
  clear hb
  go_wp2
  go_ret
  exact ⟨rfl, B.out⟩
theorem r4up_any (a b : Int) (w : World) (a0 : 0 ≤ a) (a1 : a ≤ 4611686018427387904) (b0 : 0 < b) (v : Int) (hv : cdv a b = v) :
    Calls Try.prog 29 #[.int .i64 a, .int .i64 b] w fun e w' => e = .returned (.int .i64 v) ∧ w = w' := by
  subst hv
  have hd : a.tdiv b = a / b := Int.tdiv_eq_ediv_of_nonneg a0
  have d0 : 0 ≤ a / b := Int.ediv_nonneg a0 (by omega)
  have d1 : a / b ≤ a := Int.ediv_le_self _ a0
  have e1 := Int.mul_ediv_add_emod a b
  have e2 := Int.emod_nonneg a (show b ≠ 0 by omega)
  have e3 : a / b * b = b * (a / b) := Int.mul_comm _ _
  have n0 : 0 ≤ a / b * b := Int.mul_nonneg d0 (by omega)
  have HC := Lib.hid (cdv_part (a := a) b0)
  have nb : ¬ b = 0 := by omega
  obtain ⟨Q, hQ⟩ : ∃ Q, a / b = Q := ⟨_, rfl⟩
  rw [hQ] at hd d0 d1 e1 e3 n0 HC
  have wq : IntKind.i64.wrap (Q * b) = Q * b := IntWalk.i64_in _ (by omega)
  by_cases g : a % b = 0
  · have bt : decide (Q * b < a) = false := by simp; omega
    have HE := Lib.hid (show Q = cdv a b by rw [HC.out, if_pos g]; omega)
    clear HC e1 e2 e3 n0 g hQ
    go_enter Try.func29, Try.ntmps29
    go_wp2
    go_ret
    exact ⟨ret_one HE.out, rfl⟩
  · have bt : decide (Q * b < a) = true := by simp; omega
    have HE := Lib.hid (show Q + 1 = cdv a b by rw [HC.out, if_neg g])
    clear HC e1 e2 e3 n0 g hQ
    go_enter Try.func29, Try.ntmps29
    go_wp2
    go_ret
    exact ⟨ret_one HE.out, rfl⟩
theorem r4release_yes (E P i v : Int) (w : World) (hM : MayBe E P) (hi : Nth i) (hv : wR E P i = v) :
    Calls Try.prog 15 #[.agg #[.int .i64 E, .int .i64 P], .int .i64 i] w fun e w' => e = .returned (.int .i64 v) ∧ Below w.heap.size w w' := by
  subst hv
  have HM := Lib.hid hM; have HI := Lib.hid hi
  have K := Lib.hid (Blk.new w 25 #[Value.int .i64 E, Value.int .i64 P])
  have F := fit_w hM (show 0 ≤ i - 1 by have := hi.1; omega) (show i - 1 ≤ 1099511627776 by have := hi.2; omega)
  have i0 : 1 ≤ i := hi.1
  have i1 : i ≤ 1099511627776 := hi.2
  have hw : IntKind.i64.wrap ((i - 1) * P) = (i - 1) * P := IntWalk.i64_in _ (by omega)
  have hd : ((i - 1) * P).tdiv E = wR E P i := Int.tdiv_eq_ediv_of_nonneg F.1
  obtain ⟨r0, r1⟩ := wR_fit hM i0 i1
  have nE : ¬ E = 0 := by have := hM.1; omega
  obtain ⟨R, hR⟩ : ∃ R, wR E P i = R := ⟨_, rfl⟩
  rw [hR] at hd r0 r1
  rw [hR]
  clear hM hi F hR
  go_enter Try.func15, Try.ntmps15
  go_wp2_with fail
  refine (r4number_yes E P i _ HM.out HI.out).mono ?_
  rintro e w1 ⟨rfl, hb⟩
  have B := Lib.hid (below_next (wbox _ _) hb)
  have K := Lib.hid (K.out.below hb)
  have k0 := K.out.cell 0
  have k1 := K.out.cell 1
  simp at k0 k1
  clear hb
  go_wp2
  go_ret
  exact ⟨rfl, B.out⟩
theorem r4deadline_yes (E P i v : Int) (w : World) (hM : MayBe E P) (hi : Nth i) (hv : wD E P i = v) :
    Calls Try.prog 20 #[.agg #[.int .i64 E, .int .i64 P], .int .i64 i] w fun e w' => e = .returned (.int .i64 v) ∧ Below w.heap.size w w' := by
  subst hv
  have HM := Lib.hid hM; have HI := Lib.hid hi
  have K := Lib.hid (Blk.new w 25 #[Value.int .i64 E, Value.int .i64 P])
  have F := fit_w hM (show 0 ≤ i by have := hi.1; omega) hi.2
  obtain ⟨f0, f1⟩ := F
  have hw : IntKind.i64.wrap (i * P) = i * P := IntWalk.i64_in _ (by omega)
  have E0 := Lib.hid (show 0 < E from hM.1)
  have F0 := Lib.hid f0; have F1 := Lib.hid f1
  clear hM hi f0 f1
  go_enter Try.func20, Try.ntmps20
  go_wp2_with fail
  refine (r4number_yes E P i _ HM.out HI.out).mono ?_
  rintro e w1 ⟨rfl, hb⟩
  have B := Lib.hid (below_next (wbox _ _) hb)
  have K := Lib.hid (K.out.below hb)
  have k0 := K.out.cell 0
  have k1 := K.out.cell 1
  simp at k0 k1
  clear hb
  go_wp2_with fail
  refine (r4up_any (i * P) E _ F0.out (by have := F1.out; omega) E0.out (wD E P i) rfl).mono ?_
  rintro e w2 ⟨rfl, rfl⟩
  go_wp2
  go_ret
  exact ⟨rfl, B.out⟩
theorem r4bit_yes (E P i v : Int) (w : World) (hM : MayBe E P) (hi : Nth i) (hv : wB E P i = v) :
    Calls Try.prog 21 #[.agg #[.int .i64 E, .int .i64 P], .int .i64 i] w fun e w' => e = .returned (.int .i64 v) ∧ Below w.heap.size w w' := by
  subst hv
  have HM := Lib.hid hM; have HI := Lib.hid hi
  have K := Lib.hid (Blk.new w 25 #[Value.int .i64 E, Value.int .i64 P])
  have F := fit_w hM (show 0 ≤ i by have := hi.1; omega) hi.2
  obtain ⟨f0, f1⟩ := F
  have hw : IntKind.i64.wrap (i * P) = i * P := IntWalk.i64_in _ (by omega)
  have hm : (i * P).tmod E = i * P % E := Int.tmod_eq_emod_of_nonneg f0
  have nE : ¬ E = 0 := by have := hM.1; omega
  obtain ⟨M, hM'⟩ : ∃ M, i * P % E = M := ⟨_, rfl⟩
  have HB := Lib.hid (show wB E P i = if M = 0 then 0 else 1 by unfold wB; rw [hM'])
  rw [hM'] at hm
  clear hM hi f0 f1 hM'
  by_cases g : M = 0
  · have HB0 := Lib.hid (show (0 : Int) = wB E P i by rw [HB.out, if_pos g])
    subst g
    clear HB
    go_enter Try.func21, Try.ntmps21
    go_wp2_with fail
    refine (r4number_yes E P i _ HM.out HI.out).mono ?_
    rintro e w1 ⟨rfl, hb⟩
    have B := Lib.hid (below_next (wbox _ _) hb)
    have K := Lib.hid (K.out.below hb)
    have k0 := K.out.cell 0
    have k1 := K.out.cell 1
    simp at k0 k1
    clear hb
    go_wp2
    go_ret
    exact ⟨ret_one HB0.out, B.out⟩
  · have bt : (M == 0) = false := by simp; omega
    have HB0 := Lib.hid (show (1 : Int) = wB E P i by rw [HB.out, if_neg g])
    clear g HB
    go_enter Try.func21, Try.ntmps21
    go_wp2_with fail
    refine (r4number_yes E P i _ HM.out HI.out).mono ?_
    rintro e w1 ⟨rfl, hb⟩
    have B := Lib.hid (below_next (wbox _ _) hb)
    have K := Lib.hid (K.out.below hb)
    have k0 := K.out.cell 0
    have k1 := K.out.cell 1
    simp at k0 k1
    clear hb
    go_wp2
    go_ret
    exact ⟨ret_one HB0.out, B.out⟩
end Go.Proofs.Ytidfldngiagpdaa
