/-
  The walk of the law WindowShort.
-/
import Derived.Test.YtgfhlllddfdapaaWin7
namespace Go.Proofs.Ytgfhlllddfdapaa
open Go.RowKit

set_option maxHeartbeats 4000000 in
theorem short_walk (qa qb n : Int) (w : World) : Calls Try.prog 7 #[.agg #[.int .i64 qa, .int .i64 qb], .int .i64 n] w fun e w' => e = .returned (.bool true) ∧ Below w.heap.size w w' := by
  obtain ⟨m, hm⟩ : ∃ m, bits .and .i64 n 549755813887 = m := ⟨_, rfl⟩
  have mb := mask_le n 549755813887 (by omega) (by omega)
  rw [hm] at mb
  obtain ⟨m0, m1⟩ := mb
  have Q := Lib.hid (Blk.new w 22 #[Value.int .i64 qa, Value.int .i64 qb])
  go_enter Try.func7, Try.ntmps7
  go_wp2_with fail
  refine (wawake_any _).mono ?_
  rintro e w1 ⟨rfl, hb⟩
  have B := Lib.hid (below_next (wbox _ _) hb)
  have q0 := (Q.out.below hb).cell 0
  have q1 := (Q.out.below hb).cell 1
  simp at q0 q1
  clear hb
  go_wp2_with fail
  refine (wmade_any qa qb _).mono ?_
  rintro e w2 ⟨E, P, rfl, hM, hb⟩
  have B := Lib.hid (below_next (below_next B.out hb) (wbox _ (Obj.cells #[Value.int .i64 E, Value.int .i64 P] 25)))
  have HM := Lib.hid hM
  have N9 := Lib.hid ex_nth1
  have E0 : 0 < E := hM.1
  have EP : E ≤ P := hM.2.1
  have P9 : P ≤ 1048576 := hM.2.2
  have P0 : 0 < P := Int.lt_of_lt_of_le hM.1 hM.2.1
  have K := Lib.hid (Blk.new w2 25 #[Value.int .i64 E, Value.int .i64 P])
  clear hb q0 q1 Q
  have N0 := Lib.hid (show Nth (1 + m) from ⟨by omega, by omega⟩)
  have d0 := wD_fit hM N0.out.1 N0.out.2
  have r0 := wR_fit hM N0.out.1 N0.out.2
  have l1 : E = P → wD E P (1 + m) - wR E P (1 + m) = 1 ∧ wB E P (1 + m) = 0 := fun h => by subst h; exact long_one E0
  have l2 : E < P → P ≤ 2 * E → wD E P (1 + m) - wR E P (1 + m) = 2 ∨ wD E P (1 + m) - wR E P (1 + m) = 3 := fun h g => long_heavy E0 h g
  have l3 : 2 * E < P → 3 ≤ wD E P (1 + m) - wR E P (1 + m) ∧ wD E P (1 + m) - wR E P (1 + m) ≤ P / E + 2 := fun h => long_light E0 h
  have fq : P.tdiv E = P / E := Int.tdiv_eq_ediv_of_nonneg (by omega)
  have q0 : 0 ≤ P / E := Int.ediv_nonneg (by omega) (by omega)
  have q1 : P / E ≤ P := Int.ediv_le_self E (by omega)
  obtain ⟨U, hU⟩ : ∃ U, P / E = U := ⟨_, rfl⟩
  obtain ⟨L, hL⟩ : ∃ v, wD E P (1 + m) - wR E P (1 + m) = v := ⟨_, rfl⟩
  rw [hL] at l1 l2 l3
  rw [hU] at l3 q0 q1 fq
  have HL := Lib.hid hL
  have nE : ¬ E = 0 := by omega
  clear hL hM hU d0 r0
  by_cases z : E = P
  · have HB := Lib.hid (l1 z).2
    obtain rfl : L = 1 := (l1 z).1
    have z0 : (E == P) = true := by simp; omega
    clear z l1 l2 l3 fq q0 q1 nE
    go_wp2_with fail
    refine (wlong_at E P (1 + m) 1 _ HM.out N0.out HL.out).mono ?_
    rintro e w3 ⟨rfl, hb⟩
    have B := Lib.hid (below_next B.out hb)
    have K := Lib.hid (K.out.below hb)
    clear hb
    have k0 := K.out.cell 0
    have k1 := K.out.cell 1
    simp at k0 k1
    go_wp2_with fail
    refine (wbit_at E P (1 + m) 0 _ HM.out N0.out HB.out).mono ?_
    rintro e w4 ⟨rfl, hb⟩
    have B := Lib.hid (below_next B.out hb)
    have K := Lib.hid (K.out.below hb)
    clear hb k0 k1
    go_wp2
    go_ret
    exact ⟨rfl, B.out⟩
  · have z0 : (E == P) = false := by simp; omega
    by_cases lt : 2 * E < P
    · have HT := Lib.hid (show false = decide (P ≤ 2 * E) by simp; omega)
      have ⟨c1, c2⟩ := l3 lt
      have t1 : decide (3 ≤ L) = true := by simp; omega
      have t2 : decide (L ≤ U + 2) = true := by simp; omega
      have g1 : IntKind.i64.wrap (U + 2) = U + 2 := IntWalk.i64_in _ (by omega)
      clear z lt l1 l2 l3 c1 c2
      go_wp2_with fail
      refine (wlong_at E P (1 + m) L _ HM.out N0.out HL.out).mono ?_
      rintro e w3 ⟨rfl, hb⟩
      have B := Lib.hid (below_next B.out hb)
      have K := Lib.hid (K.out.below hb)
      clear hb
      have k0 := K.out.cell 0
      have k1 := K.out.cell 1
      simp at k0 k1
      go_wp2_with fail
      refine (wheavy_yes E P _ HM.out false HT.out).mono ?_
      rintro e w4 ⟨rfl, hb⟩
      have B := Lib.hid (below_next B.out hb)
      have K := Lib.hid (K.out.below hb)
      clear hb k0 k1
      have k0 := K.out.cell 0
      have k1 := K.out.cell 1
      simp at k0 k1
      go_wp2
      go_ret
      exact ⟨rfl, B.out⟩
    · have HT := Lib.hid (show true = decide (P ≤ 2 * E) by simp; omega)
      have c := l2 (by omega) (by omega)
      clear z lt l1 l2 l3 fq q0 q1 nE
      rcases c with rfl | rfl
      · go_wp2_with fail
        refine (wlong_at E P (1 + m) 2 _ HM.out N0.out HL.out).mono ?_
        rintro e w3 ⟨rfl, hb⟩
        have B := Lib.hid (below_next B.out hb)
        have K := Lib.hid (K.out.below hb)
        clear hb
        have k0 := K.out.cell 0
        have k1 := K.out.cell 1
        simp at k0 k1
        go_wp2_with fail
        refine (wheavy_yes E P _ HM.out true HT.out).mono ?_
        rintro e w4 ⟨rfl, hb⟩
        have B := Lib.hid (below_next B.out hb)
        have K := Lib.hid (K.out.below hb)
        clear hb k0 k1
        go_wp2
        go_ret
        exact ⟨rfl, B.out⟩
      · go_wp2_with fail
        refine (wlong_at E P (1 + m) 3 _ HM.out N0.out HL.out).mono ?_
        rintro e w3 ⟨rfl, hb⟩
        have B := Lib.hid (below_next B.out hb)
        have K := Lib.hid (K.out.below hb)
        clear hb
        have k0 := K.out.cell 0
        have k1 := K.out.cell 1
        simp at k0 k1
        go_wp2_with fail
        refine (wheavy_yes E P _ HM.out true HT.out).mono ?_
        rintro e w4 ⟨rfl, hb⟩
        have B := Lib.hid (below_next B.out hb)
        have K := Lib.hid (K.out.below hb)
        clear hb k0 k1
        go_wp2
        go_ret
        exact ⟨rfl, B.out⟩
end Go.Proofs.Ytgfhlllddfdapaa
