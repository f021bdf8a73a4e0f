/-
  The walk of the law WindowLag.
-/
import Derived.Test.YtgfhlllddfdapaaWin7
namespace Go.Proofs.Ytgfhlllddfdapaa
open Go.RowKit

set_option maxHeartbeats 4000000 in
theorem lag_walk (qa qb n : Int) (w : World) : Calls Try.prog 5 #[.agg #[.int .i64 qa, .int .i64 qb], .int .i64 n] w fun e w' => e = .returned (.bool true) ∧ Below w.heap.size w w' := by
  obtain ⟨m, hm⟩ : ∃ m, bits .and .i64 n 1048575 = m := ⟨_, rfl⟩
  have mb := mask_le n 1048575 (by omega) (by omega)
  rw [hm] at mb
  obtain ⟨m0, m1⟩ := mb
  have Q := Lib.hid (Blk.new w 22 #[Value.int .i64 qa, Value.int .i64 qb])
  go_enter Try.func5, Try.ntmps5
  go_wp2_with fail
  refine (wawake_any _).mono ?_
  rintro e w1 ⟨rfl, hb⟩
  have B := Lib.hid (below_next (wbox _ _) hb)
  have q0 := (Q.out.below hb).cell 0
  have q1 := (Q.out.below hb).cell 1
  simp at q0 q1
  clear hb
  go_wp2_with fail
  refine (wmade_any qa qb _).mono ?_
  rintro e w2 ⟨E, P, rfl, hM, hb⟩
  have B := Lib.hid (below_next (below_next B.out hb) (wbox _ (Obj.cells #[Value.int .i64 E, Value.int .i64 P] 25)))
  have HM := Lib.hid hM
  have N9 := Lib.hid ex_nth1
  have E0 : 0 < E := hM.1
  have EP : E ≤ P := hM.2.1
  have P9 : P ≤ 1048576 := hM.2.2
  have P0 : 0 < P := Int.lt_of_lt_of_le hM.1 hM.2.1
  have K := Lib.hid (Blk.new w2 25 #[Value.int .i64 E, Value.int .i64 P])
  clear hb q0 q1 Q
  have mE := mul_bd m0 m1 (show 0 ≤ E by omega) (show E ≤ 1048576 by omega)
  have fq : (m * E).tdiv P = m * E / P := Int.tdiv_eq_ediv_of_nonneg mE.1
  have fa := lag_all (at_ := m) E0 P0
  have v1 : m * E / P ≤ m := by
    have h : m * E ≤ m * P := Int.mul_le_mul_of_nonneg_left EP m0
    have : m * E / P < m + 1 := Int.ediv_lt_of_lt_mul P0 (by rw [Int.add_mul]; omega)
    omega
  have v0 : 0 ≤ m * E / P := Int.ediv_nonneg mE.1 (by omega)
  have g1 : IntKind.i64.wrap (m * E) = m * E := IntWalk.i64_in _ (by omega)
  obtain ⟨V, hV⟩ : ∃ V, m * E / P = V := ⟨_, rfl⟩
  rw [hV] at fa v1 v0 fq
  obtain ⟨a1, a2, a3, a4⟩ := fa
  have A1 := Lib.hid a1
  have N1 := Lib.hid (show Nth (V + 1) from ⟨by omega, by omega⟩)
  have N2 := Lib.hid (show Nth (V + 2) from ⟨by omega, by omega⟩)
  obtain ⟨D1, hD1⟩ : ∃ v, wD E P (V + 1) = v := ⟨_, rfl⟩
  obtain ⟨R1, hR1⟩ : ∃ v, wR E P (V + 1) = v := ⟨_, rfl⟩
  obtain ⟨R2, hR2⟩ : ∃ v, wR E P (V + 2) = v := ⟨_, rfl⟩
  rw [hD1] at a2
  rw [hR1] at a3
  rw [hR2] at a4
  have HD1 := Lib.hid hD1; have HR1 := Lib.hid hR1; have HR2 := Lib.hid hR2
  have t1 : decide (m < D1) = true := by simp; omega
  have t2 : decide (R1 ≤ m) = true := by simp; omega
  have t3 : decide (m ≤ R2) = true := by simp; omega
  have nP : ¬ P = 0 := by omega
  clear hD1 hR1 hR2 a1 a2 a3 a4 hV mE hM
  by_cases z : V = 0
  · have t0 : decide (0 < V) = false := by simp; omega
    clear z A1
    go_wp2_with fail
    refine (wdeadline_at E P (V + 1) D1 _ HM.out N1.out HD1.out).mono ?_
    rintro e w3 ⟨rfl, hb⟩
    have B := Lib.hid (below_next B.out hb)
    have K := Lib.hid (K.out.below hb)
    clear hb
    have k0 := K.out.cell 0
    have k1 := K.out.cell 1
    simp at k0 k1
    go_wp2_with fail
    refine (wrelease_at E P (V + 1) R1 _ HM.out N1.out HR1.out).mono ?_
    rintro e w4 ⟨rfl, hb⟩
    have B := Lib.hid (below_next B.out hb)
    have K := Lib.hid (K.out.below hb)
    clear hb k0 k1
    have k0 := K.out.cell 0
    have k1 := K.out.cell 1
    simp at k0 k1
    go_wp2_with fail
    refine (wrelease_at E P (V + 2) R2 _ HM.out N2.out HR2.out).mono ?_
    rintro e w5 ⟨rfl, hb⟩
    have B := Lib.hid (below_next B.out hb)
    have K := Lib.hid (K.out.below hb)
    clear hb k0 k1
    go_wp2
    go_ret
    exact ⟨rfl, B.out⟩
  · have t0 : decide (0 < V) = true := by simp; omega
    have N0 := Lib.hid (show Nth V from ⟨by omega, by omega⟩)
    obtain ⟨D, hD⟩ : ∃ v, wD E P V = v := ⟨_, rfl⟩
    have HD := Lib.hid hD
    have t4 : decide (m < D) = false := by simp; have := A1.out; omega
    clear z A1 hD
    go_wp2_with fail
    refine (wdeadline_at E P V D _ HM.out N0.out HD.out).mono ?_
    rintro e w3 ⟨rfl, hb⟩
    have B := Lib.hid (below_next B.out hb)
    have K := Lib.hid (K.out.below hb)
    clear hb
    have k0 := K.out.cell 0
    have k1 := K.out.cell 1
    simp at k0 k1
    go_wp2_with fail
    refine (wdeadline_at E P (V + 1) D1 _ HM.out N1.out HD1.out).mono ?_
    rintro e w4 ⟨rfl, hb⟩
    have B := Lib.hid (below_next B.out hb)
    have K := Lib.hid (K.out.below hb)
    clear hb k0 k1
    have k0 := K.out.cell 0
    have k1 := K.out.cell 1
    simp at k0 k1
    go_wp2_with fail
    refine (wrelease_at E P (V + 1) R1 _ HM.out N1.out HR1.out).mono ?_
    rintro e w5 ⟨rfl, hb⟩
    have B := Lib.hid (below_next B.out hb)
    have K := Lib.hid (K.out.below hb)
    clear hb k0 k1
    have k0 := K.out.cell 0
    have k1 := K.out.cell 1
    simp at k0 k1
    go_wp2_with fail
    refine (wrelease_at E P (V + 2) R2 _ HM.out N2.out HR2.out).mono ?_
    rintro e w6 ⟨rfl, hb⟩
    have B := Lib.hid (below_next B.out hb)
    have K := Lib.hid (K.out.below hb)
    clear hb k0 k1
    go_wp2
    go_ret
    exact ⟨rfl, B.out⟩
end Go.Proofs.Ytgfhlllddfdapaa
