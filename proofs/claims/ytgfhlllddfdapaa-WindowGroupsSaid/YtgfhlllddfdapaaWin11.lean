/-
  The walk of the law WindowGroups.
-/
import Derived.Test.YtgfhlllddfdapaaWin7
namespace Go.Proofs.Ytgfhlllddfdapaa
open Go.RowKit

set_option maxHeartbeats 4000000 in
theorem groups_walk (qa qb n : Int) (w : World) : Calls Try.prog 6 #[.agg #[.int .i64 qa, .int .i64 qb], .int .i64 n] w fun e w' => e = .returned (.bool true) ∧ Below w.heap.size w w' := by
  obtain ⟨m, hm⟩ : ∃ m, bits .and .i64 n 549755813887 = m := ⟨_, rfl⟩
  have mb := mask_le n 549755813887 (by omega) (by omega)
  rw [hm] at mb
  obtain ⟨m0, m1⟩ := mb
  have Q := Lib.hid (Blk.new w 22 #[Value.int .i64 qa, Value.int .i64 qb])
  go_enter Try.func6, Try.ntmps6
  go_wp2_with fail
  refine (wawake_any _).mono ?_
  rintro e w1 ⟨rfl, hb⟩
  have B := Lib.hid (below_next (wbox _ _) hb)
  have q0 := (Q.out.below hb).cell 0
  have q1 := (Q.out.below hb).cell 1
  simp at q0 q1
  clear hb
  go_wp2_with fail
  refine (wmade_any qa qb _).mono ?_
  rintro e w2 ⟨E, P, rfl, hM, hb⟩
  have B := Lib.hid (below_next (below_next B.out hb) (wbox _ (Obj.cells #[Value.int .i64 E, Value.int .i64 P] 25)))
  have HM := Lib.hid hM
  have N9 := Lib.hid ex_nth1
  have E0 : 0 < E := hM.1
  have EP : E ≤ P := hM.2.1
  have P9 : P ≤ 1048576 := hM.2.2
  have P0 : 0 < P := Int.lt_of_lt_of_le hM.1 hM.2.1
  have K := Lib.hid (Blk.new w2 25 #[Value.int .i64 E, Value.int .i64 P])
  clear hb q0 q1 Q
  have N0 := Lib.hid (show Nth (1 + m) from ⟨by omega, by omega⟩)
  have N1 := Lib.hid (show Nth (1 + m + 1) from ⟨by omega, by omega⟩)
  have d0 := wD_fit hM N0.out.1 N0.out.2
  have gm := group_mono (i := 1 + m) E0 EP
  have gb : ¬ 2 * E < P → wD E P (1 + m) ≤ wG E P (1 + m) ∧ wG E P (1 + m) - wD E P (1 + m) ≤ P := fun h => group_bd (i := 1 + m) E0 EP h
  have gl : 2 * E < P → wG E P (1 + m) = 0 := fun h => group_light h
  have go : E = P → wG E P (1 + m) = wD E P (1 + m) := fun h => by subst h; exact group_one E0
  obtain ⟨G, hG⟩ : ∃ v, wG E P (1 + m) = v := ⟨_, rfl⟩
  obtain ⟨G1, hG1⟩ : ∃ v, wG E P (1 + m + 1) = v := ⟨_, rfl⟩
  obtain ⟨D, hD⟩ : ∃ v, wD E P (1 + m) = v := ⟨_, rfl⟩
  rw [hG] at gm gb gl go
  rw [hD] at gb go d0
  rw [hG1] at gm
  have HG := Lib.hid hG; have HG1 := Lib.hid hG1; have HD := Lib.hid hD
  have GO := Lib.hid go
  clear hG hG1 hD hM go
  by_cases lt : 2 * E < P
  · have HT := Lib.hid (show false = decide (P ≤ 2 * E) by simp; omega)
    obtain rfl : G = 0 := gl lt
    clear lt gb gl gm d0 GO
    go_wp2_with fail
    refine (wgroup_at E P (1 + m) 0 _ HM.out N0.out HG.out).mono ?_
    rintro e w3 ⟨rfl, hb⟩
    have B := Lib.hid (below_next B.out hb)
    have K := Lib.hid (K.out.below hb)
    clear hb
    have k0 := K.out.cell 0
    have k1 := K.out.cell 1
    simp at k0 k1
    go_wp2_with fail
    refine (wheavy_yes E P _ HM.out false HT.out).mono ?_
    rintro e w4 ⟨rfl, hb⟩
    have B := Lib.hid (below_next B.out hb)
    have K := Lib.hid (K.out.below hb)
    clear hb k0 k1
    go_wp2
    go_ret
    exact ⟨rfl, B.out⟩
  · have HT := Lib.hid (show true = decide (P ≤ 2 * E) by simp; omega)
    have ⟨b1, b2⟩ := gb lt
    have g1 : IntKind.i64.wrap (G - D) = G - D := IntWalk.i64_in _ (by omega)
    have t1 : decide (D ≤ G) = true := by simp; omega
    have t2 : decide (G - D ≤ P) = true := by simp; omega
    have t3 : decide (G ≤ G1) = true := by simp; omega
    clear lt gb gl gm b1 b2
    by_cases z : E = P
    · obtain rfl : G = D := GO.out z
      have z0 : (E != P) = false := by simp; omega
      clear z GO
      go_wp2_with fail
      refine (wgroup_at E P (1 + m) G _ HM.out N0.out HG.out).mono ?_
      rintro e w3 ⟨rfl, hb⟩
      have B := Lib.hid (below_next B.out hb)
      have K := Lib.hid (K.out.below hb)
      clear hb
      have k0 := K.out.cell 0
      have k1 := K.out.cell 1
      simp at k0 k1
      go_wp2_with fail
      refine (wheavy_yes E P _ HM.out true HT.out).mono ?_
      rintro e w4 ⟨rfl, hb⟩
      have B := Lib.hid (below_next B.out hb)
      have K := Lib.hid (K.out.below hb)
      clear hb k0 k1
      have k0 := K.out.cell 0
      have k1 := K.out.cell 1
      simp at k0 k1
      go_wp2_with fail
      refine (wdeadline_at E P (1 + m) G _ HM.out N0.out HD.out).mono ?_
      rintro e w5 ⟨rfl, hb⟩
      have B := Lib.hid (below_next B.out hb)
      have K := Lib.hid (K.out.below hb)
      clear hb k0 k1
      have k0 := K.out.cell 0
      have k1 := K.out.cell 1
      simp at k0 k1
      go_wp2_with fail
      refine (wgroup_at E P (1 + m + 1) G1 _ HM.out N1.out HG1.out).mono ?_
      rintro e w6 ⟨rfl, hb⟩
      have B := Lib.hid (below_next B.out hb)
      have K := Lib.hid (K.out.below hb)
      clear hb k0 k1
      have k0 := K.out.cell 0
      have k1 := K.out.cell 1
      simp at k0 k1
      go_wp2
      go_ret
      exact ⟨rfl, B.out⟩
    · have z0 : (E != P) = true := by simp; omega
      clear z GO
      go_wp2_with fail
      refine (wgroup_at E P (1 + m) G _ HM.out N0.out HG.out).mono ?_
      rintro e w3 ⟨rfl, hb⟩
      have B := Lib.hid (below_next B.out hb)
      have K := Lib.hid (K.out.below hb)
      clear hb
      have k0 := K.out.cell 0
      have k1 := K.out.cell 1
      simp at k0 k1
      go_wp2_with fail
      refine (wheavy_yes E P _ HM.out true HT.out).mono ?_
      rintro e w4 ⟨rfl, hb⟩
      have B := Lib.hid (below_next B.out hb)
      have K := Lib.hid (K.out.below hb)
      clear hb k0 k1
      have k0 := K.out.cell 0
      have k1 := K.out.cell 1
      simp at k0 k1
      go_wp2_with fail
      refine (wdeadline_at E P (1 + m) D _ HM.out N0.out HD.out).mono ?_
      rintro e w5 ⟨rfl, hb⟩
      have B := Lib.hid (below_next B.out hb)
      have K := Lib.hid (K.out.below hb)
      clear hb k0 k1
      have k0 := K.out.cell 0
      have k1 := K.out.cell 1
      simp at k0 k1
      go_wp2_with fail
      refine (wgroup_at E P (1 + m + 1) G1 _ HM.out N1.out HG1.out).mono ?_
      rintro e w6 ⟨rfl, hb⟩
      have B := Lib.hid (below_next B.out hb)
      have K := Lib.hid (K.out.below hb)
      clear hb k0 k1
      have k0 := K.out.cell 0
      have k1 := K.out.cell 1
      simp at k0 k1
      go_wp2
      go_ret
      exact ⟨rfl, B.out⟩
end Go.Proofs.Ytgfhlllddfdapaa
