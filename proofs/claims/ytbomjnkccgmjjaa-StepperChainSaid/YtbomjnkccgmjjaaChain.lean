/-
  The walk of the law StepperChain.
-/
import Derived.Test.YtbomjnkccgmjjaaSt8
namespace Go.Proofs.Ytbomjnkccgmjjaa
open Go.RowKit

theorem Stp.other5 {W : World} {g h : Nat} {E P O n : Int} {u v x y z : Value} (k : Stp W g E P O n) (hne : g ≠ h) :
    Stp (((((W.setCell ⟨h, 0, none⟩ u).setCell ⟨h, 1, none⟩ v).setCell ⟨h, 2, none⟩ x).setCell ⟨h, 3, none⟩ y).setCell ⟨h, 4, none⟩ z) g E P O n := by
  obtain ⟨_, _, _, _, _, k, q⟩ := k
  exact ⟨_, _, _, _, _, k.other5 hne, q⟩
/-- subtasks follow one another -/
theorem chain_step (E P O I : Int) (hM : MayBe E P) (hI : Nth I) (O0 : 0 ≤ O) (O1 : O ≤ 2305843009213693952) (R D T G : Int) (h : aheadV E P O I = subV I R D T G) : ∃ D' T' G', aheadV E P O (I + 1) = subV (I + 1) (D - T) D' T' G' ∧ D < D' ∧ G ≤ G' ∧ (G' = 0 ∨ (0 < G' ∧ D' ≤ G')) ∧ 0 ≤ D ∧ D ≤ 4611686018427387904 ∧ 0 ≤ T ∧ T ≤ 1 := by
  have E0 : 0 < E := by have := hM.1; omega
  obtain ⟨d0, d1⟩ := wD_fit hM hI.1 hI.2
  have b := wB_bd E P I
  have f1 := next_release (P := P) (i := I) E0
  have f2 := next_later (i := I) E0 hM.2.1
  have f3 := group_mono (i := I) E0 hM.2.1
  unfold aheadV subV at h
  simp at h
  obtain ⟨h1, h2, h3, h4⟩ := h
  refine ⟨wD E P (I + 1) + O, wB E P (I + 1), if wG E P (I + 1) = 0 then 0 else wG E P (I + 1) + O, ?_, by omega, ?_, ?_, by omega, by omega, by omega, by omega⟩
  · unfold aheadV
    rw [show wR E P (I + 1) + O = D - T by omega]
  · by_cases q : 2 * E < P
    · rw [group_light (i := I) q] at h4
      rw [group_light (i := I + 1) q]
      simp at h4 ⊢
      omega
    · have g1 := (group_bd (i := I) E0 hM.2.1 q).1
      rw [if_neg (by omega)] at h4 ⊢
      omega
  · by_cases q : 2 * E < P
    · left
      rw [group_light (i := I + 1) q]; simp
    · have g1 := (group_bd (i := I + 1) E0 hM.2.1 q).1
      right
      rw [if_neg (by omega)]
      omega
theorem chain_first (E P O : Int) : ∃ D T G, aheadV E P O (0 + 1) = subV (0 + 1) O D T G := by
  refine ⟨wD E P (0 + 1) + O, wB E P (0 + 1), if wG E P (0 + 1) = 0 then 0 else wG E P (0 + 1) + O, ?_⟩
  unfold aheadV
  rw [show wR E P (0 + 1) = 0 from first_release E P, show (0:Int) + O = O from Int.zero_add O]
set_option maxRecDepth 20000 in
set_option maxHeartbeats 4000000 in
theorem chain_walk (qa qb off n : Int) (w : World) : Calls Try.prog 5 #[.agg #[.int .i64 qa, .int .i64 qb], .int .i64 off, .int .i64 n] w fun e w' => e = .returned (.bool true) ∧ Below w.heap.size w w' := by
  obtain ⟨k, hk⟩ : ∃ k, bits .and .i64 off 1099511627775 = k := ⟨_, rfl⟩
  have kb := mask_le off 1099511627775 (by omega) (by omega)
  rw [hk] at kb
  obtain ⟨k0, k1⟩ := kb
  have r1 := Int.lt_tmod_of_pos n (show (0:Int) < 200 by omega)
  have r2 := Int.tmod_lt_of_pos n (show (0:Int) < 200 by omega)
  obtain ⟨r, hr⟩ : ∃ r, n.tmod 200 = r := ⟨_, rfl⟩
  rw [hr] at r1 r2
  obtain ⟨m, hm⟩ : ∃ m : Nat, (r + 200) % 200 = (m : Int) := ⟨((r + 200) % 200).toNat, by omega⟩
  have m1 : m ≤ 199 := by omega
  have Q := Lib.hid (Blk.new w 22 #[Value.int .i64 qa, Value.int .i64 qb])
  go_enter Try.func5, Try.ntmps5
  go_wp2_with fail
  refine (s5awake_any _).mono ?_
  rintro e w1 ⟨rfl, hb⟩
  have B := Lib.hid (below_next (wbox _ _) hb)
  have q0 := (Q.out.below hb).cell 0
  have q1 := (Q.out.below hb).cell 1
  simp at q0 q1
  clear hb
  go_wp2_with fail
  refine (s5made_any qa qb _).mono ?_
  rintro e w2 ⟨E, P, rfl, hM, hb⟩
  have B := Lib.hid (below_next B.out hb)
  have HM := Lib.hid hM
  clear hM hb q0 q1 Q
  have W := Lib.hid (Blk.new w2 26 #[.int .i64 E, .int .i64 P])
  go_wp2_with fail
  obtain ⟨W0, hW0⟩ : ∃ W0, w2.alloc (Obj.cells #[.int .i64 E, .int .i64 P] 26) = W0 := ⟨_, rfl⟩
  have B := Lib.hid (show Below w.heap.size w W0 by rw [← hW0]; exact below_next B.out (wbox _ _))
  rw [hW0] at W
  rw [hW0]
  clear hW0
  refine (snew_yes E P k _ HM.out k0 (by omega)).mono ?_
  rintro e w3 ⟨g, rfl, hg, hs, hb⟩
  have HG := Lib.hid (show w.heap.size ≤ g from Nat.le_trans B.out.size hg)
  have S := Lib.hid hs
  have B := Lib.hid (below_next B.out hb)
  have B0 := Lib.hid B.out
  clear hg hs hb W
  obtain ⟨D, T, G, hV⟩ := chain_first E P k
  have HV := Lib.hid hV
  clear hV
  go_wp2_with fail
  refine (snext_at E P k 0 g (0 + 1) k D T G _ S.out HM.out (by omega) (by omega) k0 (by omega) HV.out).mono ?_
  rintro e w4 ⟨rfl, hs, hb⟩
  have S := Lib.hid (hs.alloc (Obj.cells #[.int .i64 (0 + 1), .int .i64 k, .int .i64 D, .int .i64 T, .int .i64 G] 35))
  have B := Lib.hid (below_next (hb.below B.out HG.out B.out.size) (wbox w4 (Obj.cells #[.int .i64 (0 + 1), .int .i64 k, .int .i64 D, .int .i64 T, .int .i64 G] 35)))
  have L := Lib.hid (Blk.new w4 35 #[.int .i64 (0 + 1), .int .i64 k, .int .i64 D, .int .i64 T, .int .i64 G])
  have LG := Lib.hid (show w4.heap.size ≠ g from fun e => Nat.lt_irrefl _ (e ▸ hs.lt))
  have LW := Lib.hid (show w.heap.size ≤ w4.heap.size from (hb.below B0.out HG.out B0.out.size).size)
  clear hs hb
  have HK := Lib.hid hk
  clear hk
  go_wp2
  go_loopw [12] (fun u wr => ∃ (i : Nat) (R D T G : Int), u = .int .i64 i ∧ i ≤ m ∧ aheadV E P k ((i : Int) + 1) = subV ((i : Int) + 1) R D T G ∧ Stp wr g E P k ((i : Int) + 1) ∧ Blk wr 35 w4.heap.size #[.int .i64 ((i : Int) + 1), .int .i64 R, .int .i64 D, .int .i64 T, .int .i64 G] ∧ Below w.heap.size w wr) (fun u _ => m - (intOf u).toNat)
  case atStart => exact ⟨0, k, D, T, G, rfl, by omega, HV.out, S.out, L.out, B.out⟩
  case round =>
    clear S L B HV
    obtain ⟨i, R, D, T, G, rfl, il, hv, hst, hl, hbel⟩ := hrel
    have S := Lib.hid hst
    have L := Lib.hid hl
    have B := Lib.hid hbel
    have HV := Lib.hid hv
    clear hst hl hbel hv
    by_cases go : i < m
    · have b1 : decide (i < m) = true := by simp; omega
      have b2 : decide ((i : Int) < (m : Int)) = true := by simp; omega
      have NI := Lib.hid (show Nth ((i : Int) + 1) from ⟨by omega, by omega⟩)
      obtain ⟨D', T', G', hV', dd, gg, g0, D0, D1, T0, T1⟩ := chain_step E P k ((i : Int) + 1) HM.out NI.out k0 (by omega) R D T G HV.out
      have HV' := Lib.hid hV'
      clear hV'
      have e1 : IntKind.i64.wrap (D - T) = D - T := IntWalk.i64_in _ (by omega)
      have e2 : decide (D' ≤ D) = false := by simp; omega
      have e3 : decide (G' < G) = false := by simp; omega
      clear dd gg
      go_wp2_with fail
      refine (snext_at E P k ((i : Int) + 1) g ((i : Int) + 1 + 1) (D - T) D' T' G' _ S.out HM.out (by omega) (by omega) k0 (by omega) HV'.out).mono ?_
      rintro e w7 ⟨rfl, hs, hb⟩
      have L := Lib.hid (L.out.but hb LG.out)
      have B := Lib.hid (hb.below B.out HG.out B.out.size)
      have S := Lib.hid (hs.alloc (Obj.cells #[.int .i64 ((i : Int) + 1 + 1), .int .i64 (D - T), .int .i64 D', .int .i64 T', .int .i64 G'] 35))
      clear hs hb
      have n1 : ¬ w4.heap.size = w7.heap.size := Nat.ne_of_lt L.out.lt
      have n2 : ¬ w7.heap.size = w4.heap.size := fun e => n1 e.symm
      have M := Lib.hid (Blk.new w7 35 #[.int .i64 ((i : Int) + 1 + 1), .int .i64 (D - T), .int .i64 D', .int .i64 T', .int .i64 G'])
      have L := Lib.hid (L.out.alloc (Obj.cells #[.int .i64 ((i : Int) + 1 + 1), .int .i64 (D - T), .int .i64 D', .int .i64 T', .int .i64 G'] 35))
      have s0 := L.out.cell 0; have s1 := L.out.cell 1; have s2 := L.out.cell 2; have s3 := L.out.cell 3; have s4 := L.out.cell 4
      have f0 := L.out.free 0; have f1 := L.out.free 1; have f2 := L.out.free 2; have f3 := L.out.free 3; have f4 := L.out.free 4
      have t0 := M.out.cell 0; have t1 := M.out.cell 1; have t2 := M.out.cell 2; have t3 := M.out.cell 3; have t4 := M.out.cell 4
      simp at s0 s1 s2 s3 s4 t0 t1 t2 t3 t4
      have B := Lib.hid (below_next B.out (wbox w7 (Obj.cells #[.int .i64 ((i : Int) + 1 + 1), .int .i64 (D - T), .int .i64 D', .int .i64 T', .int .i64 G'] 35)))
      have LX := Lib.hid (show g ≠ w4.heap.size from Ne.symm LG.out)
      rcases g0 with rfl | ⟨gp, gd⟩
      · go_wp2
        go_roundw
        case rel => exact ⟨i + 1, D - T, D', T', 0, by go_num, by omega, HV'.out, S.out.other5 LX.out, L.out.set5, below_set5 B.out LW.out⟩
        case measure => simp [intOf]; omega
      · have g1 : decide (0 < G') = true := by simp; omega
        have g2 : decide (G' < D') = false := by simp; omega
        clear gp gd
        go_wp2
        go_roundw
        case rel => exact ⟨i + 1, D - T, D', T', G', by go_num, by omega, HV'.out, S.out.other5 LX.out, L.out.set5, below_set5 B.out LW.out⟩
        case measure => simp [intOf]; omega
    · have b1 : decide (i < m) = false := by simp; omega
      have b2 : decide ((i : Int) < (m : Int)) = false := by simp; omega
      go_wp2
      go_ret
      exact ⟨rfl, B.out⟩
end Go.Proofs.Ytbomjnkccgmjjaa
