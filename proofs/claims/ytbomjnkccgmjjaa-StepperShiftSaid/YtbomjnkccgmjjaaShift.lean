/-
  The walk of the law StepperShift.
-/
import Derived.Test.YtbomjnkccgmjjaaSt8
namespace Go.Proofs.Ytbomjnkccgmjjaa
open Go.RowKit

/-- what is so many slots later, is so many slots later -/
theorem ahead_later (E P k I : Int) (hM : MayBe E P) (hI : Nth I) : ∃ R D T G G', aheadV E P 0 I = subV I R D T G ∧ aheadV E P k I = subV I (R + k) (D + k) T G' ∧ ((G = 0 ∧ G' = 0) ∨ (0 < G ∧ G' = G + k)) ∧ 0 ≤ R ∧ R ≤ 2305843009213693952 ∧ 0 ≤ D ∧ D ≤ 2305843009213693952 ∧ G ≤ 4611686018427387904 := by
  obtain ⟨r0, r1⟩ := wR_fit hM hI.1 hI.2
  obtain ⟨d0, d1⟩ := wD_fit hM hI.1 hI.2
  refine ⟨wR E P I, wD E P I, wB E P I, wG E P I, if wG E P I = 0 then 0 else wG E P I + k, ?_, ?_, ?_, r0, by omega, by omega, by omega, ?_⟩
  · unfold aheadV
    rw [Int.add_zero, Int.add_zero]
    split
    · rename_i h; rw [h]
    · rw [Int.add_zero]
  · rfl
  · by_cases h : 2 * E < P
    · have := group_light (i := I) h
      left; rw [this]; simp
    · have := (group_bd (i := I) (show 0 < E by have := hM.1; omega) hM.2.1 h).1
      right
      rw [if_neg (by omega)]
      exact ⟨by omega, rfl⟩
  · by_cases h : 2 * E < P
    · rw [group_light (i := I) h]; omega
    · have := (group_bd (i := I) (show 0 < E by have := hM.1; omega) hM.2.1 h).2
      have := hM.2.2
      omega
set_option maxRecDepth 20000 in
set_option maxHeartbeats 4000000 in
theorem shift_walk (qa qb sh n : Int) (w : World) : Calls Try.prog 7 #[.agg #[.int .i64 qa, .int .i64 qb], .int .i64 sh, .int .i64 n] w fun e w' => e = .returned (.bool true) ∧ Below w.heap.size w w' := by
  obtain ⟨k, hk⟩ : ∃ k, bits .and .i64 sh 1099511627775 = k := ⟨_, rfl⟩
  have kb := mask_le sh 1099511627775 (by omega) (by omega)
  rw [hk] at kb
  obtain ⟨k0, k1⟩ := kb
  have r1 := Int.lt_tmod_of_pos n (show (0:Int) < 50 by omega)
  have r2 := Int.tmod_lt_of_pos n (show (0:Int) < 50 by omega)
  obtain ⟨r, hr⟩ : ∃ r, n.tmod 50 = r := ⟨_, rfl⟩
  rw [hr] at r1 r2
  obtain ⟨m, hm⟩ : ∃ m : Nat, (r + 50) % 50 = (m : Int) := ⟨((r + 50) % 50).toNat, by omega⟩
  have m1 : m ≤ 49 := by omega
  have Q := Lib.hid (Blk.new w 22 #[Value.int .i64 qa, Value.int .i64 qb])
  go_enter Try.func7, Try.ntmps7
  go_wp2_with fail
  refine (s5awake_any _).mono ?_
  rintro e w1 ⟨rfl, hb⟩
  have B := Lib.hid (below_next (wbox _ _) hb)
  have q0 := (Q.out.below hb).cell 0
  have q1 := (Q.out.below hb).cell 1
  simp at q0 q1
  clear hb
  go_wp2_with fail
  refine (s5made_any qa qb _).mono ?_
  rintro e w2 ⟨E, P, rfl, hM, hb⟩
  have B := Lib.hid (below_next B.out hb)
  have HM := Lib.hid hM
  clear hM hb q0 q1 Q
  have W := Lib.hid (Blk.new w2 26 #[.int .i64 E, .int .i64 P])
  go_wp2_with fail
  obtain ⟨W0, hW0⟩ : ∃ W0, w2.alloc (Obj.cells #[.int .i64 E, .int .i64 P] 26) = W0 := ⟨_, rfl⟩
  have B := Lib.hid (show Below w.heap.size w W0 by rw [← hW0]; exact below_next B.out (wbox _ _))
  rw [hW0] at W
  rw [hW0]
  clear hW0
  refine (snew_yes E P 0 _ HM.out (by decide) (by decide)).mono ?_
  rintro e w3 ⟨g, rfl, hg, hs, hb⟩
  have HG := Lib.hid (show w.heap.size ≤ g from Nat.le_trans B.out.size hg)
  have S := Lib.hid hs
  have W := Lib.hid (W.out.below hb)
  have B := Lib.hid (below_next B.out hb)
  clear hg hs hb
  have c0 := W.out.cell 0; have c1 := W.out.cell 1
  simp at c0 c1
  go_wp2_with fail
  refine (snew_yes E P 0 _ HM.out (by decide) (by decide)).mono ?_
  rintro e w4 ⟨g', rfl, hg, hs, hb⟩
  have HG' := Lib.hid (show w.heap.size ≤ g' from Nat.le_trans B.out.size hg)
  have GG := Lib.hid (show g ≠ g' from Nat.ne_of_lt (Nat.lt_of_lt_of_le S.out.lt hg))
  have S := Lib.hid (S.out.below hb)
  have S' := Lib.hid hs
  have B := Lib.hid (below_next B.out hb)
  clear hg hs hb c0 c1 W
  go_wp2_with fail
  refine (sshift_any E P 0 0 k g' _ S'.out HM.out (by decide) (by decide)).mono ?_
  rintro e w5 (⟨_, _, rfl, hs, hb⟩ | ⟨h, _, _⟩)
  case inr => omega
  rw [Int.zero_add] at hs
  have S := Lib.hid (S.out.but hb GG.out)
  have S' := Lib.hid hs
  have B := Lib.hid (hb.below B.out HG'.out B.out.size)
  clear hs hb
  go_wp2_with fail
  refine (sshift_any E P k 0 (-1) g' _ S'.out HM.out (by omega) (by omega)).mono ?_
  rintro e w6 (⟨h, _, _, _, _⟩ | ⟨_, rfl, rfl⟩)
  case inl => omega
  have HK := Lib.hid hk
  clear hk
  go_wp2
  go_loopw [12] (fun u wr => ∃ i : Nat, u = .int .i64 i ∧ i ≤ m ∧ Stp wr g E P 0 i ∧ Stp wr g' E P k i ∧ Below w.heap.size w wr) (fun u _ => m - (intOf u).toNat)
  case atStart => exact ⟨0, rfl, by omega, S.out, S'.out, B.out⟩
  case round =>
    obtain ⟨i, rfl, il, hst, hst', hbel⟩ := hrel
    have S := Lib.hid hst
    have S' := Lib.hid hst'
    have B := Lib.hid hbel
    clear hst hst' hbel
    by_cases go : i < m
    · have b1 : decide (i < m) = true := by simp; omega
      have b2 : decide ((i : Int) < (m : Int)) = true := by simp; omega
      have NI := Lib.hid (show Nth ((i : Int) + 1) from ⟨by omega, by omega⟩)
      obtain ⟨R, D, T, G, G', hV, hV', hG, R0, R1, D0, D1, G1⟩ := ahead_later E P k ((i : Int) + 1) HM.out NI.out
      have HV := Lib.hid hV; have HV' := Lib.hid hV'
      clear hV hV'
      have e1 : IntKind.i64.wrap (R + k) = R + k := IntWalk.i64_in _ (by omega)
      have e2 : IntKind.i64.wrap (D + k) = D + k := IntWalk.i64_in _ (by omega)
      have e3 : IntKind.i64.wrap (G + k) = G + k := IntWalk.i64_in _ (by omega)
      go_wp2_with fail
      refine (snext_at E P 0 i g ((i : Int) + 1) R D T G _ S.out HM.out (by omega) (by omega) (by decide) (by decide) HV.out).mono ?_
      rintro e w7 ⟨rfl, hs, hb⟩
      have S' := Lib.hid (S'.out.but hb (Ne.symm GG.out))
      have S := Lib.hid hs
      have S0' := Lib.hid S'.out.lt
      have B := Lib.hid (hb.below B.out HG.out B.out.size)
      clear hs hb
      have L := Lib.hid (Blk.new w7 35 #[.int .i64 ((i : Int) + 1), .int .i64 R, .int .i64 D, .int .i64 T, .int .i64 G])
      go_wp2_with fail
      obtain ⟨W1, hW1⟩ : ∃ W1, w7.alloc (Obj.cells #[.int .i64 ((i : Int) + 1), .int .i64 R, .int .i64 D, .int .i64 T, .int .i64 G] 35) = W1 := ⟨_, rfl⟩
      have S := Lib.hid (show Stp W1 g E P 0 ((i : Int) + 1) by rw [← hW1]; exact S.out.alloc _)
      have S' := Lib.hid (show Stp W1 g' E P k i by rw [← hW1]; exact S'.out.alloc _)
      have B := Lib.hid (show Below w.heap.size w W1 by rw [← hW1]; exact below_next B.out (wbox _ _))
      have LG := Lib.hid (show w7.heap.size ≠ g' from fun e => Nat.lt_irrefl _ (e ▸ (show g' < w7.heap.size from S0'.out)))
      rw [hW1] at L
      rw [hW1]
      clear hW1
      refine (snext_at E P k i g' ((i : Int) + 1) (R + k) (D + k) T G' _ S'.out HM.out (by omega) (by omega) (by omega) (by omega) HV'.out).mono ?_
      rintro e w8 ⟨rfl, hs, hb⟩
      have S := Lib.hid (S.out.but hb GG.out)
      have S' := Lib.hid hs
      have L := Lib.hid (L.out.but hb LG.out)
      have B := Lib.hid (hb.below B.out HG'.out B.out.size)
      clear hs hb
      have n1 : ¬ w7.heap.size = w8.heap.size := Nat.ne_of_lt L.out.lt
      have n2 : ¬ w8.heap.size = w7.heap.size := fun e => n1 e.symm
      have M := Lib.hid (Blk.new w8 35 #[.int .i64 ((i : Int) + 1), .int .i64 (R + k), .int .i64 (D + k), .int .i64 T, .int .i64 G'])
      have L := Lib.hid (L.out.alloc (Obj.cells #[.int .i64 ((i : Int) + 1), .int .i64 (R + k), .int .i64 (D + k), .int .i64 T, .int .i64 G'] 35))
      have s0 := L.out.cell 0; have s1 := L.out.cell 1; have s2 := L.out.cell 2; have s3 := L.out.cell 3; have s4 := L.out.cell 4
      have t0 := M.out.cell 0; have t1 := M.out.cell 1; have t2 := M.out.cell 2; have t3 := M.out.cell 3; have t4 := M.out.cell 4
      simp at s0 s1 s2 s3 s4 t0 t1 t2 t3 t4
      have B := Lib.hid (below_next B.out (wbox w8 (Obj.cells #[.int .i64 ((i : Int) + 1), .int .i64 (R + k), .int .i64 (D + k), .int .i64 T, .int .i64 G'] 35)))
      have S := Lib.hid (S.out.alloc (Obj.cells #[.int .i64 ((i : Int) + 1), .int .i64 (R + k), .int .i64 (D + k), .int .i64 T, .int .i64 G'] 35))
      have S' := Lib.hid (S'.out.alloc (Obj.cells #[.int .i64 ((i : Int) + 1), .int .i64 (R + k), .int .i64 (D + k), .int .i64 T, .int .i64 G'] 35))
      rcases hG with ⟨rfl, rfl⟩ | ⟨gp, rfl⟩
      · go_wp2
        go_roundw
        case rel => exact ⟨i + 1, by go_num, by omega, S.out, S'.out, B.out⟩
        case measure => simp [intOf]; omega
      · have g1 : decide (0 < G) = true := by simp; omega
        have g2 : (G == 0) = false := by simp; omega
        go_wp2
        go_roundw
        case rel => exact ⟨i + 1, by go_num, by omega, S.out, S'.out, B.out⟩
        case measure => simp [intOf]; omega
    · have b1 : decide (i < m) = false := by simp; omega
      have b2 : decide ((i : Int) < (m : Int)) = false := by simp; omega
      go_wp2
      go_ret
      exact ⟨rfl, B.out⟩
end Go.Proofs.Ytbomjnkccgmjjaa
