/-
  What package stepper's Next and Peek give back: contracts.
-/
import Derived.Test.YthaoijmjkmgebaaSt5
import Derived.Deep.RegionWith
namespace Go.Proofs.Ythaoijmjkmgebaa
open Go.RowKit

/-- the groups' counter: it reaches the next window's deadline -/
theorem greach_any (E P n slot ga gr gs gm gb : Int) (w : World) (hM : MayBe E P) (n0 : 0 ≤ n) (n1 : n < 1099511627776) (hg : GrIs E P n ga gr gs gm gb) (hs : slot = wD E P (n + 1)) :
    Calls Try.prog 52 #[.agg #[.int .i64 ga, .int .i64 gr, .int .i64 gs, .int .i64 gm, .int .i64 gb], .int .i64 slot] w
      fun e w' => ∃ ha hr hs hm hb, e = .returned (.agg #[.int .i64 ha, .int .i64 hr, .int .i64 hs, .int .i64 hm, .int .i64 hb]) ∧ GrIs E P (n + 1) ha hr hs hm hb ∧ Below w.heap.size w w' := by
  rcases hg with ⟨h, rfl, rfl, rfl, rfl, rfl⟩ | ⟨h, rfl, rfl, rfl, rfl, rfl⟩
  · exact (creach_none slot w).mono fun e w' ⟨h1, h2⟩ => ⟨_, _, _, _, _, h1, .inl ⟨h, rfl, rfl, rfl, rfl, rfl⟩, h2⟩
  · have gb := gB_pos hM
    have kf := gK_fit hM h (show 0 ≤ n + 1 by omega) (by omega)
    have kf0 := gK_fit hM h n0 (by omega)
    have G : Goal P (gB E P) (gK E P (n + 1)) slot := ⟨by have := hM.1; have := hM.2.1; omega, hM.2.2, gb.1, gb.2, kf.1, kf.2, by rw [gK_group hM h, hs]; exact (group_bd (by have := hM.1; omega) hM.2.1 h).1, fun j hj => gK_least hM h (by rw [← hs]; exact hj)⟩
    exact (creach_any P (gB E P) (gK E P n) (gK E P (n + 1)) slot w G kf0.1 (gK_mono hM h)).mono fun e w' ⟨h1, h2⟩ => ⟨_, _, _, _, _, h1, .inr ⟨h, rfl, rfl, rfl, rfl, rfl⟩, h2⟩
/-- what the groups' counter tells -/
theorem gtells {E P n O ga gr gs gm gb : Int} (hM : MayBe E P) (n0 : 1 ≤ n) (n1 : n ≤ 1099511627776) (hg : GrIs E P n ga gr gs gm gb) (gt : Int) (hgt : gt = if 0 < gr then 1 else 0) (G' : Int) (hG' : G' = if wG E P n = 0 then 0 else wG E P n + O) :
    (0 ≤ ga ∧ ga ≤ 2305843009213693952) ∧ ((ga = 0 ∧ gr = 0 ∧ gs = 0 ∧ gm = 0 ∧ gb = 0 ∧ G' = 0) ∨ (0 < gb ∧ G' = ga + gt + O)) := by
  rcases hg with ⟨h, rfl, rfl, rfl, rfl, rfl⟩ | ⟨h, rfl, rfl, rfl, rfl, rfl⟩
  · exact ⟨by omega, .inl ⟨rfl, rfl, rfl, rfl, rfl, by rw [hG', group_light h, if_pos rfl]⟩⟩
  · have b := gB_pos hM
    have kf := gK_fit hM h (show 0 ≤ n by omega) n1
    have f := ctr_fit b.1 (show 0 ≤ P by have := hM.1; have := hM.2.1; omega) hM.2.2 kf.1 (Int.le_refl _) kf.2
    refine ⟨⟨f.1, f.2.1⟩, .inr ⟨b.1, ?_⟩⟩
    have u := ctr_up (A := P) (k := gK E P n) b.1
    rw [gK_group hM h] at u
    have d := (group_bd (i := n) (show 0 < E by have := hM.1; omega) hM.2.1 h).1
    have dp := (wD_fit hM n0 n1).1
    rw [hG', if_neg (by omega), hgt, u]

/-- behind the region that has the groups' counter go on -/
def NxBox (w : World) (g : Nat) (E P O n a r s m : Int) (wx : World) : Prop :=
  ∃ ga gr gs gm gb, Blk wx 74 g (spC a r s m E ga gr gs gm gb n O) ∧ GrIs E P n ga gr gs gm gb ∧ Blk wx 35 w.heap.size #[.int .i64 0, .int .i64 0, .int .i64 0, .int .i64 0, .int .i64 0] ∧ But g w wx
theorem nxbox_mk {w W : World} {g : Nat} {E P O n a r s m ga gr gs gm gb ha hr hs hm hb : Int} (hK : Blk W 74 g (spC a r s m E ga gr gs gm gb n O)) (hG : GrIs E P n ha hr hs hm hb) (hL : Blk W 35 w.heap.size #[.int .i64 0, .int .i64 0, .int .i64 0, .int .i64 0, .int .i64 0]) (hB : But g w W) (hne : ¬ w.heap.size = g) :
    NxBox w g E P O n a r s m (((((W.setCell ⟨g, 5, none⟩ (.int .i64 ha)).setCell ⟨g, 6, none⟩ (.int .i64 hr)).setCell ⟨g, 7, none⟩ (.int .i64 hs)).setCell ⟨g, 8, none⟩ (.int .i64 hm)).setCell ⟨g, 9, none⟩ (.int .i64 hb)) :=
  ⟨ha, hr, hs, hm, hb, hK.spGrp _ _ _ _ _, hG, ((((hL.other _ _ hne).other _ _ hne).other _ _ hne).other _ _ hne).other _ _ hne, ((((hB.set _ _).set _ _).set _ _).set _ _).set _ _⟩
set_option maxHeartbeats 4000000 in
theorem snext_any (E P O n : Int) (g : Nat) (w : World) (h : Stp w g E P O n) (hM : MayBe E P) (n0 : 0 ≤ n) (n1 : n < 1099511627776) (O0 : 0 ≤ O) (O1 : O ≤ 2305843009213693952) :
    Calls Try.prog 45 #[.pointer (some ⟨g, 0, none⟩)] w fun e w' => e = .returned (aheadV E P O (n + 1)) ∧ Stp w' g E P O (n + 1) ∧ But g w w' := by
  have e0 : 0 < E := by have := hM.1; omega
  have e1 : E ≤ 1048576 := by have := hM.2; omega
  have HM := Lib.hid hM
  have F := ctr_fit e0 (show 0 ≤ P by have := hM.1; have := hM.2.1; omega) hM.2.2 n0 (Int.le_refl n) (by omega)
  have F' := ctr_fit (k := n + 1) e0 (show 0 ≤ P by have := hM.1; have := hM.2.1; omega) hM.2.2 (by omega) (Int.le_refl _) (by omega)
  have St := ctr_step (A := P) (k := n) e0
  have Up := ctr_up (A := P) (k := n + 1) e0
  have RR : wR E P (n + 1) = n * P / E := by unfold wR; rw [Int.add_sub_cancel]
  have BI : wB E P (n + 1) = if 0 < (n + 1) * P % E then 1 else 0 := by
    unfold wB
    have := F'.2.2.1
    by_cases q : (n + 1) * P % E = 0
    · rw [if_pos q, if_neg (by omega)]
    · rw [if_neg q, if_pos (by omega)]
  clear hM
  obtain ⟨ga, gr, gs, gm, gb, hB, hG⟩ := h
  unfold Stp
  obtain ⟨a, ha⟩ : ∃ a, n * P / E = a := ⟨_, rfl⟩
  obtain ⟨r, hr⟩ : ∃ a, n * P % E = a := ⟨_, rfl⟩
  obtain ⟨s, hs⟩ : ∃ a, P / E = a := ⟨_, rfl⟩
  obtain ⟨m, hm⟩ : ∃ a, P % E = a := ⟨_, rfl⟩
  obtain ⟨a', ha'⟩ : ∃ a, (n + 1) * P / E = a := ⟨_, rfl⟩
  obtain ⟨r', hr'⟩ : ∃ a, (n + 1) * P % E = a := ⟨_, rfl⟩
  obtain ⟨t, ht⟩ : ∃ t : Int, t = if 0 < r' then 1 else 0 := ⟨_, rfl⟩
  rw [ha, hr, hs, hm] at hB F
  rw [ha, hr, hs, hm, ha', hr'] at St
  rw [ha', hr', hs, hm] at F'
  rw [hr', ← ht] at BI
  rw [ha', hr', ← ht] at Up
  rw [ha] at RR
  rw [ha', hr', hs, hm]
  obtain ⟨a0, a1, r0, r1, s0, s1, m0, m1⟩ := F
  obtain ⟨b0, b1, _, _, _, _, _, _⟩ := F'
  have HT := Lib.hid ht; have HS := Lib.hid St; have HU := Lib.hid Up; have HRR := Lib.hid RR; have HBI := Lib.hid BI; have HG := Lib.hid hG
  clear St Up RR BI ha hr hs hm ha' hr' ht hG
  have gl := hB.lt
  have K := Lib.hid (hB.alloc (Obj.cells #[.int .i64 0, .int .i64 0, .int .i64 0, .int .i64 0, .int .i64 0] 35))
  have L := Lib.hid (Blk.new w 35 #[.int .i64 0, .int .i64 0, .int .i64 0, .int .i64 0, .int .i64 0])
  have t2 : (n == 1099511627776) = false := by simp; omega
  clear hB
  have x1 : ¬ g = w.heap.size := by omega
  have x2 : ¬ w.heap.size = g := by omega
  go_enter Try.func45, Try.ntmps45
  go_wp2_with fail
  obtain ⟨W0, hW0⟩ : ∃ W0, w.alloc (Obj.cells #[.int .i64 0, .int .i64 0, .int .i64 0, .int .i64 0, .int .i64 0] 35) = W0 := ⟨_, rfl⟩
  have B := Lib.hid (show But g w W0 by rw [← hW0]; exact But.of (wbox _ _))
  rw [hW0] at K L
  rw [hW0]
  clear hW0
  refine (snothing_no a r s m E ga gr gs gm gb n O g _ K.out e0).mono ?_
  rintro e w1 ⟨rfl, rfl⟩
  have c0 := K.out.cell 0; have c1 := K.out.cell 1; have c2 := K.out.cell 2; have c3 := K.out.cell 3; have c4 := K.out.cell 4; have c10 := K.out.cell 10
  have f10 := K.out.free 10
  simp [spC] at c0 c1 c2 c3 c4 c10
  go_wp2_with fail
  obtain ⟨W1, hW1⟩ : ∃ W1, W0.setCell ⟨g, 10, none⟩ (.int .i64 (n + 1)) = W1 := ⟨_, rfl⟩
  have K := Lib.hid (show Blk W1 74 g (spC a r s m E ga gr gs gm gb (n + 1) O) by rw [← hW1]; exact K.out.spTold _)
  have L := Lib.hid (show Blk W1 35 w.heap.size #[.int .i64 0, .int .i64 0, .int .i64 0, .int .i64 0, .int .i64 0] by rw [← hW1]; exact L.out.other _ _ (by simpa using x2))
  have B := Lib.hid (show But g w W1 by rw [← hW1]; exact B.out.set _ _)
  rw [hW1]
  clear hW1 c0 c1 c2 c3 c4 c10 f10
  refine (cnext_any a r s m E a' r' _ a0 a1 r0 r1 s0 s1 m0 m1 e1 HS.out).mono ?_
  rintro e w2 ⟨rfl, hb⟩
  have K := Lib.hid (K.out.below hb)
  have L := Lib.hid (L.out.below hb)
  have B := Lib.hid (B.out.next hb)
  clear hb
  have c0 := K.out.cell 0; have c1 := K.out.cell 1; have c2 := K.out.cell 2; have c3 := K.out.cell 3; have c4 := K.out.cell 4
  have f0 := K.out.free 0; have f1 := K.out.free 1; have f2 := K.out.free 2; have f3 := K.out.free 3; have f4 := K.out.free 4
  simp [spC] at c0 c1 c2 c3 c4
  go_upto_region 6 with fail
  obtain ⟨W2, hW2⟩ : ∃ W2, ((((w2.setCell ⟨g, 0, none⟩ (.int .i64 a')).setCell ⟨g, 1, none⟩ (.int .i64 r')).setCell ⟨g, 2, none⟩ (.int .i64 s)).setCell ⟨g, 3, none⟩ (.int .i64 m)).setCell ⟨g, 4, none⟩ (.int .i64 E) = W2 := ⟨_, rfl⟩
  have K := Lib.hid (show Blk W2 74 g (spC a' r' s m E ga gr gs gm gb (n + 1) O) by rw [← hW2]; exact K.out.spWin _ _ _ _ _)
  have L := Lib.hid (show Blk W2 35 w.heap.size #[.int .i64 0, .int .i64 0, .int .i64 0, .int .i64 0, .int .i64 0] by rw [← hW2]; exact L.out.other5 (by simpa using x2))
  have B := Lib.hid (show But g w W2 by rw [← hW2]; exact ((((B.out.set _ _).set _ _).set _ _).set _ _).set _ _)
  rw [hW2]
  clear hW2 c0 c1 c2 c3 c4 f0 f1 f2 f3 f4
  go_cut [34] (fun _ wx => NxBox w g E P O (n + 1) a' r' s m wx)
  case first =>
    have c0 := K.out.cell 0; have c1 := K.out.cell 1; have c2 := K.out.cell 2; have c3 := K.out.cell 3; have c4 := K.out.cell 4; have c5 := K.out.cell 5; have c6 := K.out.cell 6; have c7 := K.out.cell 7; have c8 := K.out.cell 8; have c9 := K.out.cell 9
    simp [spC] at c0 c1 c2 c3 c4 c5 c6 c7 c8 c9
    go_region_with (first
      | (go_at_call 53; refine (cup_any a' r' s m E t _ HT.out b0 (by omega)).mono ?_; rintro e w3 ⟨rfl, hb⟩; have K := Lib.hid (K.out.drew.below hb); have L := Lib.hid (Blk.below (W := W2.drew) L.out hb); have B := Lib.hid (B.out.next (c := w3) (Below.trans (Below.refl _ _).drew hb)); clear hb c0 c1 c2 c3 c4 c5 c6 c7 c8 c9; have c0 := K.out.cell 0; have c1 := K.out.cell 1; have c2 := K.out.cell 2; have c3 := K.out.cell 3; have c4 := K.out.cell 4; have c5 := K.out.cell 5; have c6 := K.out.cell 6; have c7 := K.out.cell 7; have c8 := K.out.cell 8; have c9 := K.out.cell 9; have f5 := K.out.free 5; have f6 := K.out.free 6; have f7 := K.out.free 7; have f8 := K.out.free 8; have f9 := K.out.free 9; simp [spC] at c0 c1 c2 c3 c4 c5 c6 c7 c8 c9)
      | (go_at_call 52; refine (greach_any E P n (a' + t) ga gr gs gm gb _ HM.out n0 n1 HG.out HU.out).mono ?_; rintro e w4 ⟨ha, hr, hs, hm, hb', rfl, hgr, hb⟩; have K := Lib.hid (K.out.below hb); have L := Lib.hid (L.out.below hb); have B := Lib.hid (B.out.next hb); have HG := Lib.hid hgr; clear hb hgr c0 c1 c2 c3 c4 c5 c6 c7 c8 c9 f5 f6 f7 f8 f9; have c0 := K.out.cell 0; have c1 := K.out.cell 1; have c2 := K.out.cell 2; have c3 := K.out.cell 3; have c4 := K.out.cell 4; have c5 := K.out.cell 5; have c6 := K.out.cell 6; have c7 := K.out.cell 7; have c8 := K.out.cell 8; have c9 := K.out.cell 9; have f5 := K.out.free 5; have f6 := K.out.free 6; have f7 := K.out.free 7; have f8 := K.out.free 8; have f9 := K.out.free 9; simp [spC] at c0 c1 c2 c3 c4 c5 c6 c7 c8 c9))
    all_goals
      go_wp2_with fail
      go_meet
      with_reducible exact nxbox_mk K.out HG.out L.out B.out x2
  case rest =>
    obtain ⟨ga', gr', gs', gm', gb', hK, hG, hL, hB⟩ := hcut
    have KK := Lib.hid hK; have GG := Lib.hid hG; have LL := Lib.hid hL; have BB := Lib.hid hB
    clear hK hG hL hB K L B
    obtain ⟨G', hG'⟩ : ∃ G', G' = if wG E P (n + 1) = 0 then 0 else wG E P (n + 1) + O := ⟨_, rfl⟩
    obtain ⟨gt, hgt⟩ : ∃ gt : Int, gt = if 0 < gr' then 1 else 0 := ⟨_, rfl⟩
    have TL := Lib.hid (gtells (O := O) HM.out (show 1 ≤ n + 1 by omega) (by omega) GG.out gt hgt G' hG')
    have HGT := Lib.hid hgt
    have HV := Lib.hid (show aheadV E P O (n + 1) = subV (n + 1) (a + O) (a' + t + O) t G' by
      unfold aheadV
      rw [← hG', HRR.out, HBI.out, HU.out]
      rfl)
    clear hgt hG'
    go_wp2_with fail
    refine (ssub_any a a' r' s m E ga' gr' gs' gm' gb' (n + 1) O t gt G' g _ KK.out a0 a1 b0 b1 O0 O1 HT.out TL.out.1.1 TL.out.1.2 HGT.out TL.out.2).mono ?_
    rintro e w5 ⟨rfl, hb⟩
    have KK := Lib.hid (KK.out.below hb)
    have LL := Lib.hid (LL.out.below hb)
    have BB := Lib.hid (BB.out.next hb)
    clear hb
    have s0 := LL.out.cell 0; have s1 := LL.out.cell 1; have s2 := LL.out.cell 2; have s3 := LL.out.cell 3; have s4 := LL.out.cell 4
    have f0 := LL.out.free 0; have f1 := LL.out.free 1; have f2 := LL.out.free 2; have f3 := LL.out.free 3; have f4 := LL.out.free 4
    simp at s0 s1 s2 s3 s4
    unfold subV
    go_wp2
    exact bodyPost_ret (v := aheadV E P O (n + 1)) (by rw [HV.out]; simp [subV, results, Try.results45, go_sem, s0, s1, s2, s3, s4]) rfl ⟨rfl, ⟨_, _, _, _, _, KK.out.other5 x1, GG.out⟩, BB.out.own5 (Nat.le_refl _)⟩
theorem snext_nil (w : World) : Calls Try.prog 45 #[.pointer none] w fun e w' => e = .returned (subV 0 0 0 0 0) ∧ Below w.heap.size w w' := by
  go_enter Try.func45, Try.ntmps45
  go_wp2_with fail
  refine (snothing_nil _).mono ?_
  rintro e w1 ⟨rfl, rfl⟩
  go_wp2
  exact bodyPost_ret (v := subV 0 0 0 0 0) (by simp [subV, results, Try.results45, go_sem]) rfl ⟨rfl, wbox _ _⟩
theorem snext_zero (g : Nat) (w : World) (h : Blk w 74 g (spC 0 0 0 0 0 0 0 0 0 0 0 0)) : Calls Try.prog 45 #[.pointer (some ⟨g, 0, none⟩)] w fun e w' => e = .returned (subV 0 0 0 0 0) ∧ Below w.heap.size w w' := by
  have H := Lib.hid (h.alloc (Obj.cells #[.int .i64 0, .int .i64 0, .int .i64 0, .int .i64 0, .int .i64 0] 35))
  clear h
  go_enter Try.func45, Try.ntmps45
  go_wp2_with fail
  refine (snothing_zero g _ H.out).mono ?_
  rintro e w1 ⟨rfl, rfl⟩
  go_wp2
  exact bodyPost_ret (v := subV 0 0 0 0 0) (by simp [subV, results, Try.results45, go_sem]) rfl ⟨rfl, wbox _ _⟩
theorem speek_any (E P O n : Int) (g : Nat) (w : World) (h : Stp w g E P O n) (hM : MayBe E P) (n0 : 0 ≤ n) (n1 : n < 1099511627776) (O0 : 0 ≤ O) (O1 : O ≤ 2305843009213693952) :
    Calls Try.prog 43 #[.pointer (some ⟨g, 0, none⟩)] w fun e w' => e = .returned (aheadV E P O (n + 1)) ∧ Below w.heap.size w w' := by
  have HM := Lib.hid hM
  have H := Lib.hid (h.alloc (Obj.cells #[.int .i64 0, .int .i64 0, .int .i64 0, .int .i64 0, .int .i64 0] 35))
  have L := Lib.hid (Blk.new w 35 #[.int .i64 0, .int .i64 0, .int .i64 0, .int .i64 0, .int .i64 0])
  clear h hM
  go_enter Try.func43, Try.ntmps43
  go_wp2_with fail
  obtain ⟨W0, hW0⟩ : ∃ W0, w.alloc (Obj.cells #[.int .i64 0, .int .i64 0, .int .i64 0, .int .i64 0, .int .i64 0] 35) = W0 := ⟨_, rfl⟩
  have B := Lib.hid (show Below w.heap.size w W0 by rw [← hW0]; exact wbox _ _)
  rw [hW0] at H L
  rw [hW0]
  clear hW0
  refine (scopy_any E P O n g _ H.out).mono ?_
  rintro e w1 ⟨rfl, hs, hb⟩
  have S := Lib.hid hs
  have HL := Lib.hid L.out.lt
  have L := Lib.hid (L.out.below hb)
  have B0 := Lib.hid B.out.size
  have B := Lib.hid (below_next B.out hb)
  clear hs hb
  go_wp2_with fail
  refine (snext_any E P O n _ _ S.out HM.out n0 n1 O0 O1).mono ?_
  rintro e w2 ⟨rfl, _, hb⟩
  have L := Lib.hid (L.out.but hb (Nat.ne_of_lt HL.out))
  have B := Lib.hid (hb.below B.out B0.out B.out.size)
  clear hb
  have s0 := L.out.cell 0; have s1 := L.out.cell 1; have s2 := L.out.cell 2; have s3 := L.out.cell 3; have s4 := L.out.cell 4
  have f0 := L.out.free 0; have f1 := L.out.free 1; have f2 := L.out.free 2; have f3 := L.out.free 3; have f4 := L.out.free 4
  simp at s0 s1 s2 s3 s4
  obtain ⟨v0, v1, v2, v3, v4, hv⟩ : ∃ v0 v1 v2 v3 v4, aheadV E P O (n + 1) = subV v0 v1 v2 v3 v4 := ⟨_, _, _, _, _, rfl⟩
  rw [hv]
  unfold subV
  go_wp2
  exact bodyPost_ret (v := subV v0 v1 v2 v3 v4) (by simp [subV, results, Try.results43, go_sem, s0, s1, s2, s3, s4]) rfl ⟨by rw [hv], below_set5 B.out (Nat.le_refl _)⟩
theorem speek_nil (w : World) : Calls Try.prog 43 #[.pointer none] w fun e w' => e = .returned (subV 0 0 0 0 0) ∧ Below w.heap.size w w' := by
  have L := Lib.hid (Blk.new w 35 #[.int .i64 0, .int .i64 0, .int .i64 0, .int .i64 0, .int .i64 0])
  go_enter Try.func43, Try.ntmps43
  go_wp2_with fail
  refine (scopy_nil _).mono ?_
  rintro e w1 ⟨rfl, rfl⟩
  go_wp2_with fail
  refine (snext_nil _).mono ?_
  rintro e w2 ⟨rfl, hb⟩
  have L := Lib.hid (L.out.below hb)
  have B := Lib.hid (below_next (wbox _ _) hb)
  clear hb
  have s0 := L.out.cell 0; have s1 := L.out.cell 1; have s2 := L.out.cell 2; have s3 := L.out.cell 3; have s4 := L.out.cell 4
  have f0 := L.out.free 0; have f1 := L.out.free 1; have f2 := L.out.free 2; have f3 := L.out.free 3; have f4 := L.out.free 4
  simp at s0 s1 s2 s3 s4
  unfold subV
  go_wp2
  exact bodyPost_ret (v := subV 0 0 0 0 0) (by simp [subV, results, Try.results43, go_sem, s0, s1, s2, s3, s4]) rfl ⟨rfl, below_set5 B.out (Nat.le_refl _)⟩
theorem speek_zero (g : Nat) (w : World) (h : Blk w 74 g (spC 0 0 0 0 0 0 0 0 0 0 0 0)) : Calls Try.prog 43 #[.pointer (some ⟨g, 0, none⟩)] w fun e w' => e = .returned (subV 0 0 0 0 0) ∧ Below w.heap.size w w' := by
  have H := Lib.hid (h.alloc (Obj.cells #[.int .i64 0, .int .i64 0, .int .i64 0, .int .i64 0, .int .i64 0] 35))
  have L := Lib.hid (Blk.new w 35 #[.int .i64 0, .int .i64 0, .int .i64 0, .int .i64 0, .int .i64 0])
  clear h
  go_enter Try.func43, Try.ntmps43
  go_wp2_with fail
  obtain ⟨W0, hW0⟩ : ∃ W0, w.alloc (Obj.cells #[.int .i64 0, .int .i64 0, .int .i64 0, .int .i64 0, .int .i64 0] 35) = W0 := ⟨_, rfl⟩
  have B := Lib.hid (show Below w.heap.size w W0 by rw [← hW0]; exact wbox _ _)
  rw [hW0] at H L
  rw [hW0]
  clear hW0
  refine (scopy_blk 0 0 0 0 0 0 0 0 0 0 0 0 g _ H.out).mono ?_
  rintro e w1 ⟨rfl, hs, hb⟩
  have S := Lib.hid hs
  have L := Lib.hid (L.out.below hb)
  have B := Lib.hid (below_next B.out hb)
  clear hs hb
  go_wp2_with fail
  refine (snext_zero _ _ S.out).mono ?_
  rintro e w2 ⟨rfl, hb⟩
  have L := Lib.hid (L.out.below hb)
  have B := Lib.hid (below_next B.out hb)
  clear hb
  have s0 := L.out.cell 0; have s1 := L.out.cell 1; have s2 := L.out.cell 2; have s3 := L.out.cell 3; have s4 := L.out.cell 4
  have f0 := L.out.free 0; have f1 := L.out.free 1; have f2 := L.out.free 2; have f3 := L.out.free 3; have f4 := L.out.free 4
  simp at s0 s1 s2 s3 s4
  unfold subV
  go_wp2
  exact bodyPost_ret (v := subV 0 0 0 0 0) (by simp [subV, results, Try.results43, go_sem, s0, s1, s2, s3, s4]) rfl ⟨rfl, below_set5 B.out (Nat.le_refl _)⟩
end Go.Proofs.Ythaoijmjkmgebaa
