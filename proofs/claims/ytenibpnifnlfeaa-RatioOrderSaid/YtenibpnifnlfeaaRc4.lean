/-
  RatioOrder: the walk.
-/
import Derived.Test.YtenibpnifnlfeaaRp4
namespace Go.Proofs.Ytenibpnifnlfeaa
open Go.RowKit

set_option maxHeartbeats 8000000 in
set_option maxRecDepth 100000 in
theorem order_core (a0 : Option Addr) (len0 cap0 : Nat) (ps0 : List (Int × Int)) (a1 : Option Addr) (len1 cap1 : Nat) (ps1 : List (Int × Int)) (w : World) (h0 : RowP w a0 len0 cap0 ps0) (h1 : RowP w a1 len1 cap1 ps1) :
    Calls Try.prog 5 #[.slice a0 len0 cap0, .slice a1 len1 cap1] w fun e w' => e = .returned (.bool true) ∧ Below w.heap.size w w' := by
  obtain ⟨i0, hi, hz0, hz1, hz2⟩ := info_parts Try.infoW
  obtain ⟨ws, hws⟩ : ∃ ws, (ps0.take 8).map mkW = ws := ⟨_, rfl⟩
  obtain ⟨vs, hvs⟩ : ∃ vs, (ps1.take 8).map mkW = vs := ⟨_, rfl⟩
  have FW := Lib.hid (show (∀ p ∈ ws, FitW p) ∧ (∀ p ∈ ws, Small p) ∧ ws.length ≤ 8 by rw [← hws]; exact ⟨fits_mk ps0, smalls_mk ps0, take8_len ps0⟩)
  have FV := Lib.hid (show (∀ p ∈ vs, FitW p) ∧ (∀ p ∈ vs, Small p) ∧ vs.length ≤ 8 by rw [← hvs]; exact ⟨fits_mk ps1, smalls_mk ps1, take8_len ps1⟩)
  have FB := Lib.hid (show ∀ p ∈ ws.reverse, FitW p from fun p hp => FW.out.1 p (List.mem_reverse.mp hp))
  have FC := Lib.hid (show ∀ p ∈ ws ++ vs, FitW p from fun p hp => by rcases List.mem_append.mp hp with g | g; exact FW.out.1 p g; exact FV.out.1 p g)
  have BW := sum_lt8 FW.out.2.1 FW.out.2.2
  have BV := sum_lt8 FV.out.2.1 FV.out.2.2
  have SR := Lib.hid (sumR_reverse ws)
  have SA := Lib.hid (sumR_append ws vs)
  have HWS := Lib.hid hws; have HVS := Lib.hid hvs
  obtain ⟨X1, hX1⟩ : ∃ x, (sumR ws).1 = x := ⟨_, rfl⟩
  obtain ⟨X2, hX2⟩ : ∃ x, (sumR ws).2 = x := ⟨_, rfl⟩
  obtain ⟨Y1, hY1⟩ : ∃ x, (sumR vs).1 = x := ⟨_, rfl⟩
  obtain ⟨Y2, hY2⟩ : ∃ x, (sumR vs).2 = x := ⟨_, rfl⟩
  rw [hX1, hX2] at BW
  rw [hY1, hY2] at BV
  rw [hX1, hX2, hY1, hY2] at SA
  have EX1 := Lib.hid hX1; have EX2 := Lib.hid hX2; have EY1 := Lib.hid hY1; have EY2 := Lib.hid hY2
  have BWH := Lib.hid BW; have BVH := Lib.hid BV
  have x20 := BW.2.2.1; have y20 := BV.2.2.1
  have P20 := Lib.hid (Int.mul_pos x20 y20)
  clear hws hvs hX1 hX2 hY1 hY2 BW BV
  have H0 := Lib.hid h0; have H1 := Lib.hid h1
  clear h0 h1
  go_enter Try.func5, Try.ntmps5
  go_wp2_with fail
  refine (qawake_any w).mono ?_
  rintro e w_1 ⟨rfl, hb⟩
  have H0_2 := Lib.hid (H0.out.below hb)
  have H1_3 := Lib.hid (H1.out.below hb)
  have BEL_4 := Lib.hid (show Below w.heap.size w w_1 from hb)
  clear H0 H1
  clear hb
  go_wp2_with fail
  refine (weights_any a0 len0 cap0 ps0 w_1 H0_2.out).mono ?_
  rintro e w_5 ⟨aw, lw, cw, rfl, hrow, hb, _⟩
  rw [HWS.out] at hrow
  have LW := Lib.hid hrow.len
  have ⟨cw1, cw2⟩ := hrow.cap_le
  have H0_6 := Lib.hid (H0_2.out.below hb)
  have H1_7 := Lib.hid (H1_3.out.below hb)
  have BEL_8 := Lib.hid (show Below w.heap.size w w_5 from below_next BEL_4.out hb)
  clear H0_2 H1_3 BEL_4
  have RA_9 := Lib.hid (hrow)
  clear hb
  clear hrow
  have lw8 : lw ≤ 8 := by rw [← LW.out]; exact FW.out.2.2
  clear H0_6
  go_wp2_with fail
  refine (weights_any a1 len1 cap1 ps1 w_5 H1_7.out).mono ?_
  rintro e w_10 ⟨av, lv, cv, rfl, hrow, hb, _⟩
  rw [HVS.out] at hrow
  have LV := Lib.hid hrow.len
  have ⟨cv1, cv2⟩ := hrow.cap_le
  have H1_11 := Lib.hid (H1_7.out.below hb)
  have RA_12 := Lib.hid (RA_9.out.below hb)
  have BEL_13 := Lib.hid (show Below w.heap.size w w_10 from below_next BEL_8.out hb)
  clear H1_7 RA_9 BEL_8
  have RB_14 := Lib.hid (hrow)
  clear hb
  clear hrow
  have lv8 : lv ≤ 8 := by rw [← LV.out]; exact FV.out.2.2
  clear H1_11
  go_wp2
  go_loopw [8, 9] (fun v u wr => ∃ (j : Nat) (c : Int), u = .int .i64 c ∧ c = (j : Int) - 1 ∧ j ≤ lw ∧ wr.ownsRow w_10.heap.size 51 2 v (lw - j) (cellsW (ws.drop j).reverse) ∧ Below w_10.heap.size w_10 wr) (fun _ u _ => (intOf u + 1).toNat)
  case atStart =>
    refine ⟨lw, _, rfl, rfl, Nat.le_refl _, ?_, Below.refl _ _⟩
    rw [List.drop_eq_nil_of_le (by rw [LW.out]; exact Nat.le_refl _), Nat.sub_self]
    exact World.ownsRow_nil _ _ _ _
  case round =>
    obtain ⟨j, c, rfl, hc, hj, hown, hbel⟩ := hrel
    have HO := Lib.hid hown
    have HBE := Lib.hid hbel
    have hsz := hbel.size
    clear hown hbel
    cases j with
    | succ i =>
      obtain rfl : c = (i : Int) := by omega
      clear hc
      obtain ⟨ba, oa, rfl, hx, hy⟩ := (RA_12.out.below HBE.out).cell (show i < lw by omega)
      obtain ⟨p, hp⟩ : ∃ p, ws.getD i (0, 0) = p := ⟨_, rfl⟩
      rw [hp] at hx hy
      have EP := Lib.hid (show (ws.drop i).reverse = (ws.drop (i + 1)).reverse ++ [p] by rw [drop_rev (by rw [LW.out]; omega), hp])
      obtain ⟨E, P⟩ := p
      clear hp
      have il : i < lw := by omega
      have EN := Lib.hid (show lw - (i + 1) + 1 = lw - i by omega)
      go_wp2_with (at_builtin; refine wpList_append_own _ rfl _ _ 28 rfl w_10.heap.size 51 i0 _ 2 16 Try.underlying28 hi hz0 hz1 hz2 rfl (by decide) _ (lw - (i + 1)) (cellsW (ws.drop (i + 1)).reverse) rfl (HO.out.alloc _) ⟨wr.heap.size, 0, none⟩ 1 1 [.int .i64 E, .int .i64 P] rfl rfl (World.news_of_block (cs := #[.int .i64 E, .int .i64 P]) (t := 51) (fr := (0, 0)) (heap_alloc_new wr _)) (by simp [Value.oneCell']) (by unfold maxLen; omega) (by omega) (by simp; omega) ?_; intro v2 w2 hown2 hgrow2 _; have HO2 := Lib.hid hown2; have HG2 := Lib.hid hgrow2; clear hown2 hgrow2)
      go_roundw
      case rel =>
        refine ⟨i, _, rfl, rfl, by omega, ?_, ?_⟩
        · rw [EP.out, cellsW_append, ← EN.out]
          exact HO2.out
        · exact (HBE.out.alloc hsz _).grown HG2.out (by simp; omega) (fun g hg => (HO.out.lt g hg).1)
      case measure => simp [intOf]
    | zero =>
      obtain rfl : c = -1 := by omega
      clear hc hj
      obtain ⟨ab, cb, hv, hrow, _⟩ := rowP_of_owns (ps := ws.reverse) (by rw [List.length_reverse, LW.out]; have := HO.out; rw [List.drop_zero, Nat.sub_zero] at this; exact this)
      rw [List.length_reverse, LW.out] at hv hrow
      subst hv
      have RA_15 := Lib.hid (RA_12.out.below HBE.out)
      have RB_16 := Lib.hid (RB_14.out.below HBE.out)
      have BEL_17 := Lib.hid (show Below w.heap.size w wr from below_next BEL_13.out HBE.out)
      clear RA_12 RB_14 BEL_13
      have RK_18 := Lib.hid (hrow)
      clear hrow HO HBE hsz
      go_wp2_with fail
      refine (qsum_any aw lw cw ws wr RA_15.out FW.out.1 (by omega)).mono ?_
      rintro e w_19 ⟨_, n1, d1, rfl, ⟨p1, p2, p3, p4, p5, p6, p7, p8, rfl, r1, i1, r2, i2, m1, m2, f1, f2⟩, hlo, heq, hb⟩
      rw [EX1.out, EX2.out] at heq
      have LEp := Lib.hid (lo_le hlo BWH.out.1 BWH.out.2.2.1 heq)
      have LOp := Lib.hid hlo; have EQp := Lib.hid heq
      have d10 : 0 < d1 := hlo.2.1
      have n10 : 0 ≤ n1 := hlo.1
      have RA_20 := Lib.hid (RA_15.out.below hb)
      have RB_21 := Lib.hid (RB_16.out.below hb)
      have RK_22 := Lib.hid (RK_18.out.below hb)
      have BEL_23 := Lib.hid (show Below w.heap.size w w_19 from below_next BEL_17.out hb)
      clear RA_15 RB_16 RK_18 BEL_17
      have QX_24 := Lib.hid (Rat.shrink (L' := 6) (show Rat w_19 0 _ (.agg #[.slice p1 p2 p3, .slice p5 p6 p7]) n1 d1 from ⟨p1, p2, p3, p4, p5, p6, p7, p8, rfl, r1, i1, r2, i2, m1, m2, fresh0 _, fresh0 _⟩) (Int.lt_of_le_of_lt LEp.out.1 BWH.out.2.1) (Int.lt_of_le_of_lt LEp.out.2 BWH.out.2.2.2))
      clear hb
      clear r1 i1 r2 i2 m1 m2 f1 f2 hlo heq
      go_wp2_with fail
      obtain ⟨W_25, hW_25⟩ : ∃ W, w_19.alloc (Obj.cells #[Value.slice p1 p2 p3, Value.slice p5 p6 p7] 26) = W := ⟨_, rfl⟩
      obtain ⟨gx, hgx⟩ : ∃ g, w_19.heap.size = g := ⟨_, rfl⟩
      have NB_26 := Lib.hid (show Below w_19.heap.size w_19 W_25 by rw [← hW_25]; exact below_box _ _)
      have BX_27 := Lib.hid (show Box W_25 26 gx (Value.slice p1 p2 p3) (Value.slice p5 p6 p7) by rw [← hW_25, ← hgx]; exact Box.new _ _ _ _)
      rw [hW_25, hgx]
      clear hW_25 hgx
      have RA_28 := Lib.hid (RA_20.out.below NB_26.out)
      have RB_29 := Lib.hid (RB_21.out.below NB_26.out)
      have RK_30 := Lib.hid (RK_22.out.below NB_26.out)
      have QX_31 := Lib.hid (QX_24.out.below NB_26.out)
      have BEL_32 := Lib.hid (show Below w.heap.size w W_25 from below_next BEL_23.out NB_26.out)
      clear RA_20 RB_21 RK_22 QX_24 BEL_23
      clear NB_26
      refine (qsum_any av lv cv vs W_25 RB_29.out FV.out.1 (by omega)).mono ?_
      rintro e w_33 ⟨_, n2, d2, rfl, ⟨q1, q2, q3, q4, q5, q6, q7, q8, rfl, r1, i1, r2, i2, m1, m2, f1, f2⟩, hlo, heq, hb⟩
      rw [EY1.out, EY2.out] at heq
      have LEq := Lib.hid (lo_le hlo BVH.out.1 BVH.out.2.2.1 heq)
      have LOq := Lib.hid hlo; have EQq := Lib.hid heq
      have d20 : 0 < d2 := hlo.2.1
      have n20 : 0 ≤ n2 := hlo.1
      have RA_34 := Lib.hid (RA_28.out.below hb)
      have RB_35 := Lib.hid (RB_29.out.below hb)
      have RK_36 := Lib.hid (RK_30.out.below hb)
      have QX_37 := Lib.hid (QX_31.out.below hb)
      have BX_38 := Lib.hid (BX_27.out.below hb)
      have BEL_39 := Lib.hid (show Below w.heap.size w w_33 from below_next BEL_32.out hb)
      clear RA_28 RB_29 RK_30 QX_31 BX_27 BEL_32
      have QY_40 := Lib.hid (Rat.shrink (L' := 6) (show Rat w_33 0 _ (.agg #[.slice q1 q2 q3, .slice q5 q6 q7]) n2 d2 from ⟨q1, q2, q3, q4, q5, q6, q7, q8, rfl, r1, i1, r2, i2, m1, m2, fresh0 _, fresh0 _⟩) (Int.lt_of_le_of_lt LEq.out.1 BVH.out.2.1) (Int.lt_of_le_of_lt LEq.out.2 BVH.out.2.2.2))
      clear hb
      clear r1 i1 r2 i2 m1 m2 f1 f2 hlo heq
      have LL := Lib.hid (show (ws ++ vs).length = lw + lv by rw [List.length_append, LW.out, LV.out])
      obtain ⟨W_41, hW_41⟩ : ∃ W, w_33.alloc (Obj.cells #[Value.slice q1 q2 q3, Value.slice q5 q6 q7] 26) = W := ⟨_, rfl⟩
      obtain ⟨gy, hgy⟩ : ∃ g, w_33.heap.size = g := ⟨_, rfl⟩
      have NBY := Lib.hid (show Below w_33.heap.size w_33 W_41 by rw [← hW_41]; exact below_box _ _)
      have BYY := Lib.hid (show Box W_41 26 gy (Value.slice q1 q2 q3) (Value.slice q5 q6 q7) by rw [← hW_41, ← hgy]; exact Box.new _ _ _ _)
      have RA_42 := Lib.hid (RA_34.out.below NBY.out)
      have RB_43 := Lib.hid (RB_35.out.below NBY.out)
      have RK_44 := Lib.hid (RK_36.out.below NBY.out)
      have QX_45 := Lib.hid (QX_37.out.below NBY.out)
      have BX_46 := Lib.hid (BX_38.out.below NBY.out)
      have QY_47 := Lib.hid (QY_40.out.below NBY.out)
      have BEL_48 := Lib.hid (show Below w.heap.size w W_41 from below_next BEL_39.out NBY.out)
      clear RA_34 RB_35 RK_36 QX_37 BX_38 QY_40 BEL_39
      clear NBY
      go_wp2_with (first
        | (at_builtin; (try rw [hW_41]); refine wpList_append_pairs rfl _ _ rfl W_41.heap.size (.slice none 0 0) [] rfl (World.ownsRow_nil _ _ _ _) aw lw cw ws rfl RA_42.out (Nat.le_refl _) (by simp; omega) ?_; intro v1 u1 hown1 hgrow1; have HU1 := Lib.hid hown1; have BU1 := Lib.hid (show Below W_41.heap.size W_41 u1 from (Below.refl _ _).grown hgrow1 (Nat.le_refl _) (fun g hg => by cases hg)); clear hown1 hgrow1)
        | (at_builtin; refine wpList_append_pairs rfl _ _ rfl W_41.heap.size v1 ([] ++ ws) rfl HU1.out av lv cv vs rfl (RB_43.out.below BU1.out) BU1.out.size (by rw [List.nil_append, LW.out]; omega) ?_; intro v2 u2 hown2 hgrow2; have HU2 := Lib.hid hown2; have BU2 := Lib.hid (show Below W_41.heap.size W_41 u2 from BU1.out.grown hgrow2 BU1.out.size (fun g hg => (HU1.out.lt g hg).1)); have ld1 := (BX_46.out.below BU2.out).c0; have ld2 := (BX_46.out.below BU2.out).c1; have ld3 := (BYY.out.below BU2.out).c0; have ld4 := (BYY.out.below BU2.out).c1; clear hown2 hgrow2))
      try rw [hgy]
      clear hW_41 hgy ld1 ld2 ld3 ld4
      obtain ⟨ac, cc, hv, hrow, _⟩ := rowP_of_owns (ps := ws ++ vs) (by have := HU2.out; rw [List.nil_append] at this; exact this)
      rw [LL.out] at hv hrow
      subst hv
      have RA_49 := Lib.hid (RA_42.out.below BU2.out)
      have RB_50 := Lib.hid (RB_43.out.below BU2.out)
      have RK_51 := Lib.hid (RK_44.out.below BU2.out)
      have QX_52 := Lib.hid (QX_45.out.below BU2.out)
      have BX_53 := Lib.hid (BX_46.out.below BU2.out)
      have QY_54 := Lib.hid (QY_47.out.below BU2.out)
      have BY_55 := Lib.hid (BYY.out.below BU2.out)
      have BEL_56 := Lib.hid (show Below w.heap.size w u2 from below_next BEL_48.out BU2.out)
      clear RA_42 RB_43 RK_44 QX_45 BX_46 QY_47 BYY BEL_48
      have RC_57 := Lib.hid (hrow)
      clear hrow HU1 HU2 BU1 BU2
      refine (qadd_any (.agg #[.slice p1 p2 p3, .slice p5 p6 p7]) (.agg #[.slice q1 q2 q3, .slice q5 q6 q7]) n1 d1 n2 d2 0 0 6 u2 QX_52.out QY_54.out d10 d20 n10 n20 (by decide)).mono ?_
      rintro e w_58 ⟨_, n3, d3, rfl, ⟨s1, s2, s3, s4, s5, s6, s7, s8, rfl, r1, i1, r2, i2, m1, m2, f1, f2⟩, hlo, heq, hb⟩
      have d30 : 0 < d3 := hlo.2.1
      have n30 : 0 ≤ n3 := hlo.1
      have EQs := Lib.hid heq
      have LOs := Lib.hid hlo
      have EQS := Lib.hid (frac_add d10 d20 EQp.out EQq.out heq)
      have SG := Lib.hid (sum_ge d10 d20 d30 n10 n20 heq)
      have RA_59 := Lib.hid (RA_49.out.below hb)
      have RB_60 := Lib.hid (RB_50.out.below hb)
      have RK_61 := Lib.hid (RK_51.out.below hb)
      have QX_62 := Lib.hid (QX_52.out.below hb)
      have BX_63 := Lib.hid (BX_53.out.below hb)
      have QY_64 := Lib.hid (QY_54.out.below hb)
      have BY_65 := Lib.hid (BY_55.out.below hb)
      have RC_66 := Lib.hid (RC_57.out.below hb)
      have BEL_67 := Lib.hid (show Below w.heap.size w w_58 from below_next BEL_56.out hb)
      clear RA_49 RB_50 RK_51 QX_52 BX_53 QY_54 BY_55 RC_57 BEL_56
      have QS_68 := Lib.hid (show Rat w_58 0 15 (.agg #[.slice s1 s2 s3, .slice s5 s6 s7]) n3 d3 from ⟨s1, s2, s3, s4, s5, s6, s7, s8, rfl, r1, i1, r2, i2, m1, m2, fresh0 _, fresh0 _⟩)
      clear hb
      clear r1 i1 r2 i2 m1 m2 f1 f2 hlo heq
      have ld_69 := BY_65.out.c0
      have ld_70 := BY_65.out.c1
      have lt_71 := lt_of_block BY_65.out
      have ne_72 := Nat.ne_of_lt lt_71
      go_wp2_with fail
      clear ld_69 ld_70 lt_71 ne_72
      obtain ⟨W_73, hW_73⟩ : ∃ W, w_58.alloc (Obj.cells #[Value.slice s1 s2 s3, Value.slice s5 s6 s7] 26) = W := ⟨_, rfl⟩
      obtain ⟨gs, hgs⟩ : ∃ g, w_58.heap.size = g := ⟨_, rfl⟩
      have NB_74 := Lib.hid (show Below w_58.heap.size w_58 W_73 by rw [← hW_73]; exact below_box _ _)
      have BS_75 := Lib.hid (show Box W_73 26 gs (Value.slice s1 s2 s3) (Value.slice s5 s6 s7) by rw [← hW_73, ← hgs]; exact Box.new _ _ _ _)
      rw [hW_73, hgs]
      clear hW_73 hgs
      have RA_76 := Lib.hid (RA_59.out.below NB_74.out)
      have RB_77 := Lib.hid (RB_60.out.below NB_74.out)
      have RK_78 := Lib.hid (RK_61.out.below NB_74.out)
      have QX_79 := Lib.hid (QX_62.out.below NB_74.out)
      have BX_80 := Lib.hid (BX_63.out.below NB_74.out)
      have QY_81 := Lib.hid (QY_64.out.below NB_74.out)
      have BY_82 := Lib.hid (BY_65.out.below NB_74.out)
      have RC_83 := Lib.hid (RC_66.out.below NB_74.out)
      have QS_84 := Lib.hid (QS_68.out.below NB_74.out)
      have BEL_85 := Lib.hid (show Below w.heap.size w W_73 from below_next BEL_67.out NB_74.out)
      clear RA_59 RB_60 RK_61 QX_62 BX_63 QY_64 BY_65 RC_66 QS_68 BEL_67
      clear NB_74
      have QY15_87 := Lib.hid (QY_81.out.mono (Nat.zero_le 0) (show 6 ≤ 15 by decide))
      refine (qsub_any (.agg #[.slice s1 s2 s3, .slice s5 s6 s7]) (.agg #[.slice q1 q2 q3, .slice q5 q6 q7]) n3 d3 n2 d2 0 0 15 W_73 QS_84.out QY15_87.out d30 d20 n30 n20 (by decide)).mono ?_
      rintro e w_86 ⟨vd, er, rfl, hb, hcase⟩
      have RA_88 := Lib.hid (RA_76.out.below hb)
      have RB_89 := Lib.hid (RB_77.out.below hb)
      have RK_90 := Lib.hid (RK_78.out.below hb)
      have QX_91 := Lib.hid (QX_79.out.below hb)
      have BX_92 := Lib.hid (BX_80.out.below hb)
      have QY_93 := Lib.hid (QY_81.out.below hb)
      have BY_94 := Lib.hid (BY_82.out.below hb)
      have RC_95 := Lib.hid (RC_83.out.below hb)
      have QS_96 := Lib.hid (QS_84.out.below hb)
      have BS_97 := Lib.hid (BS_75.out.below hb)
      have QY15_98 := Lib.hid (QY15_87.out.below hb)
      have BEL_99 := Lib.hid (show Below w.heap.size w w_86 from below_next BEL_85.out hb)
      clear RA_76 RB_77 RK_78 QX_79 BX_80 QY_81 BY_82 RC_83 QS_84 BS_75 QY15_87 BEL_85
      have hway : er = 0 ∧ ∃ n d, Rat w_86 0 (15 + 15) vd n d ∧ Lo n d ∧ n * (d3 * d2) = (n3 * d2 - n2 * d3) * d := by
        rcases hcase with ⟨g, _⟩ | ⟨_, g⟩
        · exfalso; have := SG.out.1; omega
        · exact g
      obtain ⟨rfl, n4, d4, hrd, hlo, heq⟩ := hway
      obtain ⟨rfl, rfl⟩ := sub_back LOp.out d20 d30 hlo EQs.out heq
      obtain ⟨e1, e2, e3, e4, e5, e6, e7, e8, rfl, r1, i1, r2, i2, m1, m2, f1, f2⟩ := hrd
      have QD_100 := Lib.hid (show Rat w_86 0 30 (.agg #[.slice e1 e2 e3, .slice e5 e6 e7]) n4 d4 from ⟨e1, e2, e3, e4, e5, e6, e7, e8, rfl, r1, i1, r2, i2, m1, m2, fresh0 _, fresh0 _⟩)
      clear r1 i1 r2 i2 m1 m2 f1 f2 hlo heq hb hcase
      obtain ⟨k, hk⟩ : ∃ k, cmpI (n3 * d4) (n4 * d3) = k := ⟨_, rfl⟩
      have C4 := Lib.hid hk
      have k0 : 0 ≤ k := by rw [← hk]; exact cmpI_nonneg SG.out.2
      have kb : decide (0 ≤ k) = true := by simp; omega
      clear hk
      have o68 : 6 ≤ 800 := by decide
      have o158 : 15 ≤ 800 := by decide
      have o63 : 6 ≤ 300 := by decide
      have lw1 : lw ≤ 100 := by omega
      have lw2 : lw + lv ≤ 100 := by omega
      have FR1 := Lib.hid (show (sumR ws.reverse).1 = X1 ∧ (sumR ws.reverse).2 = X2 by rw [SR.out]; exact ⟨EX1.out, EX2.out⟩)
      have FR2 := Lib.hid (show (sumR (ws ++ vs)).1 = X1 * Y2 + Y1 * X2 ∧ (sumR (ws ++ vs)).2 = X2 * Y2 by rw [SA.out]; exact ⟨rfl, rfl⟩)
      have DP := Lib.hid (Int.mul_pos d10 d20)
      go_wp2
      obtain ⟨W_101, hW_101⟩ : ∃ W, w_86.alloc (Obj.cells #[Value.slice e1 e2 e3, Value.slice e5 e6 e7] 26) = W := ⟨_, rfl⟩
      obtain ⟨gd, hgd⟩ : ∃ g, w_86.heap.size = g := ⟨_, rfl⟩
      have NB_102 := Lib.hid (show Below w_86.heap.size w_86 W_101 by rw [← hW_101]; exact below_box _ _)
      have BD_103 := Lib.hid (show Box W_101 26 gd (Value.slice e1 e2 e3) (Value.slice e5 e6 e7) by rw [← hW_101, ← hgd]; exact Box.new _ _ _ _)
      rw [hW_101, hgd]
      clear hW_101 hgd
      have RA_104 := Lib.hid (RA_88.out.below NB_102.out)
      have RB_105 := Lib.hid (RB_89.out.below NB_102.out)
      have RK_106 := Lib.hid (RK_90.out.below NB_102.out)
      have QX_107 := Lib.hid (QX_91.out.below NB_102.out)
      have BX_108 := Lib.hid (BX_92.out.below NB_102.out)
      have QY_109 := Lib.hid (QY_93.out.below NB_102.out)
      have BY_110 := Lib.hid (BY_94.out.below NB_102.out)
      have RC_111 := Lib.hid (RC_95.out.below NB_102.out)
      have QS_112 := Lib.hid (QS_96.out.below NB_102.out)
      have BS_113 := Lib.hid (BS_97.out.below NB_102.out)
      have QY15_114 := Lib.hid (QY15_98.out.below NB_102.out)
      have QD_115 := Lib.hid (QD_100.out.below NB_102.out)
      have BEL_116 := Lib.hid (show Below w.heap.size w W_101 from below_next BEL_99.out NB_102.out)
      clear RA_88 RB_89 RK_90 QX_91 BX_92 QY_93 BY_94 RC_95 QS_96 BS_97 QY15_98 QD_100 BEL_99
      clear NB_102
      have RA_117 := Lib.hid (RA_104.out.drew)
      have RB_118 := Lib.hid (RB_105.out.drew)
      have RK_119 := Lib.hid (RK_106.out.drew)
      have QX_120 := Lib.hid (QX_107.out.drew)
      have BX_121 := Lib.hid (BX_108.out.drew)
      have QY_122 := Lib.hid (QY_109.out.drew)
      have BY_123 := Lib.hid (BY_110.out.drew)
      have RC_124 := Lib.hid (RC_111.out.drew)
      have QS_125 := Lib.hid (QS_112.out.drew)
      have BS_126 := Lib.hid (BS_113.out.drew)
      have QY15_127 := Lib.hid (QY15_114.out.drew)
      have QD_128 := Lib.hid (QD_115.out.drew)
      have BD_129 := Lib.hid (BD_103.out.drew)
      have BEL_130 := Lib.hid (show Below w.heap.size w W_101.drew from BEL_116.out.drew)
      clear RA_104 RB_105 RK_106 QX_107 BX_108 QY_109 BY_110 RC_111 QS_112 BS_113 QY15_114 QD_115 BD_103 BEL_116
      have KEPT_131 := Lib.hid (show ∀ w', Below W_101.drew.heap.size W_101.drew w' → (w'.cell? ⟨gx, 0, none⟩ = some (Value.slice p1 p2 p3) ∧ w'.cell? ⟨gx, 1, none⟩ = some (Value.slice p5 p6 p7) ∧ w'.cell? ⟨gy, 0, none⟩ = some (Value.slice q1 q2 q3) ∧ w'.cell? ⟨gy, 1, none⟩ = some (Value.slice q5 q6 q7) ∧ w'.cell? ⟨gs, 0, none⟩ = some (Value.slice s1 s2 s3) ∧ w'.cell? ⟨gs, 1, none⟩ = some (Value.slice s5 s6 s7) ∧ w'.cell? ⟨gd, 0, none⟩ = some (Value.slice e1 e2 e3) ∧ w'.cell? ⟨gd, 1, none⟩ = some (Value.slice e5 e6 e7)) from fun w' h => ⟨(BX_121.out.below h).c0, (BX_121.out.below h).c1, (BY_123.out.below h).c0, (BY_123.out.below h).c1, (BS_126.out.below h).c0, (BS_126.out.below h).c1, (BD_129.out.below h).c0, (BD_129.out.below h).c1⟩)
      have ld_132 := BX_121.out.c0
      have ld_133 := BX_121.out.c1
      have ld_134 := BY_123.out.c0
      have ld_135 := BY_123.out.c1
      have ld_136 := BS_126.out.c0
      have ld_137 := BS_126.out.c1
      have ld_138 := BD_129.out.c0
      have ld_139 := BD_129.out.c1
      go_region_held3 (fun w' => w'.cell? ⟨gx, 0, none⟩ = some (Value.slice p1 p2 p3) ∧ w'.cell? ⟨gx, 1, none⟩ = some (Value.slice p5 p6 p7) ∧ w'.cell? ⟨gy, 0, none⟩ = some (Value.slice q1 q2 q3) ∧ w'.cell? ⟨gy, 1, none⟩ = some (Value.slice q5 q6 q7) ∧ w'.cell? ⟨gs, 0, none⟩ = some (Value.slice s1 s2 s3) ∧ w'.cell? ⟨gs, 1, none⟩ = some (Value.slice s5 s6 s7) ∧ w'.cell? ⟨gd, 0, none⟩ = some (Value.slice e1 e2 e3) ∧ w'.cell? ⟨gd, 1, none⟩ = some (Value.slice e5 e6 e7))
        (first | exact KEPT_131.out _ (Below.refl _ _) | exact KEPT_131.out _ R_140X1.out | exact KEPT_131.out _ R_140X2.out | exact KEPT_131.out _ R_140X3.out | exact KEPT_131.out _ R_140X4.out | exact KEPT_131.out _ R_140X5.out | exact KEPT_131.out _ R_140X6.out | exact KEPT_131.out _ R_140X7.out | exact KEPT_131.out _ R_140X8.out)
        (first
          | (go_at_call 10; ((with_reducible refine (qsum_any ab lw cb ws.reverse W_101.drew RK_119.out FB.out lw1).mono ?_)); rintro e R_140w1 ⟨vk, nk, dk, rfl, hrk, hlk, hek, hb⟩; rw [FR1.out.1, FR1.out.2] at hek; obtain ⟨rfl, rfl⟩ := lo_same hlk LOp.out x20 hek EQp.out; have RKK := Lib.hid hrk; clear hrk hlk hek; have R_140X1l := Lib.hid hb; have R_140X1 := Lib.hid (hb); clear hb)
          | (go_at_call 25; ((with_reducible refine (qsame_yes vk (.agg #[.slice p1 p2 p3, .slice p5 p6 p7]) _ _ 0 0 _ 6 R_140w1 RKK.out (QX_120.out.below R_140X1.out)).mono ?_)); rintro e R_140w2 ⟨rfl, hb⟩; have R_140X2l := Lib.hid hb; have R_140X2 := Lib.hid (below_next R_140X1.out hb); clear hb)
          | (go_at_call 16; ((with_reducible refine (qadd_any (.agg #[.slice q1 q2 q3, .slice q5 q6 q7]) (.agg #[.slice p1 p2 p3, .slice p5 p6 p7]) n2 d2 _ _ 0 0 6 R_140w2 (QY_122.out.below R_140X2.out) (QX_120.out.below R_140X2.out) d20 d10 n20 n10 o63).mono ?_)); rintro e R_140w3 ⟨vt, nt, dt, rfl, hrt, hlt, het, hb⟩; obtain ⟨rfl, rfl⟩ := add_turn hlt LOs.out DP.out het EQs.out; have RTT := Lib.hid hrt; clear hrt hlt het; have R_140X3l := Lib.hid hb; have R_140X3 := Lib.hid (below_next R_140X2.out hb); clear hb)
          | (go_at_call 25; ((with_reducible refine (qsame_yes (.agg #[.slice s1 s2 s3, .slice s5 s6 s7]) vt _ _ 0 0 15 _ R_140w3 (QS_125.out.below R_140X3.out) RTT.out).mono ?_)); rintro e R_140w4 ⟨rfl, hb⟩; have R_140X4l := Lib.hid hb; have R_140X4 := Lib.hid (below_next R_140X3.out hb); clear hb)
          | (go_at_call 10; ((with_reducible refine (qsum_any ac (lw + lv) cc (ws ++ vs) R_140w4 (RC_124.out.below R_140X4.out) FC.out lw2).mono ?_)); rintro e R_140w5 ⟨vm, nm, dm, rfl, hrm, hlm, hem, hb⟩; rw [FR2.out.1, FR2.out.2] at hem; obtain ⟨rfl, rfl⟩ := lo_same hlm LOs.out P20.out hem EQS.out; have RMM := Lib.hid hrm; clear hrm hlm hem; have R_140X5l := Lib.hid hb; have R_140X5 := Lib.hid (below_next R_140X4.out hb); clear hb)
          | (go_at_call 25; ((with_reducible refine (qsame_yes vm (.agg #[.slice s1 s2 s3, .slice s5 s6 s7]) _ _ 0 0 _ 15 R_140w5 RMM.out (QS_125.out.below R_140X5.out)).mono ?_)); rintro e R_140w6 ⟨rfl, hb⟩; have R_140X6l := Lib.hid hb; have R_140X6 := Lib.hid (below_next R_140X5.out hb); clear hb)
          | (go_at_call 25; ((with_reducible refine (qsame_yes (.agg #[.slice e1 e2 e3, .slice e5 e6 e7]) (.agg #[.slice p1 p2 p3, .slice p5 p6 p7]) _ _ 0 0 30 6 R_140w6 (QD_128.out.below R_140X6.out) (QX_120.out.below R_140X6.out)).mono ?_)); rintro e R_140w7 ⟨rfl, hb⟩; have R_140X7l := Lib.hid hb; have R_140X7 := Lib.hid (below_next R_140X6.out hb); clear hb)
          | (go_at_call 15; ((with_reducible refine (qcmp_any (.agg #[.slice s1 s2 s3, .slice s5 s6 s7]) (.agg #[.slice p1 p2 p3, .slice p5 p6 p7]) _ _ _ _ 0 0 15 6 R_140w7 (QS_125.out.below R_140X7.out) (QX_120.out.below R_140X7.out) o158 o68 k C4.out).mono ?_)); rintro e R_140w8 ⟨rfl, hb⟩; have R_140X8l := Lib.hid hb; have R_140X8 := Lib.hid (below_next R_140X7.out hb); clear hb))
      all_goals
        clear ld_132 ld_133 ld_134 ld_135 ld_136 ld_137 ld_138 ld_139 KEPT_131
        have RA_141 := Lib.hid (RA_117.out.below R_140X8.out)
        have RB_142 := Lib.hid (RB_118.out.below R_140X8.out)
        have RK_143 := Lib.hid (RK_119.out.below R_140X8.out)
        have QX_144 := Lib.hid (QX_120.out.below R_140X8.out)
        have BX_145 := Lib.hid (BX_121.out.below R_140X8.out)
        have QY_146 := Lib.hid (QY_122.out.below R_140X8.out)
        have BY_147 := Lib.hid (BY_123.out.below R_140X8.out)
        have RC_148 := Lib.hid (RC_124.out.below R_140X8.out)
        have QS_149 := Lib.hid (QS_125.out.below R_140X8.out)
        have BS_150 := Lib.hid (BS_126.out.below R_140X8.out)
        have QY15_151 := Lib.hid (QY15_127.out.below R_140X8.out)
        have QD_152 := Lib.hid (QD_128.out.below R_140X8.out)
        have BD_153 := Lib.hid (BD_129.out.below R_140X8.out)
        have BEL_154 := Lib.hid (show Below w.heap.size w R_140w8 from below_next BEL_130.out R_140X8.out)
        clear RA_117 RB_118 RK_119 QX_120 BX_121 QY_122 BY_123 RC_124 QS_125 BS_126 QY15_127 QD_128 BD_129 BEL_130
        go_wp2
        go_ret
        exact ⟨rfl, BEL_154.out⟩
end Go.Proofs.Ytenibpnifnlfeaa
