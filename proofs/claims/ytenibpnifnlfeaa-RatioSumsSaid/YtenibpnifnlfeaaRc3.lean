/-
  RatioSums: the walk.
-/
import Derived.Test.YtenibpnifnlfeaaRp3
namespace Go.Proofs.Ytenibpnifnlfeaa
open Go.RowKit

set_option maxHeartbeats 8000000 in
set_option maxRecDepth 100000 in
theorem sums_core (a0 : Option Addr) (len0 cap0 : Nat) (ps0 : List (Int × Int)) (a1 : Option Addr) (len1 cap1 : Nat) (ps1 : List (Int × Int)) (w : World) (h0 : RowP w a0 len0 cap0 ps0) (h1 : RowP w a1 len1 cap1 ps1) :
    Calls Try.prog 3 #[.slice a0 len0 cap0, .slice a1 len1 cap1] w fun e w' => e = .returned (.bool true) ∧ Below w.heap.size w w' := by
  obtain ⟨ws, hws⟩ : ∃ ws, (ps0.take 8).map mkW = ws := ⟨_, rfl⟩
  obtain ⟨vs, hvs⟩ : ∃ vs, (ps1.take 8).map mkW = vs := ⟨_, rfl⟩
  have FW := Lib.hid (show (∀ p ∈ ws, FitW p) ∧ (∀ p ∈ ws, OkW p) ∧ ws.length ≤ 8 by rw [← hws]; exact ⟨fits_mk ps0, oks_mk ps0, take8_len ps0⟩)
  have FV := Lib.hid (show (∀ p ∈ vs, FitW p) ∧ (∀ p ∈ vs, OkW p) ∧ vs.length ≤ 8 by rw [← hvs]; exact ⟨fits_mk ps1, oks_mk ps1, take8_len ps1⟩)
  have BW := sum_lt8 (ws := ws) (by rw [← hws]; exact smalls_mk ps0) FW.out.2.2
  have BV := sum_lt8 (ws := vs) (by rw [← hvs]; exact smalls_mk ps1) FV.out.2.2
  have HWS := Lib.hid hws; have HVS := Lib.hid hvs
  obtain ⟨X1, hX1⟩ : ∃ x, (sumR ws).1 = x := ⟨_, rfl⟩
  obtain ⟨X2, hX2⟩ : ∃ x, (sumR ws).2 = x := ⟨_, rfl⟩
  obtain ⟨Y1, hY1⟩ : ∃ x, (sumR vs).1 = x := ⟨_, rfl⟩
  obtain ⟨Y2, hY2⟩ : ∃ x, (sumR vs).2 = x := ⟨_, rfl⟩
  rw [hX1, hX2] at BW
  rw [hY1, hY2] at BV
  have EX1 := Lib.hid hX1; have EX2 := Lib.hid hX2; have EY1 := Lib.hid hY1; have EY2 := Lib.hid hY2
  have BWH := Lib.hid BW; have BVH := Lib.hid BV
  have x20 := BW.2.2.1; have y20 := BV.2.2.1; have x10 := BW.1; have y10 := BV.1
  clear hws hvs hX1 hX2 hY1 hY2 BW BV
  have H0 := Lib.hid h0; have H1 := Lib.hid h1
  clear h0 h1
  go_enter Try.func3, Try.ntmps3
  go_wp2_with fail
  refine (qawake_any w).mono ?_
  rintro e w_1 ⟨rfl, hb⟩
  have H0_2 := Lib.hid (H0.out.below hb)
  have H1_3 := Lib.hid (H1.out.below hb)
  have BEL_4 := Lib.hid (show Below w.heap.size w w_1 from hb)
  clear H0 H1
  clear hb
  go_wp2_with fail
  refine (weights_any a0 len0 cap0 ps0 w_1 H0_2.out).mono ?_
  rintro e w_8 ⟨aw_5, lw_6, cw_7, rfl, hrow, hb, _⟩
  rw [HWS.out] at hrow
  have lw_6n := hrow.len
  have H0_9 := Lib.hid (H0_2.out.below hb)
  have H1_10 := Lib.hid (H1_3.out.below hb)
  have BEL_11 := Lib.hid (show Below w.heap.size w w_8 from below_next BEL_4.out hb)
  clear H0_2 H1_3 BEL_4
  have ROW_12 := Lib.hid (hrow)
  clear hb
  clear hrow
  go_wp2_with fail
  have lw_68 : lw_6 ≤ 8 := by rw [← lw_6n]; exact FW.out.2.2
  refine (qsum_any aw_5 lw_6 cw_7 ws w_8 ROW_12.out FW.out.1 (by omega)).mono ?_
  rintro e w_13 ⟨_, n1, d1, rfl, ⟨p1, p2, p3, p4, p5, p6, p7, p8, rfl, r1, i1, r2, i2, m1, m2, f1, f2⟩, hlo, heq, hb⟩
  rw [EX1.out, EX2.out] at heq
  have LEp := Lib.hid (lo_le hlo BWH.out.1 BWH.out.2.2.1 heq)
  have LOp := Lib.hid hlo; have EQp := Lib.hid heq
  have d10 : 0 < d1 := hlo.2.1
  have n10 : 0 ≤ n1 := hlo.1
  have H0_14 := Lib.hid (H0_9.out.below hb)
  have H1_15 := Lib.hid (H1_10.out.below hb)
  have ROW_16 := Lib.hid (ROW_12.out.below hb)
  have BEL_17 := Lib.hid (show Below w.heap.size w w_13 from below_next BEL_11.out hb)
  clear H0_9 H1_10 ROW_12 BEL_11
  have QA_18 := Lib.hid (Rat.shrink (L' := 6) (show Rat w_13 0 _ (.agg #[.slice p1 p2 p3, .slice p5 p6 p7]) n1 d1 from ⟨p1, p2, p3, p4, p5, p6, p7, p8, rfl, r1, i1, r2, i2, m1, m2, fresh0 _, fresh0 _⟩) (Int.lt_of_le_of_lt LEp.out.1 BWH.out.2.1) (Int.lt_of_le_of_lt LEp.out.2 BWH.out.2.2.2))
  clear hb
  clear r1 i1 r2 i2 m1 m2 f1 f2 hlo heq
  clear ROW_16
  clear lw_6n lw_68
  go_wp2_with fail
  obtain ⟨W_19, hW_19⟩ : ∃ W, w_13.alloc (Obj.cells #[Value.slice p1 p2 p3, Value.slice p5 p6 p7] 26) = W := ⟨_, rfl⟩
  obtain ⟨ga, hga⟩ : ∃ g, w_13.heap.size = g := ⟨_, rfl⟩
  have NB_20 := Lib.hid (show Below w_13.heap.size w_13 W_19 by rw [← hW_19]; exact below_box _ _)
  have BA_21 := Lib.hid (show Box W_19 26 ga (Value.slice p1 p2 p3) (Value.slice p5 p6 p7) by rw [← hW_19, ← hga]; exact Box.new _ _ _ _)
  rw [hW_19, hga]
  clear hW_19 hga
  have H0_22 := Lib.hid (H0_14.out.below NB_20.out)
  have H1_23 := Lib.hid (H1_15.out.below NB_20.out)
  have QA_24 := Lib.hid (QA_18.out.below NB_20.out)
  have BEL_25 := Lib.hid (show Below w.heap.size w W_19 from below_next BEL_17.out NB_20.out)
  clear H0_14 H1_15 QA_18 BEL_17
  clear NB_20
  -- second
  refine (weights_any a1 len1 cap1 ps1 W_19 H1_23.out).mono ?_
  rintro e w_29 ⟨aw_26, lw_27, cw_28, rfl, hrow, hb, _⟩
  rw [HVS.out] at hrow
  have lw_27n := hrow.len
  have H0_30 := Lib.hid (H0_22.out.below hb)
  have H1_31 := Lib.hid (H1_23.out.below hb)
  have QA_32 := Lib.hid (QA_24.out.below hb)
  have BA_33 := Lib.hid (BA_21.out.below hb)
  have BEL_34 := Lib.hid (show Below w.heap.size w w_29 from below_next BEL_25.out hb)
  clear H0_22 H1_23 QA_24 BA_21 BEL_25
  have ROW_35 := Lib.hid (hrow)
  clear hb
  clear hrow
  go_wp2_with fail
  have lw_278 : lw_27 ≤ 8 := by rw [← lw_27n]; exact FV.out.2.2
  refine (qsum_any aw_26 lw_27 cw_28 vs w_29 ROW_35.out FV.out.1 (by omega)).mono ?_
  rintro e w_36 ⟨_, n2, d2, rfl, ⟨q1, q2, q3, q4, q5, q6, q7, q8, rfl, r1, i1, r2, i2, m1, m2, f1, f2⟩, hlo, heq, hb⟩
  rw [EY1.out, EY2.out] at heq
  have LEq := Lib.hid (lo_le hlo BVH.out.1 BVH.out.2.2.1 heq)
  have LOq := Lib.hid hlo; have EQq := Lib.hid heq
  have d20 : 0 < d2 := hlo.2.1
  have n20 : 0 ≤ n2 := hlo.1
  have H0_37 := Lib.hid (H0_30.out.below hb)
  have H1_38 := Lib.hid (H1_31.out.below hb)
  have QA_39 := Lib.hid (QA_32.out.below hb)
  have BA_40 := Lib.hid (BA_33.out.below hb)
  have ROW_41 := Lib.hid (ROW_35.out.below hb)
  have BEL_42 := Lib.hid (show Below w.heap.size w w_36 from below_next BEL_34.out hb)
  clear H0_30 H1_31 QA_32 BA_33 ROW_35 BEL_34
  have QB_43 := Lib.hid (Rat.shrink (L' := 6) (show Rat w_36 0 _ (.agg #[.slice q1 q2 q3, .slice q5 q6 q7]) n2 d2 from ⟨q1, q2, q3, q4, q5, q6, q7, q8, rfl, r1, i1, r2, i2, m1, m2, fresh0 _, fresh0 _⟩) (Int.lt_of_le_of_lt LEq.out.1 BVH.out.2.1) (Int.lt_of_le_of_lt LEq.out.2 BVH.out.2.2.2))
  clear hb
  clear r1 i1 r2 i2 m1 m2 f1 f2 hlo heq
  clear ROW_41
  clear lw_27n lw_278
  go_wp2_with fail
  obtain ⟨W_44, hW_44⟩ : ∃ W, w_36.alloc (Obj.cells #[Value.slice q1 q2 q3, Value.slice q5 q6 q7] 26) = W := ⟨_, rfl⟩
  obtain ⟨gb, hgb⟩ : ∃ g, w_36.heap.size = g := ⟨_, rfl⟩
  have NB_45 := Lib.hid (show Below w_36.heap.size w_36 W_44 by rw [← hW_44]; exact below_box _ _)
  have BB_46 := Lib.hid (show Box W_44 26 gb (Value.slice q1 q2 q3) (Value.slice q5 q6 q7) by rw [← hW_44, ← hgb]; exact Box.new _ _ _ _)
  rw [hW_44, hgb]
  clear hW_44 hgb
  have H0_47 := Lib.hid (H0_37.out.below NB_45.out)
  have H1_48 := Lib.hid (H1_38.out.below NB_45.out)
  have QA_49 := Lib.hid (QA_39.out.below NB_45.out)
  have BA_50 := Lib.hid (BA_40.out.below NB_45.out)
  have QB_51 := Lib.hid (QB_43.out.below NB_45.out)
  have BEL_52 := Lib.hid (show Below w.heap.size w W_44 from below_next BEL_42.out NB_45.out)
  clear H0_37 H1_38 QA_39 BA_40 QB_43 BEL_42
  clear NB_45
  refine (weights_any a0 len0 cap0 ps0 W_44 H0_47.out).mono ?_
  rintro e w_56 ⟨aw_53, lw_54, cw_55, rfl, hrow, hb, _⟩
  rw [HWS.out] at hrow
  have lw_54n := hrow.len
  have H0_57 := Lib.hid (H0_47.out.below hb)
  have H1_58 := Lib.hid (H1_48.out.below hb)
  have QA_59 := Lib.hid (QA_49.out.below hb)
  have BA_60 := Lib.hid (BA_50.out.below hb)
  have QB_61 := Lib.hid (QB_51.out.below hb)
  have BB_62 := Lib.hid (BB_46.out.below hb)
  have BEL_63 := Lib.hid (show Below w.heap.size w w_56 from below_next BEL_52.out hb)
  clear H0_47 H1_48 QA_49 BA_50 QB_51 BB_46 BEL_52
  have ROW_64 := Lib.hid (hrow)
  clear hb
  clear hrow
  go_wp2_with fail
  have lw_548 : lw_54 ≤ 8 := by rw [← lw_54n]; exact FW.out.2.2
  refine (rsum_any aw_53 lw_54 cw_55 ws w_56 ROW_64.out FW.out.2.1 (by omega)).mono ?_
  rintro e w_65 ⟨_, rfl, ⟨x1, x2, x3, x4, x5, x6, x7, x8, rfl, r1, i1, r2, i2, m1, m2, f1, f2⟩, hb⟩
  rw [EX1.out] at i1
  rw [EX2.out] at i2
  have H0_66 := Lib.hid (H0_57.out.below hb)
  have H1_67 := Lib.hid (H1_58.out.below hb)
  have QA_68 := Lib.hid (QA_59.out.below hb)
  have BA_69 := Lib.hid (BA_60.out.below hb)
  have QB_70 := Lib.hid (QB_61.out.below hb)
  have BB_71 := Lib.hid (BB_62.out.below hb)
  have ROW_72 := Lib.hid (ROW_64.out.below hb)
  have BEL_73 := Lib.hid (show Below w.heap.size w w_65 from below_next BEL_63.out hb)
  clear H0_57 H1_58 QA_59 BA_60 QB_61 BB_62 ROW_64 BEL_63
  have QX_74 := Lib.hid (Rat.shrink (L' := 6) (show Rat w_65 0 _ (.agg #[.slice x1 x2 x3, .slice x5 x6 x7]) X1 X2 from ⟨x1, x2, x3, x4, x5, x6, x7, x8, rfl, r1, i1, r2, i2, m1, m2, fresh0 _, fresh0 _⟩) BWH.out.2.1 BWH.out.2.2.2)
  clear hb
  clear r1 i1 r2 i2 m1 m2 f1 f2
  clear ROW_72
  clear lw_54n lw_548
  go_wp2_with fail
  obtain ⟨W_75, hW_75⟩ : ∃ W, w_65.alloc (Obj.cells #[Value.slice x1 x2 x3, Value.slice x5 x6 x7] 26) = W := ⟨_, rfl⟩
  obtain ⟨gx, hgx⟩ : ∃ g, w_65.heap.size = g := ⟨_, rfl⟩
  have NB_76 := Lib.hid (show Below w_65.heap.size w_65 W_75 by rw [← hW_75]; exact below_box _ _)
  have BX_77 := Lib.hid (show Box W_75 26 gx (Value.slice x1 x2 x3) (Value.slice x5 x6 x7) by rw [← hW_75, ← hgx]; exact Box.new _ _ _ _)
  rw [hW_75, hgx]
  clear hW_75 hgx
  have H0_78 := Lib.hid (H0_66.out.below NB_76.out)
  have H1_79 := Lib.hid (H1_67.out.below NB_76.out)
  have QA_80 := Lib.hid (QA_68.out.below NB_76.out)
  have BA_81 := Lib.hid (BA_69.out.below NB_76.out)
  have QB_82 := Lib.hid (QB_70.out.below NB_76.out)
  have BB_83 := Lib.hid (BB_71.out.below NB_76.out)
  have QX_84 := Lib.hid (QX_74.out.below NB_76.out)
  have BEL_85 := Lib.hid (show Below w.heap.size w W_75 from below_next BEL_73.out NB_76.out)
  clear H0_66 H1_67 QA_68 BA_69 QB_70 BB_71 QX_74 BEL_73
  clear NB_76
  refine (weights_any a1 len1 cap1 ps1 W_75 H1_79.out).mono ?_
  rintro e w_89 ⟨aw_86, lw_87, cw_88, rfl, hrow, hb, _⟩
  rw [HVS.out] at hrow
  have lw_87n := hrow.len
  have H0_90 := Lib.hid (H0_78.out.below hb)
  have H1_91 := Lib.hid (H1_79.out.below hb)
  have QA_92 := Lib.hid (QA_80.out.below hb)
  have BA_93 := Lib.hid (BA_81.out.below hb)
  have QB_94 := Lib.hid (QB_82.out.below hb)
  have BB_95 := Lib.hid (BB_83.out.below hb)
  have QX_96 := Lib.hid (QX_84.out.below hb)
  have BX_97 := Lib.hid (BX_77.out.below hb)
  have BEL_98 := Lib.hid (show Below w.heap.size w w_89 from below_next BEL_85.out hb)
  clear H0_78 H1_79 QA_80 BA_81 QB_82 BB_83 QX_84 BX_77 BEL_85
  have ROW_99 := Lib.hid (hrow)
  clear hb
  clear hrow
  go_wp2_with fail
  have lw_878 : lw_87 ≤ 8 := by rw [← lw_87n]; exact FV.out.2.2
  refine (rsum_any aw_86 lw_87 cw_88 vs w_89 ROW_99.out FV.out.2.1 (by omega)).mono ?_
  rintro e w_100 ⟨_, rfl, ⟨y1, y2, y3, y4, y5, y6, y7, y8, rfl, r1, i1, r2, i2, m1, m2, f1, f2⟩, hb⟩
  rw [EY1.out] at i1
  rw [EY2.out] at i2
  have H0_101 := Lib.hid (H0_90.out.below hb)
  have H1_102 := Lib.hid (H1_91.out.below hb)
  have QA_103 := Lib.hid (QA_92.out.below hb)
  have BA_104 := Lib.hid (BA_93.out.below hb)
  have QB_105 := Lib.hid (QB_94.out.below hb)
  have BB_106 := Lib.hid (BB_95.out.below hb)
  have QX_107 := Lib.hid (QX_96.out.below hb)
  have BX_108 := Lib.hid (BX_97.out.below hb)
  have ROW_109 := Lib.hid (ROW_99.out.below hb)
  have BEL_110 := Lib.hid (show Below w.heap.size w w_100 from below_next BEL_98.out hb)
  clear H0_90 H1_91 QA_92 BA_93 QB_94 BB_95 QX_96 BX_97 ROW_99 BEL_98
  have QY_111 := Lib.hid (Rat.shrink (L' := 6) (show Rat w_100 0 _ (.agg #[.slice y1 y2 y3, .slice y5 y6 y7]) Y1 Y2 from ⟨y1, y2, y3, y4, y5, y6, y7, y8, rfl, r1, i1, r2, i2, m1, m2, fresh0 _, fresh0 _⟩) BVH.out.2.1 BVH.out.2.2.2)
  clear hb
  clear r1 i1 r2 i2 m1 m2 f1 f2
  clear ROW_109
  clear lw_87n lw_878
  clear H0_101
  clear H1_102
  have C1 := Lib.hid (show cmpI (n1 * X2) (X1 * d1) = 0 from cmpI_eq EQp.out)
  have C2 := Lib.hid (show cmpI (n2 * Y2) (Y1 * d2) = 0 from cmpI_eq EQq.out)
  obtain ⟨k, hk⟩ : ∃ k, cmpI (X1 * Y2) (Y1 * X2) = k := ⟨_, rfl⟩
  have C3 := Lib.hid hk
  have C4 := Lib.hid (show cmpI (n1 * d2) (n2 * d1) = k by rw [cmp_frac d10 d20 x20 y20 EQp.out EQq.out]; exact hk)
  have kbd := cmpI_bd (X1 * Y2) (Y1 * X2)
  rw [hk] at kbd
  clear hk
  have o12 : 6 + 6 ≤ 50 := by decide
  have o68 : 6 ≤ 800 := by decide
  go_wp2
  obtain ⟨W_112, hW_112⟩ : ∃ W, w_100.alloc (Obj.cells #[Value.slice y1 y2 y3, Value.slice y5 y6 y7] 26) = W := ⟨_, rfl⟩
  obtain ⟨gy, hgy⟩ : ∃ g, w_100.heap.size = g := ⟨_, rfl⟩
  have NB_113 := Lib.hid (show Below w_100.heap.size w_100 W_112 by rw [← hW_112]; exact below_box _ _)
  have BY_114 := Lib.hid (show Box W_112 26 gy (Value.slice y1 y2 y3) (Value.slice y5 y6 y7) by rw [← hW_112, ← hgy]; exact Box.new _ _ _ _)
  rw [hW_112, hgy]
  clear hW_112 hgy
  have QA_115 := Lib.hid (QA_103.out.below NB_113.out)
  have BA_116 := Lib.hid (BA_104.out.below NB_113.out)
  have QB_117 := Lib.hid (QB_105.out.below NB_113.out)
  have BB_118 := Lib.hid (BB_106.out.below NB_113.out)
  have QX_119 := Lib.hid (QX_107.out.below NB_113.out)
  have BX_120 := Lib.hid (BX_108.out.below NB_113.out)
  have QY_121 := Lib.hid (QY_111.out.below NB_113.out)
  have BEL_122 := Lib.hid (show Below w.heap.size w W_112 from below_next BEL_110.out NB_113.out)
  clear QA_103 BA_104 QB_105 BB_106 QX_107 BX_108 QY_111 BEL_110
  clear NB_113
  have QA_123 := Lib.hid (QA_115.out.drew)
  have BA_124 := Lib.hid (BA_116.out.drew)
  have QB_125 := Lib.hid (QB_117.out.drew)
  have BB_126 := Lib.hid (BB_118.out.drew)
  have QX_127 := Lib.hid (QX_119.out.drew)
  have BX_128 := Lib.hid (BX_120.out.drew)
  have QY_129 := Lib.hid (QY_121.out.drew)
  have BY_130 := Lib.hid (BY_114.out.drew)
  have BEL_131 := Lib.hid (show Below w.heap.size w W_112.drew from BEL_122.out.drew)
  clear QA_115 BA_116 QB_117 BB_118 QX_119 BX_120 QY_121 BY_114 BEL_122
  have KEPT_132 := Lib.hid (show ∀ w', Below W_112.drew.heap.size W_112.drew w' → (w'.cell? ⟨ga, 0, none⟩ = some (Value.slice p1 p2 p3) ∧ w'.cell? ⟨ga, 1, none⟩ = some (Value.slice p5 p6 p7) ∧ w'.cell? ⟨gb, 0, none⟩ = some (Value.slice q1 q2 q3) ∧ w'.cell? ⟨gb, 1, none⟩ = some (Value.slice q5 q6 q7) ∧ w'.cell? ⟨gx, 0, none⟩ = some (Value.slice x1 x2 x3) ∧ w'.cell? ⟨gx, 1, none⟩ = some (Value.slice x5 x6 x7) ∧ w'.cell? ⟨gy, 0, none⟩ = some (Value.slice y1 y2 y3) ∧ w'.cell? ⟨gy, 1, none⟩ = some (Value.slice y5 y6 y7)) from fun w' h => ⟨(BA_124.out.below h).c0, (BA_124.out.below h).c1, (BB_126.out.below h).c0, (BB_126.out.below h).c1, (BX_128.out.below h).c0, (BX_128.out.below h).c1, (BY_130.out.below h).c0, (BY_130.out.below h).c1⟩)
  have ld_133 := BA_124.out.c0
  have ld_134 := BA_124.out.c1
  have ld_135 := BB_126.out.c0
  have ld_136 := BB_126.out.c1
  have ld_137 := BX_128.out.c0
  have ld_138 := BX_128.out.c1
  have ld_139 := BY_130.out.c0
  have ld_140 := BY_130.out.c1
  go_region_held3 (fun w' => w'.cell? ⟨ga, 0, none⟩ = some (Value.slice p1 p2 p3) ∧ w'.cell? ⟨ga, 1, none⟩ = some (Value.slice p5 p6 p7) ∧ w'.cell? ⟨gb, 0, none⟩ = some (Value.slice q1 q2 q3) ∧ w'.cell? ⟨gb, 1, none⟩ = some (Value.slice q5 q6 q7) ∧ w'.cell? ⟨gx, 0, none⟩ = some (Value.slice x1 x2 x3) ∧ w'.cell? ⟨gx, 1, none⟩ = some (Value.slice x5 x6 x7) ∧ w'.cell? ⟨gy, 0, none⟩ = some (Value.slice y1 y2 y3) ∧ w'.cell? ⟨gy, 1, none⟩ = some (Value.slice y5 y6 y7))
    (first | exact KEPT_132.out _ (Below.refl _ _) | exact KEPT_132.out _ R_141X1.out | exact KEPT_132.out _ R_141X2.out | exact KEPT_132.out _ R_141X3.out | exact KEPT_132.out _ R_141X4.out | exact KEPT_132.out _ R_141X5.out | exact KEPT_132.out _ R_141X6.out)
    (first
      | (go_at_call 13; ((with_reducible refine (qcheck_yes (.agg #[.slice p1 p2 p3, .slice p5 p6 p7]) n1 d1 6 0 W_112.drew QA_123.out d10).mono ?_)); rintro e R_141w1 ⟨rfl, hb⟩; have R_141X1l := Lib.hid hb; have R_141X1 := Lib.hid (hb); clear hb)
      | (go_at_call 13; ((with_reducible refine (qcheck_yes (.agg #[.slice q1 q2 q3, .slice q5 q6 q7]) n2 d2 6 0 R_141w1 (QB_125.out.below R_141X1.out) d20).mono ?_)); rintro e R_141w2 ⟨rfl, hb⟩; have R_141X2l := Lib.hid hb; have R_141X2 := Lib.hid (below_next R_141X1.out hb); clear hb)
      | (go_at_call 14; ((with_reducible refine (rcmp_any (.agg #[.slice p1 p2 p3, .slice p5 p6 p7]) (.agg #[.slice x1 x2 x3, .slice x5 x6 x7]) n1 d1 X1 X2 0 0 6 6 R_141w2 (QA_123.out.below R_141X2.out) (QX_127.out.below R_141X2.out) o12).mono ?_)); rintro e R_141w3 ⟨rfl, hb⟩; rw [C1.out]; have R_141X3l := Lib.hid hb; have R_141X3 := Lib.hid (below_next R_141X2.out hb); clear hb)
      | (go_at_call 14; ((with_reducible refine (rcmp_any (.agg #[.slice q1 q2 q3, .slice q5 q6 q7]) (.agg #[.slice y1 y2 y3, .slice y5 y6 y7]) n2 d2 Y1 Y2 0 0 6 6 R_141w3 (QB_125.out.below R_141X3.out) (QY_129.out.below R_141X3.out) o12).mono ?_)); rintro e R_141w4 ⟨rfl, hb⟩; rw [C2.out]; have R_141X4l := Lib.hid hb; have R_141X4 := Lib.hid (below_next R_141X3.out hb); clear hb)
      | (go_at_call 15; ((with_reducible refine (qcmp_any (.agg #[.slice p1 p2 p3, .slice p5 p6 p7]) (.agg #[.slice q1 q2 q3, .slice q5 q6 q7]) n1 d1 n2 d2 0 0 6 6 R_141w4 (QA_123.out.below R_141X4.out) (QB_125.out.below R_141X4.out) o68 o68 k C4.out).mono ?_)); rintro e R_141w5 ⟨rfl, hb⟩; have R_141X5l := Lib.hid hb; have R_141X5 := Lib.hid (below_next R_141X4.out hb); clear hb)
      | (go_at_call 14; ((with_reducible refine (rcmp_any (.agg #[.slice x1 x2 x3, .slice x5 x6 x7]) (.agg #[.slice y1 y2 y3, .slice y5 y6 y7]) X1 X2 Y1 Y2 0 0 6 6 R_141w5 (QX_127.out.below R_141X5.out) (QY_129.out.below R_141X5.out) o12).mono ?_)); rintro e R_141w6 ⟨rfl, hb⟩; rw [C3.out]; have R_141X6l := Lib.hid hb; have R_141X6 := Lib.hid (below_next R_141X5.out hb); clear hb))
  all_goals
    clear ld_133 ld_134 ld_135 ld_136 ld_137 ld_138 ld_139 ld_140 KEPT_132
    have QA_142 := Lib.hid (QA_123.out.below R_141X6.out)
    have BA_143 := Lib.hid (BA_124.out.below R_141X6.out)
    have QB_144 := Lib.hid (QB_125.out.below R_141X6.out)
    have BB_145 := Lib.hid (BB_126.out.below R_141X6.out)
    have QX_146 := Lib.hid (QX_127.out.below R_141X6.out)
    have BX_147 := Lib.hid (BX_128.out.below R_141X6.out)
    have QY_148 := Lib.hid (QY_129.out.below R_141X6.out)
    have BY_149 := Lib.hid (BY_130.out.below R_141X6.out)
    have BEL_150 := Lib.hid (show Below w.heap.size w R_141w6 from below_next BEL_131.out R_141X6.out)
    clear QA_123 BA_124 QB_125 BB_126 QX_127 BX_128 QY_129 BY_130 BEL_131
    have ld_151 := BA_143.out.c0
    have ld_152 := BA_143.out.c1
    have lt_153 := lt_of_block BA_143.out
    have ne_154 := Nat.ne_of_lt lt_153
    have ld_155 := BB_145.out.c0
    have ld_156 := BB_145.out.c1
    have lt_157 := lt_of_block BB_145.out
    have ne_158 := Nat.ne_of_lt lt_157
    go_wp2_with fail
    clear ld_151 ld_152 lt_153 ne_154 ld_155 ld_156 lt_157 ne_158
    refine (qadd_any (.agg #[.slice p1 p2 p3, .slice p5 p6 p7]) (.agg #[.slice q1 q2 q3, .slice q5 q6 q7]) n1 d1 n2 d2 0 0 6 R_141w6 QA_142.out QB_144.out d10 d20 n10 n20 (by decide)).mono ?_
    rintro e w_159 ⟨_, n3, d3, rfl, ⟨s1, s2, s3, s4, s5, s6, s7, s8, rfl, r1, i1, r2, i2, m1, m2, f1, f2⟩, hlo, heq, hb⟩
    have d30 : 0 < d3 := hlo.2.1
    have EQs := Lib.hid (frac_add d10 d20 EQp.out EQq.out heq)
    have QA_160 := Lib.hid (QA_142.out.below hb)
    have BA_161 := Lib.hid (BA_143.out.below hb)
    have QB_162 := Lib.hid (QB_144.out.below hb)
    have BB_163 := Lib.hid (BB_145.out.below hb)
    have QX_164 := Lib.hid (QX_146.out.below hb)
    have BX_165 := Lib.hid (BX_147.out.below hb)
    have QY_166 := Lib.hid (QY_148.out.below hb)
    have BY_167 := Lib.hid (BY_149.out.below hb)
    have BEL_168 := Lib.hid (show Below w.heap.size w w_159 from below_next BEL_150.out hb)
    clear QA_142 BA_143 QB_144 BB_145 QX_146 BX_147 QY_148 BY_149 BEL_150
    have QS_169 := Lib.hid (show Rat w_159 0 15 (.agg #[.slice s1 s2 s3, .slice s5 s6 s7]) n3 d3 from ⟨s1, s2, s3, s4, s5, s6, s7, s8, rfl, r1, i1, r2, i2, m1, m2, fresh0 _, fresh0 _⟩)
    clear hb
    clear r1 i1 r2 i2 m1 m2 f1 f2 hlo heq
    have ld_170 := BA_161.out.c0
    have ld_171 := BA_161.out.c1
    have lt_172 := lt_of_block BA_161.out
    have ne_173 := Nat.ne_of_lt lt_172
    have ld_174 := BB_163.out.c0
    have ld_175 := BB_163.out.c1
    have lt_176 := lt_of_block BB_163.out
    have ne_177 := Nat.ne_of_lt lt_176
    go_wp2_with fail
    clear ld_170 ld_171 lt_172 ne_173 ld_174 ld_175 lt_176 ne_177
    obtain ⟨W_178, hW_178⟩ : ∃ W, w_159.alloc (Obj.cells #[Value.slice s1 s2 s3, Value.slice s5 s6 s7] 26) = W := ⟨_, rfl⟩
    obtain ⟨gs, hgs⟩ : ∃ g, w_159.heap.size = g := ⟨_, rfl⟩
    have NB_179 := Lib.hid (show Below w_159.heap.size w_159 W_178 by rw [← hW_178]; exact below_box _ _)
    have BS_180 := Lib.hid (show Box W_178 26 gs (Value.slice s1 s2 s3) (Value.slice s5 s6 s7) by rw [← hW_178, ← hgs]; exact Box.new _ _ _ _)
    rw [hW_178, hgs]
    clear hW_178 hgs
    have QA_181 := Lib.hid (QA_160.out.below NB_179.out)
    have BA_182 := Lib.hid (BA_161.out.below NB_179.out)
    have QB_183 := Lib.hid (QB_162.out.below NB_179.out)
    have BB_184 := Lib.hid (BB_163.out.below NB_179.out)
    have QX_185 := Lib.hid (QX_164.out.below NB_179.out)
    have BX_186 := Lib.hid (BX_165.out.below NB_179.out)
    have QY_187 := Lib.hid (QY_166.out.below NB_179.out)
    have BY_188 := Lib.hid (BY_167.out.below NB_179.out)
    have QS_189 := Lib.hid (QS_169.out.below NB_179.out)
    have BEL_190 := Lib.hid (show Below w.heap.size w W_178 from below_next BEL_168.out NB_179.out)
    clear QA_160 BA_161 QB_162 BB_163 QX_164 BX_165 QY_166 BY_167 QS_169 BEL_168
    clear NB_179
    refine (qsub_any (.agg #[.slice p1 p2 p3, .slice p5 p6 p7]) (.agg #[.slice q1 q2 q3, .slice q5 q6 q7]) n1 d1 n2 d2 0 0 6 W_178 QA_181.out QB_183.out d10 d20 n10 n20 (by decide)).mono ?_
    rintro e w_191 ⟨vd, er, rfl, hb, hcase⟩
    have QA_192 := Lib.hid (QA_181.out.below hb)
    have BA_193 := Lib.hid (BA_182.out.below hb)
    have QB_194 := Lib.hid (QB_183.out.below hb)
    have BB_195 := Lib.hid (BB_184.out.below hb)
    have QX_196 := Lib.hid (QX_185.out.below hb)
    have BX_197 := Lib.hid (BX_186.out.below hb)
    have QY_198 := Lib.hid (QY_187.out.below hb)
    have BY_199 := Lib.hid (BY_188.out.below hb)
    have QS_200 := Lib.hid (QS_189.out.below hb)
    have BS_201 := Lib.hid (BS_180.out.below hb)
    have BEL_202 := Lib.hid (show Below w.heap.size w w_191 from below_next BEL_190.out hb)
    clear QA_181 BA_182 QB_183 BB_184 QX_185 BX_186 QY_187 BY_188 QS_189 BS_180 BEL_190
    have HC := Lib.hid hcase
    clear hb hcase
    have o19 : 15 + (6 + 6 + 1) ≤ 50 := by decide
    have C5 := Lib.hid (show cmpI (n3 * (X2 * Y2)) ((X1 * Y2 + Y1 * X2) * d3) = 0 from cmpI_eq EQs.out)
    rcases HC.out with hway | hway
    · clear HC
      obtain ⟨hlt, rfl, rfl⟩ := hway
      have kn : k = -1 := by
        have h := cmp_frac d10 d20 x20 y20 EQp.out EQq.out
        rw [C3.out, cmpI_lt hlt] at h
        exact h.symm
      subst kn
      clear hlt
      go_wp2
      obtain ⟨W_203, hW_203⟩ : ∃ W, w_191.alloc (Obj.cells #[Value.slice none 0 0, Value.slice none 0 0] 26) = W := ⟨_, rfl⟩
      obtain ⟨gd, hgd⟩ : ∃ g, w_191.heap.size = g := ⟨_, rfl⟩
      have NB_204 := Lib.hid (show Below w_191.heap.size w_191 W_203 by rw [← hW_203]; exact below_box _ _)
      have BD_205 := Lib.hid (show Box W_203 26 gd (Value.slice none 0 0) (Value.slice none 0 0) by rw [← hW_203, ← hgd]; exact Box.new _ _ _ _)
      rw [hW_203, hgd]
      clear hW_203 hgd
      have QA_206 := Lib.hid (QA_192.out.below NB_204.out)
      have BA_207 := Lib.hid (BA_193.out.below NB_204.out)
      have QB_208 := Lib.hid (QB_194.out.below NB_204.out)
      have BB_209 := Lib.hid (BB_195.out.below NB_204.out)
      have QX_210 := Lib.hid (QX_196.out.below NB_204.out)
      have BX_211 := Lib.hid (BX_197.out.below NB_204.out)
      have QY_212 := Lib.hid (QY_198.out.below NB_204.out)
      have BY_213 := Lib.hid (BY_199.out.below NB_204.out)
      have QS_214 := Lib.hid (QS_200.out.below NB_204.out)
      have BS_215 := Lib.hid (BS_201.out.below NB_204.out)
      have BEL_216 := Lib.hid (show Below w.heap.size w W_203 from below_next BEL_202.out NB_204.out)
      clear QA_192 BA_193 QB_194 BB_195 QX_196 BX_197 QY_198 BY_199 QS_200 BS_201 BEL_202
      clear NB_204
      have QA_217 := Lib.hid (QA_206.out.drew)
      have BA_218 := Lib.hid (BA_207.out.drew)
      have QB_219 := Lib.hid (QB_208.out.drew)
      have BB_220 := Lib.hid (BB_209.out.drew)
      have QX_221 := Lib.hid (QX_210.out.drew)
      have BX_222 := Lib.hid (BX_211.out.drew)
      have QY_223 := Lib.hid (QY_212.out.drew)
      have BY_224 := Lib.hid (BY_213.out.drew)
      have QS_225 := Lib.hid (QS_214.out.drew)
      have BS_226 := Lib.hid (BS_215.out.drew)
      have BD_227 := Lib.hid (BD_205.out.drew)
      have BEL_228 := Lib.hid (show Below w.heap.size w W_203.drew from BEL_216.out.drew)
      clear QA_206 BA_207 QB_208 BB_209 QX_210 BX_211 QY_212 BY_213 QS_214 BS_215 BD_205 BEL_216
      have KEPT_229 := Lib.hid (show ∀ w', Below W_203.drew.heap.size W_203.drew w' → (w'.cell? ⟨gs, 0, none⟩ = some (Value.slice s1 s2 s3) ∧ w'.cell? ⟨gs, 1, none⟩ = some (Value.slice s5 s6 s7) ∧ w'.cell? ⟨gx, 0, none⟩ = some (Value.slice x1 x2 x3) ∧ w'.cell? ⟨gx, 1, none⟩ = some (Value.slice x5 x6 x7) ∧ w'.cell? ⟨gy, 0, none⟩ = some (Value.slice y1 y2 y3) ∧ w'.cell? ⟨gy, 1, none⟩ = some (Value.slice y5 y6 y7)) from fun w' h => ⟨(BS_226.out.below h).c0, (BS_226.out.below h).c1, (BX_222.out.below h).c0, (BX_222.out.below h).c1, (BY_224.out.below h).c0, (BY_224.out.below h).c1⟩)
      have ld_230 := BS_226.out.c0
      have ld_231 := BS_226.out.c1
      have ld_232 := BX_222.out.c0
      have ld_233 := BX_222.out.c1
      have ld_234 := BY_224.out.c0
      have ld_235 := BY_224.out.c1
      go_region_held3 (fun w' => w'.cell? ⟨gs, 0, none⟩ = some (Value.slice s1 s2 s3) ∧ w'.cell? ⟨gs, 1, none⟩ = some (Value.slice s5 s6 s7) ∧ w'.cell? ⟨gx, 0, none⟩ = some (Value.slice x1 x2 x3) ∧ w'.cell? ⟨gx, 1, none⟩ = some (Value.slice x5 x6 x7) ∧ w'.cell? ⟨gy, 0, none⟩ = some (Value.slice y1 y2 y3) ∧ w'.cell? ⟨gy, 1, none⟩ = some (Value.slice y5 y6 y7))
        (first | exact KEPT_229.out _ (Below.refl _ _) | exact KEPT_229.out _ R_236X1.out | exact KEPT_229.out _ R_236X2.out)
        (first
          | (go_at_call 18; ((with_reducible refine (rplus_any (.agg #[.slice x1 x2 x3, .slice x5 x6 x7]) (.agg #[.slice y1 y2 y3, .slice y5 y6 y7]) X1 X2 Y1 Y2 0 0 6 6 W_203.drew QX_221.out QY_223.out o12).mono ?_)); rintro e R_236w1 ⟨vp, rfl, hrp, hb⟩; have RPH := Lib.hid hrp; clear hrp; have R_236X1l := Lib.hid hb; have R_236X1 := Lib.hid (hb); clear hb)
          | (go_at_call 14; ((with_reducible refine (rcmp_any (.agg #[.slice s1 s2 s3, .slice s5 s6 s7]) vp n3 d3 (X1 * Y2 + Y1 * X2) (X2 * Y2) 0 _ 15 (6 + 6 + 1) R_236w1 (QS_225.out.below R_236X1.out) RPH.out o19).mono ?_)); rintro e R_236w2 ⟨rfl, hb⟩; rw [C5.out]; have R_236X2l := Lib.hid hb; have R_236X2 := Lib.hid (below_next R_236X1.out hb); clear hb))
      all_goals
        clear ld_230 ld_231 ld_232 ld_233 ld_234 ld_235 KEPT_229
        have QA_237 := Lib.hid (QA_217.out.below R_236X2.out)
        have BA_238 := Lib.hid (BA_218.out.below R_236X2.out)
        have QB_239 := Lib.hid (QB_219.out.below R_236X2.out)
        have BB_240 := Lib.hid (BB_220.out.below R_236X2.out)
        have QX_241 := Lib.hid (QX_221.out.below R_236X2.out)
        have BX_242 := Lib.hid (BX_222.out.below R_236X2.out)
        have QY_243 := Lib.hid (QY_223.out.below R_236X2.out)
        have BY_244 := Lib.hid (BY_224.out.below R_236X2.out)
        have QS_245 := Lib.hid (QS_225.out.below R_236X2.out)
        have BS_246 := Lib.hid (BS_226.out.below R_236X2.out)
        have BD_247 := Lib.hid (BD_227.out.below R_236X2.out)
        have BEL_248 := Lib.hid (show Below w.heap.size w R_236w2 from below_next BEL_228.out R_236X2.out)
        clear QA_217 BA_218 QB_219 BB_220 QX_221 BX_222 QY_223 BY_224 QS_225 BS_226 BD_227 BEL_228
        have ld_249 := BX_242.out.c0
        have ld_250 := BX_242.out.c1
        have lt_251 := lt_of_block BX_242.out
        have ne_252 := Nat.ne_of_lt lt_251
        have ld_253 := BY_244.out.c0
        have ld_254 := BY_244.out.c1
        have lt_255 := lt_of_block BY_244.out
        have ne_256 := Nat.ne_of_lt lt_255
        go_wp2_with fail
        clear ld_249 ld_250 lt_251 ne_252 ld_253 ld_254 lt_255 ne_256
        refine (rcmp_any (.agg #[.slice x1 x2 x3, .slice x5 x6 x7]) (.agg #[.slice y1 y2 y3, .slice y5 y6 y7]) X1 X2 Y1 Y2 0 0 6 6 R_236w2 QX_241.out QY_243.out o12).mono ?_
        rintro e w_257 ⟨rfl, hb⟩
        rw [C3.out]
        have QA_258 := Lib.hid (QA_237.out.below hb)
        have BA_259 := Lib.hid (BA_238.out.below hb)
        have QB_260 := Lib.hid (QB_239.out.below hb)
        have BB_261 := Lib.hid (BB_240.out.below hb)
        have QX_262 := Lib.hid (QX_241.out.below hb)
        have BX_263 := Lib.hid (BX_242.out.below hb)
        have QY_264 := Lib.hid (QY_243.out.below hb)
        have BY_265 := Lib.hid (BY_244.out.below hb)
        have QS_266 := Lib.hid (QS_245.out.below hb)
        have BS_267 := Lib.hid (BS_246.out.below hb)
        have BD_268 := Lib.hid (BD_247.out.below hb)
        have BEL_269 := Lib.hid (show Below w.heap.size w w_257 from below_next BEL_248.out hb)
        clear QA_237 BA_238 QB_239 BB_240 QX_241 BX_242 QY_243 BY_244 QS_245 BS_246 BD_247 BEL_248
        clear hb
        go_wp2
        go_ret
        exact ⟨rfl, BEL_269.out⟩
    · clear HC
      obtain ⟨hge, rfl, n4, d4, hrd, hlo, heq⟩ := hway
      have k0 : 0 ≤ k := by
        have h := cmp_frac d10 d20 x20 y20 EQp.out EQq.out
        rw [C3.out] at h
        rw [← h]
        rcases Int.lt_or_eq_of_le hge with g | g
        · rw [cmpI_gt g]; omega
        · rw [cmpI_eq g.symm]; omega
      have kb : decide (k < 0) = false := by simp; omega
      have d40 : 0 < d4 := hlo.2.1
      have ES := Lib.hid (frac_sub d10 d20 (show n1 * X2 = X1 * d1 from EQp.out) (show n2 * Y2 = Y1 * d2 from EQq.out) heq)
      have C6 := Lib.hid (show cmpI ((n4 * Y2 + Y1 * d4) * X2) (X1 * (d4 * Y2)) = 0 from cmpI_eq (by have := ES.out; grind))
      obtain ⟨e1, e2, e3, e4, e5, e6, e7, e8, rfl, r1, i1, r2, i2, m1, m2, f1, f2⟩ := hrd
      have QD_703 := Lib.hid (show Rat w_191 0 12 (.agg #[.slice e1 e2 e3, .slice e5 e6 e7]) n4 d4 from ⟨e1, e2, e3, e4, e5, e6, e7, e8, rfl, r1, i1, r2, i2, m1, m2, fresh0 _, fresh0 _⟩)
      clear r1 i1 r2 i2 m1 m2 f1 f2 hlo heq hge
      have o18 : 12 + 6 ≤ 50 := by decide
      have o25 : 12 + 6 + 1 + 6 ≤ 50 := by decide
      go_wp2
      obtain ⟨W_704, hW_704⟩ : ∃ W, w_191.alloc (Obj.cells #[Value.slice e1 e2 e3, Value.slice e5 e6 e7] 26) = W := ⟨_, rfl⟩
      obtain ⟨gd, hgd⟩ : ∃ g, w_191.heap.size = g := ⟨_, rfl⟩
      have NB_705 := Lib.hid (show Below w_191.heap.size w_191 W_704 by rw [← hW_704]; exact below_box _ _)
      have BD_706 := Lib.hid (show Box W_704 26 gd (Value.slice e1 e2 e3) (Value.slice e5 e6 e7) by rw [← hW_704, ← hgd]; exact Box.new _ _ _ _)
      rw [hW_704, hgd]
      clear hW_704 hgd
      have QA_707 := Lib.hid (QA_192.out.below NB_705.out)
      have BA_708 := Lib.hid (BA_193.out.below NB_705.out)
      have QB_709 := Lib.hid (QB_194.out.below NB_705.out)
      have BB_710 := Lib.hid (BB_195.out.below NB_705.out)
      have QX_711 := Lib.hid (QX_196.out.below NB_705.out)
      have BX_712 := Lib.hid (BX_197.out.below NB_705.out)
      have QY_713 := Lib.hid (QY_198.out.below NB_705.out)
      have BY_714 := Lib.hid (BY_199.out.below NB_705.out)
      have QS_715 := Lib.hid (QS_200.out.below NB_705.out)
      have BS_716 := Lib.hid (BS_201.out.below NB_705.out)
      have QD_717 := Lib.hid (QD_703.out.below NB_705.out)
      have BEL_718 := Lib.hid (show Below w.heap.size w W_704 from below_next BEL_202.out NB_705.out)
      clear QA_192 BA_193 QB_194 BB_195 QX_196 BX_197 QY_198 BY_199 QS_200 BS_201 QD_703 BEL_202
      clear NB_705
      have QA_719 := Lib.hid (QA_707.out.drew)
      have BA_720 := Lib.hid (BA_708.out.drew)
      have QB_721 := Lib.hid (QB_709.out.drew)
      have BB_722 := Lib.hid (BB_710.out.drew)
      have QX_723 := Lib.hid (QX_711.out.drew)
      have BX_724 := Lib.hid (BX_712.out.drew)
      have QY_725 := Lib.hid (QY_713.out.drew)
      have BY_726 := Lib.hid (BY_714.out.drew)
      have QS_727 := Lib.hid (QS_715.out.drew)
      have BS_728 := Lib.hid (BS_716.out.drew)
      have QD_729 := Lib.hid (QD_717.out.drew)
      have BD_730 := Lib.hid (BD_706.out.drew)
      have BEL_731 := Lib.hid (show Below w.heap.size w W_704.drew from BEL_718.out.drew)
      clear QA_707 BA_708 QB_709 BB_710 QX_711 BX_712 QY_713 BY_714 QS_715 BS_716 QD_717 BD_706 BEL_718
      have KEPT_732 := Lib.hid (show ∀ w', Below W_704.drew.heap.size W_704.drew w' → (w'.cell? ⟨gs, 0, none⟩ = some (Value.slice s1 s2 s3) ∧ w'.cell? ⟨gs, 1, none⟩ = some (Value.slice s5 s6 s7) ∧ w'.cell? ⟨gx, 0, none⟩ = some (Value.slice x1 x2 x3) ∧ w'.cell? ⟨gx, 1, none⟩ = some (Value.slice x5 x6 x7) ∧ w'.cell? ⟨gy, 0, none⟩ = some (Value.slice y1 y2 y3) ∧ w'.cell? ⟨gy, 1, none⟩ = some (Value.slice y5 y6 y7)) from fun w' h => ⟨(BS_728.out.below h).c0, (BS_728.out.below h).c1, (BX_724.out.below h).c0, (BX_724.out.below h).c1, (BY_726.out.below h).c0, (BY_726.out.below h).c1⟩)
      have ld_733 := BS_728.out.c0
      have ld_734 := BS_728.out.c1
      have ld_735 := BX_724.out.c0
      have ld_736 := BX_724.out.c1
      have ld_737 := BY_726.out.c0
      have ld_738 := BY_726.out.c1
      go_region_held3 (fun w' => w'.cell? ⟨gs, 0, none⟩ = some (Value.slice s1 s2 s3) ∧ w'.cell? ⟨gs, 1, none⟩ = some (Value.slice s5 s6 s7) ∧ w'.cell? ⟨gx, 0, none⟩ = some (Value.slice x1 x2 x3) ∧ w'.cell? ⟨gx, 1, none⟩ = some (Value.slice x5 x6 x7) ∧ w'.cell? ⟨gy, 0, none⟩ = some (Value.slice y1 y2 y3) ∧ w'.cell? ⟨gy, 1, none⟩ = some (Value.slice y5 y6 y7))
        (first | exact KEPT_732.out _ (Below.refl _ _) | exact KEPT_732.out _ R_739X1.out | exact KEPT_732.out _ R_739X2.out)
        (first
          | (go_at_call 18; ((with_reducible refine (rplus_any (.agg #[.slice x1 x2 x3, .slice x5 x6 x7]) (.agg #[.slice y1 y2 y3, .slice y5 y6 y7]) X1 X2 Y1 Y2 0 0 6 6 W_704.drew QX_723.out QY_725.out o12).mono ?_)); rintro e R_739w1 ⟨vp, rfl, hrp, hb⟩; have RPH := Lib.hid hrp; clear hrp; have R_739X1l := Lib.hid hb; have R_739X1 := Lib.hid (hb); clear hb)
          | (go_at_call 14; ((with_reducible refine (rcmp_any (.agg #[.slice s1 s2 s3, .slice s5 s6 s7]) vp n3 d3 (X1 * Y2 + Y1 * X2) (X2 * Y2) 0 _ 15 (6 + 6 + 1) R_739w1 (QS_727.out.below R_739X1.out) RPH.out o19).mono ?_)); rintro e R_739w2 ⟨rfl, hb⟩; rw [C5.out]; have R_739X2l := Lib.hid hb; have R_739X2 := Lib.hid (below_next R_739X1.out hb); clear hb))
      all_goals
        clear ld_733 ld_734 ld_735 ld_736 ld_737 ld_738 KEPT_732
        have QA_740 := Lib.hid (QA_719.out.below R_739X2.out)
        have BA_741 := Lib.hid (BA_720.out.below R_739X2.out)
        have QB_742 := Lib.hid (QB_721.out.below R_739X2.out)
        have BB_743 := Lib.hid (BB_722.out.below R_739X2.out)
        have QX_744 := Lib.hid (QX_723.out.below R_739X2.out)
        have BX_745 := Lib.hid (BX_724.out.below R_739X2.out)
        have QY_746 := Lib.hid (QY_725.out.below R_739X2.out)
        have BY_747 := Lib.hid (BY_726.out.below R_739X2.out)
        have QS_748 := Lib.hid (QS_727.out.below R_739X2.out)
        have BS_749 := Lib.hid (BS_728.out.below R_739X2.out)
        have QD_750 := Lib.hid (QD_729.out.below R_739X2.out)
        have BD_751 := Lib.hid (BD_730.out.below R_739X2.out)
        have BEL_752 := Lib.hid (show Below w.heap.size w R_739w2 from below_next BEL_731.out R_739X2.out)
        clear QA_719 BA_720 QB_721 BB_722 QX_723 BX_724 QY_725 BY_726 QS_727 BS_728 QD_729 BD_730 BEL_731
        have ld_753 := BX_745.out.c0
        have ld_754 := BX_745.out.c1
        have lt_755 := lt_of_block BX_745.out
        have ne_756 := Nat.ne_of_lt lt_755
        have ld_757 := BY_747.out.c0
        have ld_758 := BY_747.out.c1
        have lt_759 := lt_of_block BY_747.out
        have ne_760 := Nat.ne_of_lt lt_759
        go_wp2_with fail
        clear ld_753 ld_754 lt_755 ne_756 ld_757 ld_758 lt_759 ne_760
        refine (rcmp_any (.agg #[.slice x1 x2 x3, .slice x5 x6 x7]) (.agg #[.slice y1 y2 y3, .slice y5 y6 y7]) X1 X2 Y1 Y2 0 0 6 6 R_739w2 QX_744.out QY_746.out o12).mono ?_
        rintro e w_761 ⟨rfl, hb⟩
        rw [C3.out]
        have QA_762 := Lib.hid (QA_740.out.below hb)
        have BA_763 := Lib.hid (BA_741.out.below hb)
        have QB_764 := Lib.hid (QB_742.out.below hb)
        have BB_765 := Lib.hid (BB_743.out.below hb)
        have QX_766 := Lib.hid (QX_744.out.below hb)
        have BX_767 := Lib.hid (BX_745.out.below hb)
        have QY_768 := Lib.hid (QY_746.out.below hb)
        have BY_769 := Lib.hid (BY_747.out.below hb)
        have QS_770 := Lib.hid (QS_748.out.below hb)
        have BS_771 := Lib.hid (BS_749.out.below hb)
        have QD_772 := Lib.hid (QD_750.out.below hb)
        have BD_773 := Lib.hid (BD_751.out.below hb)
        have BEL_774 := Lib.hid (show Below w.heap.size w w_761 from below_next BEL_752.out hb)
        clear QA_740 BA_741 QB_742 BB_743 QX_744 BX_745 QY_746 BY_747 QS_748 BS_749 QD_750 BD_751 BEL_752
        clear hb
        go_wp2
        have QA_775 := Lib.hid (QA_762.out.drew)
        have BA_776 := Lib.hid (BA_763.out.drew)
        have QB_777 := Lib.hid (QB_764.out.drew)
        have BB_778 := Lib.hid (BB_765.out.drew)
        have QX_779 := Lib.hid (QX_766.out.drew)
        have BX_780 := Lib.hid (BX_767.out.drew)
        have QY_781 := Lib.hid (QY_768.out.drew)
        have BY_782 := Lib.hid (BY_769.out.drew)
        have QS_783 := Lib.hid (QS_770.out.drew)
        have BS_784 := Lib.hid (BS_771.out.drew)
        have QD_785 := Lib.hid (QD_772.out.drew)
        have BD_786 := Lib.hid (BD_773.out.drew)
        have BEL_787 := Lib.hid (show Below w.heap.size w w_761.drew from BEL_774.out.drew)
        clear QA_762 BA_763 QB_764 BB_765 QX_766 BX_767 QY_768 BY_769 QS_770 BS_771 QD_772 BD_773 BEL_774
        have KEPT_788 := Lib.hid (show ∀ w', Below w_761.drew.heap.size w_761.drew w' → (w'.cell? ⟨gd, 0, none⟩ = some (Value.slice e1 e2 e3) ∧ w'.cell? ⟨gd, 1, none⟩ = some (Value.slice e5 e6 e7) ∧ w'.cell? ⟨gy, 0, none⟩ = some (Value.slice y1 y2 y3) ∧ w'.cell? ⟨gy, 1, none⟩ = some (Value.slice y5 y6 y7) ∧ w'.cell? ⟨gx, 0, none⟩ = some (Value.slice x1 x2 x3) ∧ w'.cell? ⟨gx, 1, none⟩ = some (Value.slice x5 x6 x7) ∧ w'.cell? ⟨gs, 0, none⟩ = some (Value.slice s1 s2 s3) ∧ w'.cell? ⟨gs, 1, none⟩ = some (Value.slice s5 s6 s7)) from fun w' h => ⟨(BD_786.out.below h).c0, (BD_786.out.below h).c1, (BY_782.out.below h).c0, (BY_782.out.below h).c1, (BX_780.out.below h).c0, (BX_780.out.below h).c1, (BS_784.out.below h).c0, (BS_784.out.below h).c1⟩)
        have ld_789 := BD_786.out.c0
        have ld_790 := BD_786.out.c1
        have ld_791 := BY_782.out.c0
        have ld_792 := BY_782.out.c1
        have ld_793 := BX_780.out.c0
        have ld_794 := BX_780.out.c1
        have ld_795 := BS_784.out.c0
        have ld_796 := BS_784.out.c1
        go_region_held3 (fun w' => w'.cell? ⟨gd, 0, none⟩ = some (Value.slice e1 e2 e3) ∧ w'.cell? ⟨gd, 1, none⟩ = some (Value.slice e5 e6 e7) ∧ w'.cell? ⟨gy, 0, none⟩ = some (Value.slice y1 y2 y3) ∧ w'.cell? ⟨gy, 1, none⟩ = some (Value.slice y5 y6 y7) ∧ w'.cell? ⟨gx, 0, none⟩ = some (Value.slice x1 x2 x3) ∧ w'.cell? ⟨gx, 1, none⟩ = some (Value.slice x5 x6 x7) ∧ w'.cell? ⟨gs, 0, none⟩ = some (Value.slice s1 s2 s3) ∧ w'.cell? ⟨gs, 1, none⟩ = some (Value.slice s5 s6 s7))
          (first | exact KEPT_788.out _ (Below.refl _ _) | exact KEPT_788.out _ R_797X1.out | exact KEPT_788.out _ R_797X2.out | exact KEPT_788.out _ R_797X3.out)
          (first
            | (go_at_call 18; ((with_reducible refine (rplus_any (.agg #[.slice e1 e2 e3, .slice e5 e6 e7]) (.agg #[.slice y1 y2 y3, .slice y5 y6 y7]) n4 d4 Y1 Y2 0 0 12 6 w_761.drew QD_785.out QY_781.out o18).mono ?_)); rintro e R_797w1 ⟨vp2, rfl, hrp, hb⟩; have RPH2 := Lib.hid hrp; clear hrp; have R_797X1l := Lib.hid hb; have R_797X1 := Lib.hid (hb); clear hb)
            | (go_at_call 14; ((with_reducible refine (rcmp_any vp2 (.agg #[.slice x1 x2 x3, .slice x5 x6 x7]) (n4 * Y2 + Y1 * d4) (d4 * Y2) X1 X2 _ 0 (12 + 6 + 1) 6 R_797w1 RPH2.out (QX_779.out.below R_797X1.out) o25).mono ?_)); rintro e R_797w2 ⟨rfl, hb⟩; rw [C6.out]; have R_797X2l := Lib.hid hb; have R_797X2 := Lib.hid (below_next R_797X1.out hb); clear hb)
            | (go_at_call 13; ((with_reducible refine (qcheck_yes (.agg #[.slice s1 s2 s3, .slice s5 s6 s7]) n3 d3 15 0 R_797w2 (QS_783.out.below R_797X2.out) d30).mono ?_)); rintro e R_797w3 ⟨rfl, hb⟩; have R_797X3l := Lib.hid hb; have R_797X3 := Lib.hid (below_next R_797X2.out hb); clear hb))
        all_goals
          clear ld_789 ld_790 ld_791 ld_792 ld_793 ld_794 ld_795 ld_796 KEPT_788
          have QA_798 := Lib.hid (QA_775.out.below R_797X3.out)
          have BA_799 := Lib.hid (BA_776.out.below R_797X3.out)
          have QB_800 := Lib.hid (QB_777.out.below R_797X3.out)
          have BB_801 := Lib.hid (BB_778.out.below R_797X3.out)
          have QX_802 := Lib.hid (QX_779.out.below R_797X3.out)
          have BX_803 := Lib.hid (BX_780.out.below R_797X3.out)
          have QY_804 := Lib.hid (QY_781.out.below R_797X3.out)
          have BY_805 := Lib.hid (BY_782.out.below R_797X3.out)
          have QS_806 := Lib.hid (QS_783.out.below R_797X3.out)
          have BS_807 := Lib.hid (BS_784.out.below R_797X3.out)
          have QD_808 := Lib.hid (QD_785.out.below R_797X3.out)
          have BD_809 := Lib.hid (BD_786.out.below R_797X3.out)
          have BEL_810 := Lib.hid (show Below w.heap.size w R_797w3 from below_next BEL_787.out R_797X3.out)
          clear QA_775 BA_776 QB_777 BB_778 QX_779 BX_780 QY_781 BY_782 QS_783 BS_784 QD_785 BD_786 BEL_787
          go_wp2
          go_ret
          exact ⟨rfl, BEL_810.out⟩
end Go.Proofs.Ytenibpnifnlfeaa
