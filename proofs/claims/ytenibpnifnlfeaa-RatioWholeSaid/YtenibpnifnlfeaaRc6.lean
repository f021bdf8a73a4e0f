/-
  RatioWhole: the walk.
-/
import Derived.Test.YtenibpnifnlfeaaRp6
namespace Go.Proofs.Ytenibpnifnlfeaa
open Go.RowKit

set_option maxHeartbeats 8000000 in
set_option maxRecDepth 100000 in
theorem whole_core (qa qb m n : Int) (w : World) :
    Calls Try.prog 6 #[.agg #[.int .i64 qa, .int .i64 qb], .int .u32 m, .int .u32 n] w fun e w' => e = .returned (.bool true) ∧ Below w.heap.size w w' := by
  obtain ⟨i0, hi, hz0, hz1, hz2⟩ := info_parts Try.infoW
  obtain ⟨r, hr⟩ : ∃ r, qa.tmod 31 = r := ⟨_, rfl⟩
  obtain ⟨t, ht⟩ : ∃ t, qb.tmod 30 = t := ⟨_, rfl⟩
  have ⟨r1, r2⟩ := tmod_bd qa 31 (by omega)
  have ⟨t1, t2⟩ := tmod_bd qb 30 (by omega)
  rw [hr] at r1 r2
  rw [ht] at t1 t2
  obtain ⟨E, hE⟩ : ∃ E, (r + 31) % 31 = E := ⟨_, rfl⟩
  obtain ⟨s, hs⟩ : ∃ s, (t + 30) % 30 = s := ⟨_, rfl⟩
  have E0 : 0 ≤ E ∧ E ≤ 30 := by omega
  have s0 : 0 ≤ s ∧ s ≤ 29 := by omega
  obtain ⟨e0, e1⟩ := E0
  obtain ⟨s1, s2⟩ := s0
  obtain ⟨k, hk⟩ : ∃ k : Nat, 1 + s = (k : Int) := ⟨(1 + s).toNat, by omega⟩
  have k1 : 1 ≤ k := by omega
  have k2 : k ≤ 30 := by omega
  have a1 := and_bd32 m
  have a2 := and_bd32 n
  obtain ⟨a, ha⟩ : ∃ a, bits .and .u32 m 1048575 = a := ⟨_, rfl⟩
  obtain ⟨b, hbb⟩ : ∃ b, bits .and .u32 n 1048575 = b := ⟨_, rfl⟩
  rw [ha] at a1
  rw [hbb] at a2
  obtain ⟨a10, a11⟩ := a1
  obtain ⟨a20, a21⟩ := a2
  have HE := Lib.hid hE
  have HS := Lib.hid hs
  have FK := Lib.hid (show ∀ p ∈ List.replicate k (E, (k : Int)), FitW p from fun p hp => by rw [(List.mem_replicate.mp hp).2]; unfold FitW; simp only; omega)
  clear hE
  go_enter Try.func6, Try.ntmps6
  go_wp2_with fail
  obtain ⟨W_1, hW_1⟩ : ∃ W, w.alloc (Obj.cells #[Value.int .i64 qa, Value.int .i64 qb] 52) = W := ⟨_, rfl⟩
  obtain ⟨gq, hgq⟩ : ∃ g, w.heap.size = g := ⟨_, rfl⟩
  have NB_2 := Lib.hid (show Below w.heap.size w W_1 by rw [← hW_1]; exact below_box _ _)
  have BQ_3 := Lib.hid (show Box W_1 52 gq (Value.int .i64 qa) (Value.int .i64 qb) by rw [← hW_1, ← hgq]; exact Box.new _ _ _ _)
  rw [hW_1, hgq]
  clear hW_1 hgq
  have BEL_4 := Lib.hid (show Below w.heap.size w W_1 from NB_2.out)
  clear NB_2
  refine (qawake_any W_1).mono ?_
  rintro e w1 ⟨rfl, hb1⟩
  have BQ_5 := Lib.hid (BQ_3.out.below hb1)
  have BEL_6 := Lib.hid (show Below w.heap.size w w1 from below_next BEL_4.out hb1)
  clear BQ_3 BEL_4
  clear hb1
  have ld_7 := BQ_5.out.c0
  have ld_8 := BQ_5.out.c1
  go_wp2
  rw [HE.out, HS.out]
  clear hr ht hs hk HE HS
  clear ld_7 ld_8
  clear BQ_5
  go_loopw [10, 11] (fun v u wr => ∃ i : Nat, u = .int .i64 i ∧ i ≤ k ∧ wr.ownsRow w1.heap.size 51 2 v i (cellsW (List.replicate i (E, (k : Int)))) ∧ Below w1.heap.size w1 wr) (fun _ u _ => k - (intOf u).toNat)
  case atStart => exact ⟨0, rfl, by omega, World.ownsRow_nil _ _ _ _, Below.refl _ _⟩
  case round =>
    obtain ⟨i, rfl, il, hown, hbel⟩ := hrel
    have HO := Lib.hid hown
    have HBE := Lib.hid hbel
    have hsz := hbel.size
    clear hown hbel
    by_cases go : i < k
    · have b1 : decide (i < k) = true := by simp; omega
      have EP := Lib.hid (rep_snoc i (E, (k : Int)))
      have we : IntKind.i64.wrap E = E := IntWalk.i64_in _ (by omega)
      go_wp2_with (at_builtin; refine wpList_append_own _ rfl _ _ 28 rfl w1.heap.size 51 i0 _ 2 16 Try.underlying28 hi hz0 hz1 hz2 rfl (by decide) _ i (cellsW (List.replicate i (E, (k : Int)))) rfl (HO.out.alloc _) ⟨wr.heap.size, 0, none⟩ 1 1 [.int .i64 E, .int .i64 k] rfl rfl (World.news_of_block (cs := #[.int .i64 E, .int .i64 k]) (t := 51) (fr := (0, 0)) (heap_alloc_new wr _)) (by simp [Value.oneCell']) (by unfold maxLen; omega) (by omega) (by simp; omega) ?_; intro v2 w2 hown2 hgrow2 _; have HO2 := Lib.hid hown2; have HG2 := Lib.hid hgrow2; clear hown2 hgrow2)
      go_roundw
      case rel =>
        refine ⟨i + 1, by go_num, by omega, ?_, ?_⟩
        · rw [EP.out, cellsW_append]
          exact HO2.out
        · exact (HBE.out.alloc hsz _).grown HG2.out (by simp; omega) (fun g hg => (HO.out.lt g hg).1)
      case measure => simp [intOf]; omega
    · have b1 : decide (i < k) = false := by simp; omega
      obtain rfl : i = k := by omega
      clear go il
      obtain ⟨al, cl, hv, hrow, _⟩ := rowP_of_owns (ps := List.replicate i (E, (i : Int))) (by rw [List.length_replicate]; exact HO.out)
      rw [List.length_replicate] at hv hrow
      subst hv
      have BEL_9 := Lib.hid (show Below w.heap.size w wr from below_next BEL_6.out HBE.out)
      clear BEL_6
      have RK_10 := Lib.hid (hrow)
      clear hrow HO HBE hsz
      have WV : ∃ wv : Int, cmpI (a * 1) (b * 1) = wv ∧ ((a < b ∧ wv = -1) ∨ (a = b ∧ wv = 0) ∨ (b < a ∧ wv = 1)) := by
        rw [Int.mul_one, Int.mul_one]
        rcases Int.lt_trichotomy a b with g | g | g
        · exact ⟨_, cmpI_lt g, .inl ⟨g, rfl⟩⟩
        · exact ⟨_, cmpI_eq g, .inr (.inl ⟨g, rfl⟩)⟩
        · exact ⟨_, cmpI_gt g, .inr (.inr ⟨g, rfl⟩)⟩
      obtain ⟨wv, hwv, hcase⟩ := WV
      have CW := Lib.hid hwv
      clear hwv
      rcases hcase with ⟨g, rfl⟩ | ⟨rfl, rfl⟩ | ⟨g, rfl⟩
      · have we : IntKind.u64.wrap E = E := IntWalk.u64_in _ (by omega)
        go_wp2_with fail
        refine (qsum_any al i cl (List.replicate i (E, (i : Int))) wr RK_10.out FK.out (by omega)).mono ?_
        rintro e w_1011 ⟨v1, n1, d1, rfl, hr1, hlo, heq, hb⟩
        obtain ⟨rfl, rfl⟩ := rep_whole e0 rfl (by omega) hlo heq
        have RK_1012 := Lib.hid (RK_10.out.below hb)
        have BEL_1013 := Lib.hid (show Below w.heap.size w w_1011 from below_next BEL_9.out hb)
        clear RK_10 BEL_9
        have Q1_1014 := Lib.hid (hr1)
        clear hb
        clear hr1 hlo heq
        clear RK_1012
        go_wp2_with fail
        refine (whole_any n1 w_1011 e0 (by omega)).mono ?_
        rintro e w_1015 ⟨v2, rfl, hr2, hb⟩
        have Q1_1016 := Lib.hid (Q1_1014.out.below hb)
        have BEL_1017 := Lib.hid (show Below w.heap.size w w_1015 from below_next BEL_1013.out hb)
        clear Q1_1014 BEL_1013
        have Q2_1018 := Lib.hid (hr2)
        clear hb
        clear hr2
        go_wp2_with fail
        refine (qsame_yes v1 v2 n1 1 0 0 _ 2 w_1015 Q1_1016.out Q2_1018.out).mono ?_
        rintro e w_1019 ⟨rfl, hb⟩
        have Q1_1020 := Lib.hid (Q1_1016.out.below hb)
        have Q2_1021 := Lib.hid (Q2_1018.out.below hb)
        have BEL_1022 := Lib.hid (show Below w.heap.size w w_1019 from below_next BEL_1017.out hb)
        clear Q1_1016 Q2_1018 BEL_1017
        clear hb
        clear Q1_1020
        clear Q2_1021
        go_wp2_with fail
        refine (whole_any a w_1019 a10 (by omega)).mono ?_
        rintro e w_1023 ⟨v3, rfl, hr3, hb⟩
        have BEL_1024 := Lib.hid (show Below w.heap.size w w_1023 from below_next BEL_1022.out hb)
        clear BEL_1022
        have Q3_1025 := Lib.hid (hr3)
        clear hb
        clear hr3
        go_wp2_with fail
        refine (whole_any b w_1023 a20 (by omega)).mono ?_
        rintro e w_1026 ⟨v4, rfl, hr4, hb⟩
        have Q3_1027 := Lib.hid (Q3_1025.out.below hb)
        have BEL_1028 := Lib.hid (show Below w.heap.size w w_1026 from below_next BEL_1024.out hb)
        clear Q3_1025 BEL_1024
        have Q4_1029 := Lib.hid (hr4)
        clear hb
        clear hr4
        go_wp2_with fail
        refine (qcmp_any v3 v4 a 1 b 1 0 0 2 2 w_1026 Q3_1027.out Q4_1029.out (by decide) (by decide) _ CW.out).mono ?_
        rintro e w_1030 ⟨rfl, hb⟩
        have Q3_1031 := Lib.hid (Q3_1027.out.below hb)
        have Q4_1032 := Lib.hid (Q4_1029.out.below hb)
        have BEL_1033 := Lib.hid (show Below w.heap.size w w_1030 from below_next BEL_1028.out hb)
        clear Q3_1027 Q4_1029 BEL_1028
        clear hb
        clear Q3_1031
        clear Q4_1032
        go_wp2_with fail
        refine (whole_any a w_1030 a10 (by omega)).mono ?_
        rintro e w_1034 ⟨v5, rfl, hr5, hb⟩
        have BEL_1035 := Lib.hid (show Below w.heap.size w w_1034 from below_next BEL_1033.out hb)
        clear BEL_1033
        have Q5_1036 := Lib.hid (hr5)
        clear hb
        clear hr5
        go_wp2_with fail
        refine (whole_any b w_1034 a20 (by omega)).mono ?_
        rintro e w_1037 ⟨v6, rfl, hr6, hb⟩
        have Q5_1038 := Lib.hid (Q5_1036.out.below hb)
        have BEL_1039 := Lib.hid (show Below w.heap.size w w_1037 from below_next BEL_1035.out hb)
        clear Q5_1036 BEL_1035
        have Q6_1040 := Lib.hid (hr6)
        clear hb
        clear hr6
        go_wp2_with fail
        refine (qadd_any v5 v6 a 1 b 1 0 0 2 w_1037 Q5_1038.out Q6_1040.out (by decide) (by decide) a10 a20 (by decide)).mono ?_
        rintro e w_1041 ⟨v7, n7, d7, rfl, hr7, hlo, heq, hb⟩
        obtain ⟨rfl, rfl⟩ := add_wholes a10 a20 hlo heq
        have Q5_1042 := Lib.hid (Q5_1038.out.below hb)
        have Q6_1043 := Lib.hid (Q6_1040.out.below hb)
        have BEL_1044 := Lib.hid (show Below w.heap.size w w_1041 from below_next BEL_1039.out hb)
        clear Q5_1038 Q6_1040 BEL_1039
        have Q7_1045 := Lib.hid (hr7)
        clear hb
        clear hr7 hlo heq
        go_wp2_with fail
        refine (whole_any (a + b) w_1041 (by omega) (by omega)).mono ?_
        rintro e w_1046 ⟨v8, rfl, hr8, hb⟩
        have Q5_1047 := Lib.hid (Q5_1042.out.below hb)
        have Q6_1048 := Lib.hid (Q6_1043.out.below hb)
        have Q7_1049 := Lib.hid (Q7_1045.out.below hb)
        have BEL_1050 := Lib.hid (show Below w.heap.size w w_1046 from below_next BEL_1044.out hb)
        clear Q5_1042 Q6_1043 Q7_1045 BEL_1044
        have Q8_1051 := Lib.hid (hr8)
        clear hb
        clear hr8
        go_wp2_with fail
        refine (qsame_yes v7 v8 (a + b) 1 0 0 _ 2 w_1046 Q7_1049.out Q8_1051.out).mono ?_
        rintro e w_1052 ⟨rfl, hb⟩
        have Q5_1053 := Lib.hid (Q5_1047.out.below hb)
        have Q6_1054 := Lib.hid (Q6_1048.out.below hb)
        have Q7_1055 := Lib.hid (Q7_1049.out.below hb)
        have Q8_1056 := Lib.hid (Q8_1051.out.below hb)
        have BEL_1057 := Lib.hid (show Below w.heap.size w w_1052 from below_next BEL_1050.out hb)
        clear Q5_1047 Q6_1048 Q7_1049 Q8_1051 BEL_1050
        clear hb
        go_wp2
        go_ret
        exact ⟨rfl, BEL_1057.out⟩
      · have we : IntKind.u64.wrap E = E := IntWalk.u64_in _ (by omega)
        go_wp2_with fail
        refine (qsum_any al i cl (List.replicate i (E, (i : Int))) wr RK_10.out FK.out (by omega)).mono ?_
        rintro e w_1011 ⟨v1, n1, d1, rfl, hr1, hlo, heq, hb⟩
        obtain ⟨rfl, rfl⟩ := rep_whole e0 rfl (by omega) hlo heq
        have RK_1012 := Lib.hid (RK_10.out.below hb)
        have BEL_1013 := Lib.hid (show Below w.heap.size w w_1011 from below_next BEL_9.out hb)
        clear RK_10 BEL_9
        have Q1_1014 := Lib.hid (hr1)
        clear hb
        clear hr1 hlo heq
        clear RK_1012
        go_wp2_with fail
        refine (whole_any n1 w_1011 e0 (by omega)).mono ?_
        rintro e w_1015 ⟨v2, rfl, hr2, hb⟩
        have Q1_1016 := Lib.hid (Q1_1014.out.below hb)
        have BEL_1017 := Lib.hid (show Below w.heap.size w w_1015 from below_next BEL_1013.out hb)
        clear Q1_1014 BEL_1013
        have Q2_1018 := Lib.hid (hr2)
        clear hb
        clear hr2
        go_wp2_with fail
        refine (qsame_yes v1 v2 n1 1 0 0 _ 2 w_1015 Q1_1016.out Q2_1018.out).mono ?_
        rintro e w_1019 ⟨rfl, hb⟩
        have Q1_1020 := Lib.hid (Q1_1016.out.below hb)
        have Q2_1021 := Lib.hid (Q2_1018.out.below hb)
        have BEL_1022 := Lib.hid (show Below w.heap.size w w_1019 from below_next BEL_1017.out hb)
        clear Q1_1016 Q2_1018 BEL_1017
        clear hb
        clear Q1_1020
        clear Q2_1021
        go_wp2_with fail
        refine (whole_any a w_1019 a10 (by omega)).mono ?_
        rintro e w_1023 ⟨v3, rfl, hr3, hb⟩
        have BEL_1024 := Lib.hid (show Below w.heap.size w w_1023 from below_next BEL_1022.out hb)
        clear BEL_1022
        have Q3_1025 := Lib.hid (hr3)
        clear hb
        clear hr3
        go_wp2_with fail
        refine (whole_any a w_1023 a20 (by omega)).mono ?_
        rintro e w_1026 ⟨v4, rfl, hr4, hb⟩
        have Q3_1027 := Lib.hid (Q3_1025.out.below hb)
        have BEL_1028 := Lib.hid (show Below w.heap.size w w_1026 from below_next BEL_1024.out hb)
        clear Q3_1025 BEL_1024
        have Q4_1029 := Lib.hid (hr4)
        clear hb
        clear hr4
        go_wp2_with fail
        refine (qcmp_any v3 v4 a 1 a 1 0 0 2 2 w_1026 Q3_1027.out Q4_1029.out (by decide) (by decide) _ CW.out).mono ?_
        rintro e w_1030 ⟨rfl, hb⟩
        have Q3_1031 := Lib.hid (Q3_1027.out.below hb)
        have Q4_1032 := Lib.hid (Q4_1029.out.below hb)
        have BEL_1033 := Lib.hid (show Below w.heap.size w w_1030 from below_next BEL_1028.out hb)
        clear Q3_1027 Q4_1029 BEL_1028
        clear hb
        clear Q3_1031
        clear Q4_1032
        go_wp2_with fail
        refine (whole_any a w_1030 a10 (by omega)).mono ?_
        rintro e w_1034 ⟨v5, rfl, hr5, hb⟩
        have BEL_1035 := Lib.hid (show Below w.heap.size w w_1034 from below_next BEL_1033.out hb)
        clear BEL_1033
        have Q5_1036 := Lib.hid (hr5)
        clear hb
        clear hr5
        go_wp2_with fail
        refine (whole_any a w_1034 a20 (by omega)).mono ?_
        rintro e w_1037 ⟨v6, rfl, hr6, hb⟩
        have Q5_1038 := Lib.hid (Q5_1036.out.below hb)
        have BEL_1039 := Lib.hid (show Below w.heap.size w w_1037 from below_next BEL_1035.out hb)
        clear Q5_1036 BEL_1035
        have Q6_1040 := Lib.hid (hr6)
        clear hb
        clear hr6
        go_wp2_with fail
        refine (qadd_any v5 v6 a 1 a 1 0 0 2 w_1037 Q5_1038.out Q6_1040.out (by decide) (by decide) a10 a20 (by decide)).mono ?_
        rintro e w_1041 ⟨v7, n7, d7, rfl, hr7, hlo, heq, hb⟩
        obtain ⟨rfl, rfl⟩ := add_wholes a10 a20 hlo heq
        have Q5_1042 := Lib.hid (Q5_1038.out.below hb)
        have Q6_1043 := Lib.hid (Q6_1040.out.below hb)
        have BEL_1044 := Lib.hid (show Below w.heap.size w w_1041 from below_next BEL_1039.out hb)
        clear Q5_1038 Q6_1040 BEL_1039
        have Q7_1045 := Lib.hid (hr7)
        clear hb
        clear hr7 hlo heq
        go_wp2_with fail
        refine (whole_any (a + a) w_1041 (by omega) (by omega)).mono ?_
        rintro e w_1046 ⟨v8, rfl, hr8, hb⟩
        have Q5_1047 := Lib.hid (Q5_1042.out.below hb)
        have Q6_1048 := Lib.hid (Q6_1043.out.below hb)
        have Q7_1049 := Lib.hid (Q7_1045.out.below hb)
        have BEL_1050 := Lib.hid (show Below w.heap.size w w_1046 from below_next BEL_1044.out hb)
        clear Q5_1042 Q6_1043 Q7_1045 BEL_1044
        have Q8_1051 := Lib.hid (hr8)
        clear hb
        clear hr8
        go_wp2_with fail
        refine (qsame_yes v7 v8 (a + a) 1 0 0 _ 2 w_1046 Q7_1049.out Q8_1051.out).mono ?_
        rintro e w_1052 ⟨rfl, hb⟩
        have Q5_1053 := Lib.hid (Q5_1047.out.below hb)
        have Q6_1054 := Lib.hid (Q6_1048.out.below hb)
        have Q7_1055 := Lib.hid (Q7_1049.out.below hb)
        have Q8_1056 := Lib.hid (Q8_1051.out.below hb)
        have BEL_1057 := Lib.hid (show Below w.heap.size w w_1052 from below_next BEL_1050.out hb)
        clear Q5_1047 Q6_1048 Q7_1049 Q8_1051 BEL_1050
        clear hb
        go_wp2
        go_ret
        exact ⟨rfl, BEL_1057.out⟩
      · have g' : ¬ a < b := by omega
        have we : IntKind.u64.wrap E = E := IntWalk.u64_in _ (by omega)
        go_wp2_with fail
        refine (qsum_any al i cl (List.replicate i (E, (i : Int))) wr RK_10.out FK.out (by omega)).mono ?_
        rintro e w_1011 ⟨v1, n1, d1, rfl, hr1, hlo, heq, hb⟩
        obtain ⟨rfl, rfl⟩ := rep_whole e0 rfl (by omega) hlo heq
        have RK_1012 := Lib.hid (RK_10.out.below hb)
        have BEL_1013 := Lib.hid (show Below w.heap.size w w_1011 from below_next BEL_9.out hb)
        clear RK_10 BEL_9
        have Q1_1014 := Lib.hid (hr1)
        clear hb
        clear hr1 hlo heq
        clear RK_1012
        go_wp2_with fail
        refine (whole_any n1 w_1011 e0 (by omega)).mono ?_
        rintro e w_1015 ⟨v2, rfl, hr2, hb⟩
        have Q1_1016 := Lib.hid (Q1_1014.out.below hb)
        have BEL_1017 := Lib.hid (show Below w.heap.size w w_1015 from below_next BEL_1013.out hb)
        clear Q1_1014 BEL_1013
        have Q2_1018 := Lib.hid (hr2)
        clear hb
        clear hr2
        go_wp2_with fail
        refine (qsame_yes v1 v2 n1 1 0 0 _ 2 w_1015 Q1_1016.out Q2_1018.out).mono ?_
        rintro e w_1019 ⟨rfl, hb⟩
        have Q1_1020 := Lib.hid (Q1_1016.out.below hb)
        have Q2_1021 := Lib.hid (Q2_1018.out.below hb)
        have BEL_1022 := Lib.hid (show Below w.heap.size w w_1019 from below_next BEL_1017.out hb)
        clear Q1_1016 Q2_1018 BEL_1017
        clear hb
        clear Q1_1020
        clear Q2_1021
        go_wp2_with fail
        refine (whole_any a w_1019 a10 (by omega)).mono ?_
        rintro e w_1023 ⟨v3, rfl, hr3, hb⟩
        have BEL_1024 := Lib.hid (show Below w.heap.size w w_1023 from below_next BEL_1022.out hb)
        clear BEL_1022
        have Q3_1025 := Lib.hid (hr3)
        clear hb
        clear hr3
        go_wp2_with fail
        refine (whole_any b w_1023 a20 (by omega)).mono ?_
        rintro e w_1026 ⟨v4, rfl, hr4, hb⟩
        have Q3_1027 := Lib.hid (Q3_1025.out.below hb)
        have BEL_1028 := Lib.hid (show Below w.heap.size w w_1026 from below_next BEL_1024.out hb)
        clear Q3_1025 BEL_1024
        have Q4_1029 := Lib.hid (hr4)
        clear hb
        clear hr4
        go_wp2_with fail
        refine (qcmp_any v3 v4 a 1 b 1 0 0 2 2 w_1026 Q3_1027.out Q4_1029.out (by decide) (by decide) _ CW.out).mono ?_
        rintro e w_1030 ⟨rfl, hb⟩
        have Q3_1031 := Lib.hid (Q3_1027.out.below hb)
        have Q4_1032 := Lib.hid (Q4_1029.out.below hb)
        have BEL_1033 := Lib.hid (show Below w.heap.size w w_1030 from below_next BEL_1028.out hb)
        clear Q3_1027 Q4_1029 BEL_1028
        clear hb
        clear Q3_1031
        clear Q4_1032
        go_wp2_with fail
        refine (whole_any a w_1030 a10 (by omega)).mono ?_
        rintro e w_1034 ⟨v5, rfl, hr5, hb⟩
        have BEL_1035 := Lib.hid (show Below w.heap.size w w_1034 from below_next BEL_1033.out hb)
        clear BEL_1033
        have Q5_1036 := Lib.hid (hr5)
        clear hb
        clear hr5
        go_wp2_with fail
        refine (whole_any b w_1034 a20 (by omega)).mono ?_
        rintro e w_1037 ⟨v6, rfl, hr6, hb⟩
        have Q5_1038 := Lib.hid (Q5_1036.out.below hb)
        have BEL_1039 := Lib.hid (show Below w.heap.size w w_1037 from below_next BEL_1035.out hb)
        clear Q5_1036 BEL_1035
        have Q6_1040 := Lib.hid (hr6)
        clear hb
        clear hr6
        go_wp2_with fail
        refine (qadd_any v5 v6 a 1 b 1 0 0 2 w_1037 Q5_1038.out Q6_1040.out (by decide) (by decide) a10 a20 (by decide)).mono ?_
        rintro e w_1041 ⟨v7, n7, d7, rfl, hr7, hlo, heq, hb⟩
        obtain ⟨rfl, rfl⟩ := add_wholes a10 a20 hlo heq
        have Q5_1042 := Lib.hid (Q5_1038.out.below hb)
        have Q6_1043 := Lib.hid (Q6_1040.out.below hb)
        have BEL_1044 := Lib.hid (show Below w.heap.size w w_1041 from below_next BEL_1039.out hb)
        clear Q5_1038 Q6_1040 BEL_1039
        have Q7_1045 := Lib.hid (hr7)
        clear hb
        clear hr7 hlo heq
        go_wp2_with fail
        refine (whole_any (a + b) w_1041 (by omega) (by omega)).mono ?_
        rintro e w_1046 ⟨v8, rfl, hr8, hb⟩
        have Q5_1047 := Lib.hid (Q5_1042.out.below hb)
        have Q6_1048 := Lib.hid (Q6_1043.out.below hb)
        have Q7_1049 := Lib.hid (Q7_1045.out.below hb)
        have BEL_1050 := Lib.hid (show Below w.heap.size w w_1046 from below_next BEL_1044.out hb)
        clear Q5_1042 Q6_1043 Q7_1045 BEL_1044
        have Q8_1051 := Lib.hid (hr8)
        clear hb
        clear hr8
        go_wp2_with fail
        refine (qsame_yes v7 v8 (a + b) 1 0 0 _ 2 w_1046 Q7_1049.out Q8_1051.out).mono ?_
        rintro e w_1052 ⟨rfl, hb⟩
        have Q5_1053 := Lib.hid (Q5_1047.out.below hb)
        have Q6_1054 := Lib.hid (Q6_1048.out.below hb)
        have Q7_1055 := Lib.hid (Q7_1049.out.below hb)
        have Q8_1056 := Lib.hid (Q8_1051.out.below hb)
        have BEL_1057 := Lib.hid (show Below w.heap.size w w_1052 from below_next BEL_1050.out hb)
        clear Q5_1047 Q6_1048 Q7_1049 Q8_1051 BEL_1050
        clear hb
        go_wp2
        go_ret
        exact ⟨rfl, BEL_1057.out⟩
end Go.Proofs.Ytenibpnifnlfeaa
