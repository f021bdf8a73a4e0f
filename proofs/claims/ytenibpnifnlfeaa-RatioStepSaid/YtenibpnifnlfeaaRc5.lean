/-
  RatioStep: the walk.
-/
import Derived.Test.YtenibpnifnlfeaaRp5
import Derived.Deep.DeepCutAuto
namespace Go.Proofs.Ytenibpnifnlfeaa
open Go.RowKit

set_option maxHeartbeats 8000000 in
set_option maxRecDepth 100000 in
theorem step_core (a0 : Option Addr) (len0 cap0 : Nat) (ps0 : List (Int × Int)) (qa qb : Int) (w : World) (h0 : RowP w a0 len0 cap0 ps0) :
    Calls Try.prog 8 #[.slice a0 len0 cap0, .agg #[.int .i64 qa, .int .i64 qb]] w fun e w' => e = .returned (.bool true) ∧ Below w.heap.size w w' := by
  obtain ⟨i0, hi, hz0, hz1, hz2⟩ := info_parts Try.infoW
  obtain ⟨ws, hws⟩ : ∃ ws, (ps0.take 8).map mkW = ws := ⟨_, rfl⟩
  obtain ⟨p, hp⟩ : ∃ p, mkW (qa, qb) = p := ⟨_, rfl⟩
  have FM := fit_mk (qa, qb)
  have SM := small_mk (qa, qb)
  rw [hp] at FM SM
  have MP := Lib.hid hp
  obtain ⟨E, P⟩ := p
  have FW := Lib.hid (show (∀ p ∈ ws, FitW p) ∧ (∀ p ∈ ws, Small p) ∧ ws.length ≤ 8 by rw [← hws]; exact ⟨fits_mk ps0, smalls_mk ps0, take8_len ps0⟩)
  have FT := Lib.hid (show ∀ p ∈ ws ++ [(E, P)], FitW p from fun p hp => by rcases List.mem_append.mp hp with g | g; exact FW.out.1 p g; rw [List.mem_singleton.mp g]; exact FM.1)
  have BW := sum_lt8 FW.out.2.1 FW.out.2.2
  have BT := sum_lt9 (ws := ws ++ [(E, P)]) (fun p hp => by rcases List.mem_append.mp hp with g | g; exact FW.out.2.1 p g; rw [List.mem_singleton.mp g]; exact SM) (by rw [List.length_append, List.length_singleton]; have := FW.out.2.2; omega)
  have SA := Lib.hid (sumR_snoc ws (E, P))
  have HWS := Lib.hid hws
  obtain ⟨⟨e0, e1, p0, p1⟩, _⟩ := FM
  simp only at e0 e1 p0 p1
  have pp : 0 < P := by omega
  obtain ⟨X1, hX1⟩ : ∃ x, (sumR ws).1 = x := ⟨_, rfl⟩
  obtain ⟨X2, hX2⟩ : ∃ x, (sumR ws).2 = x := ⟨_, rfl⟩
  rw [hX1, hX2] at BW
  rw [hX1, hX2] at SA
  have EX1 := Lib.hid hX1; have EX2 := Lib.hid hX2
  rw [SA.out] at BT
  simp only at BT
  have BWH := Lib.hid BW; have BTH := Lib.hid BT
  have x20 := BW.2.2.1
  clear hws hp hX1 hX2 BW BT SM
  have H0 := Lib.hid h0
  clear h0
  go_enter Try.func8, Try.ntmps8
  go_wp2_with fail
  obtain ⟨W_1, hW_1⟩ : ∃ W, w.alloc (Obj.cells #[Value.int .i64 qa, Value.int .i64 qb] 52) = W := ⟨_, rfl⟩
  obtain ⟨gq, hgq⟩ : ∃ g, w.heap.size = g := ⟨_, rfl⟩
  have NB_2 := Lib.hid (show Below w.heap.size w W_1 by rw [← hW_1]; exact below_box _ _)
  have BQ_3 := Lib.hid (show Box W_1 52 gq (Value.int .i64 qa) (Value.int .i64 qb) by rw [← hW_1, ← hgq]; exact Box.new _ _ _ _)
  rw [hW_1, hgq]
  clear hW_1 hgq
  have H0_4 := Lib.hid (H0.out.below NB_2.out)
  have BEL_5 := Lib.hid (show Below w.heap.size w W_1 from NB_2.out)
  clear H0
  clear NB_2
  refine (qawake_any W_1).mono ?_
  rintro e w_6 ⟨rfl, hb⟩
  have H0_7 := Lib.hid (H0_4.out.below hb)
  have BQ_8 := Lib.hid (BQ_3.out.below hb)
  have BEL_9 := Lib.hid (show Below w.heap.size w w_6 from below_next BEL_5.out hb)
  clear H0_4 BQ_3 BEL_5
  clear hb
  go_wp2_with fail
  refine (weights_any a0 len0 cap0 ps0 w_6 H0_7.out).mono ?_
  rintro e w_10 ⟨aw, lw, cw, rfl, hrow, hb, _⟩
  rw [HWS.out] at hrow
  have LW := Lib.hid hrow.len
  have ⟨cw1, cw2⟩ := hrow.cap_le
  have H0_11 := Lib.hid (H0_7.out.below hb)
  have BQ_12 := Lib.hid (BQ_8.out.below hb)
  have BEL_13 := Lib.hid (show Below w.heap.size w w_10 from below_next BEL_9.out hb)
  clear H0_7 BQ_8 BEL_9
  have RA_14 := Lib.hid (hrow)
  clear hb
  clear hrow
  have lw8 : lw ≤ 8 := by rw [← LW.out]; exact FW.out.2.2
  clear H0_11
  have ld_15 := BQ_12.out.c0
  have ld_16 := BQ_12.out.c1
  have lt_17 := lt_of_block BQ_12.out
  have ne_18 := Nat.ne_of_lt lt_17
  go_wp2_with fail
  clear ld_15 ld_16 lt_17 ne_18
  obtain ⟨W_19, hW_19⟩ : ∃ W, w_10.alloc (Obj.cells #[Value.int .i64 qa, Value.int .i64 qb] 52) = W := ⟨_, rfl⟩
  have RP := Lib.hid (show RowP W_19 (some ⟨w_10.heap.size, 0, none⟩) 1 1 [(qa, qb)] by rw [← hW_19]; exact rowP_one _ _ _ _)
  have NB3 := Lib.hid (show Below w_10.heap.size w_10 W_19 by rw [← hW_19]; exact below_box _ _)
  rw [hW_19]
  clear hW_19
  have BQ_20 := Lib.hid (BQ_12.out.below NB3.out)
  have RA_21 := Lib.hid (RA_14.out.below NB3.out)
  have BEL_22 := Lib.hid (show Below w.heap.size w W_19 from below_next BEL_13.out NB3.out)
  clear BQ_12 RA_14 BEL_13
  clear NB3
  refine (weights_any _ 1 1 [(qa, qb)] W_19 RP.out).mono ?_
  rintro e w_23 ⟨ax, lx, cx, rfl, hrow, hb, _⟩
  obtain rfl : lx = 1 := by have := hrow.len; simpa using this.symm
  obtain ⟨bw, ow, rfl, y0, y1⟩ := hrow.cell (show 0 < 1 by omega)
  rw [show (([(qa, qb)].take 8).map mkW).getD 0 (0, 0) = (E, P) by rw [← MP.out]; rfl] at y0 y1
  simp only [Nat.zero_mul, Nat.add_zero] at y0 y1
  have ⟨cx1, cx2⟩ := hrow.cap_le
  have BQ_24 := Lib.hid (BQ_20.out.below hb)
  have RA_25 := Lib.hid (RA_21.out.below hb)
  have BEL_26 := Lib.hid (show Below w.heap.size w w_23 from below_next BEL_22.out hb)
  clear BQ_20 RA_21 BEL_22
  clear hb
  clear hrow RP
  clear BQ_24
  go_wp2_with fail
  obtain ⟨W_27, hW_27⟩ : ∃ W, w_23.alloc (Obj.cells #[Value.int .i64 E, Value.int .i64 P] 51) = W := ⟨_, rfl⟩
  obtain ⟨gx, hgx⟩ : ∃ g, w_23.heap.size = g := ⟨_, rfl⟩
  have NB_28 := Lib.hid (show Below w_23.heap.size w_23 W_27 by rw [← hW_27]; exact below_box _ _)
  have BX_29 := Lib.hid (show Box W_27 51 gx (Value.int .i64 E) (Value.int .i64 P) by rw [← hW_27, ← hgx]; exact Box.new _ _ _ _)
  rw [hW_27, hgx]
  clear hW_27 hgx
  have RA_30 := Lib.hid (RA_25.out.below NB_28.out)
  have BEL_31 := Lib.hid (show Below w.heap.size w W_27 from below_next BEL_26.out NB_28.out)
  clear RA_25 BEL_26
  clear NB_28
  clear y0 y1
  refine (qsum_any aw lw cw ws W_27 RA_30.out FW.out.1 (by omega)).mono ?_
  rintro e w_32 ⟨_, n1, d1, rfl, ⟨s1, s2, s3, s4, s5, s6, s7, s8, rfl, r1, i1, r2, i2, m1, m2, f1, f2⟩, hlo, heq, hb⟩
  rw [EX1.out, EX2.out] at heq
  have LEs := Lib.hid (lo_le hlo BWH.out.1 BWH.out.2.2.1 heq)
  have LOs := Lib.hid hlo; have EQs := Lib.hid heq
  have d10 : 0 < d1 := hlo.2.1
  have n10 : 0 ≤ n1 := hlo.1
  have RA_33 := Lib.hid (RA_30.out.below hb)
  have BX_34 := Lib.hid (BX_29.out.below hb)
  have BEL_35 := Lib.hid (show Below w.heap.size w w_32 from below_next BEL_31.out hb)
  clear RA_30 BX_29 BEL_31
  have QS_36 := Lib.hid (Rat.shrink (L' := 6) (show Rat w_32 0 _ (.agg #[.slice s1 s2 s3, .slice s5 s6 s7]) n1 d1 from ⟨s1, s2, s3, s4, s5, s6, s7, s8, rfl, r1, i1, r2, i2, m1, m2, fresh0 _, fresh0 _⟩) (Int.lt_of_le_of_lt LEs.out.1 BWH.out.2.1) (Int.lt_of_le_of_lt LEs.out.2 BWH.out.2.2.2))
  clear hb
  clear r1 i1 r2 i2 m1 m2 f1 f2 hlo heq
  go_upto_region 5 with fail
  obtain ⟨W_37, hW_37⟩ : ∃ W, w_32.alloc (Obj.cells #[Value.slice s1 s2 s3, Value.slice s5 s6 s7] 26) = W := ⟨_, rfl⟩
  obtain ⟨gs, hgs⟩ : ∃ g, w_32.heap.size = g := ⟨_, rfl⟩
  have NB_38 := Lib.hid (show Below w_32.heap.size w_32 W_37 by rw [← hW_37]; exact below_box _ _)
  have BS_39 := Lib.hid (show Box W_37 26 gs (Value.slice s1 s2 s3) (Value.slice s5 s6 s7) by rw [← hW_37, ← hgs]; exact Box.new _ _ _ _)
  rw [hW_37, hgs]
  clear hW_37 hgs
  have RA_40 := Lib.hid (RA_33.out.below NB_38.out)
  have BX_41 := Lib.hid (BX_34.out.below NB_38.out)
  have QS_42 := Lib.hid (QS_36.out.below NB_38.out)
  have BEL_43 := Lib.hid (show Below w.heap.size w W_37 from below_next BEL_35.out NB_38.out)
  clear RA_33 BX_34 QS_36 BEL_35
  clear NB_38
  have KEPT := Lib.hid (show ∀ w', Below W_37.heap.size W_37 w' → (w'.cell? ⟨gx, 0, none⟩ = some (.int .i64 E) ∧ w'.cell? ⟨gx, 1, none⟩ = some (.int .i64 P)) from fun w' h => ⟨(BX_41.out.below h).c0, (BX_41.out.below h).c1⟩)
  have ld1 := BX_41.out.c0
  have ld2 := BX_41.out.c1
  have gxlt := lt_of_block BX_41.out
  have gxne : gx ≠ W_37.heap.size := Nat.ne_of_lt gxlt
  have LT := Lib.hid (show (ws ++ [(E, P)]).length = lw + 1 by rw [List.length_append, LW.out]; rfl)
  have FS := Lib.hid (show (sumR (ws ++ [(E, P)])).1 = X1 * P + E * X2 ∧ (sumR (ws ++ [(E, P)])).2 = X2 * P by rw [SA.out]; exact ⟨rfl, rfl⟩)
  have l9 : lw + 1 ≤ 100 := by omega
  have NL := Lib.hid (show ([] : List (Int × Int)).length + lw ≤ 1000 by simp; omega)
  have NL2 := Lib.hid (show ([] ++ ws).length + 1 ≤ 1000 by rw [List.nil_append, LW.out]; omega)
  go_cut [9] (fun s9 wx => StepBox W_37 (X1 * P + E * X2) (X2 * P) s9 wx)
  case first =>
    go_region_held3 (fun w' => w'.cell? ⟨gx, 0, none⟩ = some (.int .i64 E) ∧ w'.cell? ⟨gx, 1, none⟩ = some (.int .i64 P))
      (first | exact KEPT.out _ (below_three _ _ _ _).drew | exact KEPT.out _ (below_two _ _ _).drew | exact KEPT.out _ (below_box _ _).drew | exact KEPT.out _ BU1.out | exact KEPT.out _ BU2.out | exact KEPT.out _ B3.out | exact KEPT.out _ (below_next BU1.out (below_box _ _)) | exact KEPT.out _ (below_next BU2.out (below_box _ _)) | exact KEPT.out _ (below_next B3.out (below_box _ _)) | exact KEPT.out _ (below_next BU1.out (below_two _ _ _)) | exact KEPT.out _ ((B3.out.setCell (by first | omega | (simp only; omega)) _).setCell (by first | omega | (simp only; omega)) _) | exact KEPT.out _ (((below_next B3.out (below_box _ _)).setCell (by first | omega | (simp only; omega)) _).setCell (by first | omega | (simp only; omega)) _) | go_keep)
      (first
        | ((refine step_append_pairs (by rfl) _ _ (by rfl) W_37.heap.size (.slice (some ⟨W_37.heap.size, 0, none⟩) 0 0) [] (by rfl) (own_of_heap (X := (W_37.alloc (Obj.cells #[] 51)).drew) (al1 W_37 (Obj.cells #[] 51)).1 (by omega)) aw lw cw ws (by rfl) (RA_40.out.below ((al1 W_37 (Obj.cells #[] 51)).2.1.drew : Below W_37.heap.size W_37 (W_37.alloc (Obj.cells #[] 51)).drew)) ((al1 W_37 (Obj.cells #[] 51)).2.1.drew : Below W_37.heap.size W_37 (W_37.alloc (Obj.cells #[] 51)).drew).size NL.out ?_; intro v1 u1 hown1 hgrow1 hat1; have HU1 := Lib.hid (hown1); have BU1 := Lib.hid (show Below W_37.heap.size W_37 u1 from below_grow ((al1 W_37 (Obj.cells #[] 51)).2.1.drew : Below W_37.heap.size W_37 (W_37.alloc (Obj.cells #[] 51)).drew) hgrow1 (show W_37.heap.size ≤ W_37.heap.size by omega)); have zu1 := BU1.out.size; clear hown1 hgrow1 hat1))
        | ((refine step_append_pairs (by rfl) _ _ (by rfl) W_37.heap.size (.slice (some ⟨W_37.heap.size, 0, none⟩) 0 0) [] (by rfl) (own_of_heap (X := ((W_37.alloc (Obj.cells #[] 51)).alloc (Obj.cells #[Value.int .i64 E, Value.int .i64 P] 51)).drew) (al2 W_37 (Obj.cells #[] 51) (Obj.cells #[Value.int .i64 E, Value.int .i64 P] 51)).1 (by omega)) aw lw cw ws (by rfl) (RA_40.out.below ((al2 W_37 (Obj.cells #[] 51) (Obj.cells #[Value.int .i64 E, Value.int .i64 P] 51)).2.2.1.drew : Below W_37.heap.size W_37 ((W_37.alloc (Obj.cells #[] 51)).alloc (Obj.cells #[Value.int .i64 E, Value.int .i64 P] 51)).drew)) ((al2 W_37 (Obj.cells #[] 51) (Obj.cells #[Value.int .i64 E, Value.int .i64 P] 51)).2.2.1.drew : Below W_37.heap.size W_37 ((W_37.alloc (Obj.cells #[] 51)).alloc (Obj.cells #[Value.int .i64 E, Value.int .i64 P] 51)).drew).size NL.out ?_; intro v1 u1 hown1 hgrow1 hat1; have HU1 := Lib.hid (hown1); have BU1 := Lib.hid (show Below W_37.heap.size W_37 u1 from below_grow ((al2 W_37 (Obj.cells #[] 51) (Obj.cells #[Value.int .i64 E, Value.int .i64 P] 51)).2.2.1.drew : Below W_37.heap.size W_37 ((W_37.alloc (Obj.cells #[] 51)).alloc (Obj.cells #[Value.int .i64 E, Value.int .i64 P] 51)).drew) hgrow1 (show W_37.heap.size ≤ W_37.heap.size by omega)); have zu1 := BU1.out.size; have H4 := Lib.hid (grow_kept (b := W_37.heap.size + 1) hgrow1 (al2 W_37 (Obj.cells #[] 51) (Obj.cells #[Value.int .i64 E, Value.int .i64 P] 51)).2.1 (by omega)); clear hown1 hgrow1 hat1))
        | ((refine step_append_pairs (by rfl) _ _ (by rfl) W_37.heap.size (.slice (some ⟨W_37.heap.size, 0, none⟩) 0 0) [] (by rfl) (own_of_heap (X := ((W_37.alloc (Obj.cells #[] 51)).alloc (Obj.cells #[Value.slice none 0 0, Value.slice none 0 0] 26)).drew) (al2 W_37 (Obj.cells #[] 51) (Obj.cells #[Value.slice none 0 0, Value.slice none 0 0] 26)).1 (by omega)) aw lw cw ws (by rfl) (RA_40.out.below ((al2 W_37 (Obj.cells #[] 51) (Obj.cells #[Value.slice none 0 0, Value.slice none 0 0] 26)).2.2.1.drew : Below W_37.heap.size W_37 ((W_37.alloc (Obj.cells #[] 51)).alloc (Obj.cells #[Value.slice none 0 0, Value.slice none 0 0] 26)).drew)) ((al2 W_37 (Obj.cells #[] 51) (Obj.cells #[Value.slice none 0 0, Value.slice none 0 0] 26)).2.2.1.drew : Below W_37.heap.size W_37 ((W_37.alloc (Obj.cells #[] 51)).alloc (Obj.cells #[Value.slice none 0 0, Value.slice none 0 0] 26)).drew).size NL.out ?_; intro v1 u1 hown1 hgrow1 hat1; have HU1 := Lib.hid (hown1); have BU1 := Lib.hid (show Below W_37.heap.size W_37 u1 from below_grow ((al2 W_37 (Obj.cells #[] 51) (Obj.cells #[Value.slice none 0 0, Value.slice none 0 0] 26)).2.2.1.drew : Below W_37.heap.size W_37 ((W_37.alloc (Obj.cells #[] 51)).alloc (Obj.cells #[Value.slice none 0 0, Value.slice none 0 0] 26)).drew) hgrow1 (show W_37.heap.size ≤ W_37.heap.size by omega)); have zu1 := BU1.out.size; have H7 := Lib.hid (grow_kept (b := W_37.heap.size + 1) hgrow1 (al2 W_37 (Obj.cells #[] 51) (Obj.cells #[Value.slice none 0 0, Value.slice none 0 0] 26)).2.1 (by omega)); clear hown1 hgrow1 hat1))
        | ((refine step_append_pairs (by rfl) _ _ (by rfl) W_37.heap.size (.slice (some ⟨W_37.heap.size + 1, 0, none⟩) 0 0) [] (by rfl) (own_of_heap (X := ((W_37.alloc (Obj.cells #[Value.int .i64 E, Value.int .i64 P] 51)).alloc (Obj.cells #[] 51)).drew) (al2 W_37 (Obj.cells #[Value.int .i64 E, Value.int .i64 P] 51) (Obj.cells #[] 51)).2.1 (by omega)) aw lw cw ws (by rfl) (RA_40.out.below ((al2 W_37 (Obj.cells #[Value.int .i64 E, Value.int .i64 P] 51) (Obj.cells #[] 51)).2.2.1.drew : Below W_37.heap.size W_37 ((W_37.alloc (Obj.cells #[Value.int .i64 E, Value.int .i64 P] 51)).alloc (Obj.cells #[] 51)).drew)) ((al2 W_37 (Obj.cells #[Value.int .i64 E, Value.int .i64 P] 51) (Obj.cells #[] 51)).2.2.1.drew : Below W_37.heap.size W_37 ((W_37.alloc (Obj.cells #[Value.int .i64 E, Value.int .i64 P] 51)).alloc (Obj.cells #[] 51)).drew).size NL.out ?_; intro v1 u1 hown1 hgrow1 hat1; have HU1 := Lib.hid (hown1); have BU1 := Lib.hid (show Below W_37.heap.size W_37 u1 from below_grow ((al2 W_37 (Obj.cells #[Value.int .i64 E, Value.int .i64 P] 51) (Obj.cells #[] 51)).2.2.1.drew : Below W_37.heap.size W_37 ((W_37.alloc (Obj.cells #[Value.int .i64 E, Value.int .i64 P] 51)).alloc (Obj.cells #[] 51)).drew) hgrow1 (show W_37.heap.size ≤ W_37.heap.size + 1 by omega)); have zu1 := BU1.out.size; have H4 := Lib.hid (grow_kept (b := W_37.heap.size) hgrow1 (al2 W_37 (Obj.cells #[Value.int .i64 E, Value.int .i64 P] 51) (Obj.cells #[] 51)).1 (by omega)); clear hown1 hgrow1 hat1))
        | ((refine step_append_pairs (by rfl) _ _ (by rfl) W_37.heap.size (.slice (some ⟨W_37.heap.size + 1, 0, none⟩) 0 0) [] (by rfl) (own_of_heap (X := ((W_37.alloc (Obj.cells #[Value.slice none 0 0, Value.slice none 0 0] 26)).alloc (Obj.cells #[] 51)).drew) (al2 W_37 (Obj.cells #[Value.slice none 0 0, Value.slice none 0 0] 26) (Obj.cells #[] 51)).2.1 (by omega)) aw lw cw ws (by rfl) (RA_40.out.below ((al2 W_37 (Obj.cells #[Value.slice none 0 0, Value.slice none 0 0] 26) (Obj.cells #[] 51)).2.2.1.drew : Below W_37.heap.size W_37 ((W_37.alloc (Obj.cells #[Value.slice none 0 0, Value.slice none 0 0] 26)).alloc (Obj.cells #[] 51)).drew)) ((al2 W_37 (Obj.cells #[Value.slice none 0 0, Value.slice none 0 0] 26) (Obj.cells #[] 51)).2.2.1.drew : Below W_37.heap.size W_37 ((W_37.alloc (Obj.cells #[Value.slice none 0 0, Value.slice none 0 0] 26)).alloc (Obj.cells #[] 51)).drew).size NL.out ?_; intro v1 u1 hown1 hgrow1 hat1; have HU1 := Lib.hid (hown1); have BU1 := Lib.hid (show Below W_37.heap.size W_37 u1 from below_grow ((al2 W_37 (Obj.cells #[Value.slice none 0 0, Value.slice none 0 0] 26) (Obj.cells #[] 51)).2.2.1.drew : Below W_37.heap.size W_37 ((W_37.alloc (Obj.cells #[Value.slice none 0 0, Value.slice none 0 0] 26)).alloc (Obj.cells #[] 51)).drew) hgrow1 (show W_37.heap.size ≤ W_37.heap.size + 1 by omega)); have zu1 := BU1.out.size; have H7 := Lib.hid (grow_kept (b := W_37.heap.size) hgrow1 (al2 W_37 (Obj.cells #[Value.slice none 0 0, Value.slice none 0 0] 26) (Obj.cells #[] 51)).1 (by omega)); clear hown1 hgrow1 hat1))
        | ((refine step_append_pairs (by rfl) _ _ (by rfl) W_37.heap.size (.slice (some ⟨W_37.heap.size, 0, none⟩) 0 0) [] (by rfl) (own_of_heap (X := (((W_37.alloc (Obj.cells #[] 51)).alloc (Obj.cells #[Value.int .i64 E, Value.int .i64 P] 51)).alloc (Obj.cells #[Value.slice none 0 0, Value.slice none 0 0] 26)).drew) (al3 W_37 (Obj.cells #[] 51) (Obj.cells #[Value.int .i64 E, Value.int .i64 P] 51) (Obj.cells #[Value.slice none 0 0, Value.slice none 0 0] 26)).1 (by omega)) aw lw cw ws (by rfl) (RA_40.out.below ((al3 W_37 (Obj.cells #[] 51) (Obj.cells #[Value.int .i64 E, Value.int .i64 P] 51) (Obj.cells #[Value.slice none 0 0, Value.slice none 0 0] 26)).2.2.2.1.drew : Below W_37.heap.size W_37 (((W_37.alloc (Obj.cells #[] 51)).alloc (Obj.cells #[Value.int .i64 E, Value.int .i64 P] 51)).alloc (Obj.cells #[Value.slice none 0 0, Value.slice none 0 0] 26)).drew)) ((al3 W_37 (Obj.cells #[] 51) (Obj.cells #[Value.int .i64 E, Value.int .i64 P] 51) (Obj.cells #[Value.slice none 0 0, Value.slice none 0 0] 26)).2.2.2.1.drew : Below W_37.heap.size W_37 (((W_37.alloc (Obj.cells #[] 51)).alloc (Obj.cells #[Value.int .i64 E, Value.int .i64 P] 51)).alloc (Obj.cells #[Value.slice none 0 0, Value.slice none 0 0] 26)).drew).size NL.out ?_; intro v1 u1 hown1 hgrow1 hat1; have HU1 := Lib.hid (hown1); have BU1 := Lib.hid (show Below W_37.heap.size W_37 u1 from below_grow ((al3 W_37 (Obj.cells #[] 51) (Obj.cells #[Value.int .i64 E, Value.int .i64 P] 51) (Obj.cells #[Value.slice none 0 0, Value.slice none 0 0] 26)).2.2.2.1.drew : Below W_37.heap.size W_37 (((W_37.alloc (Obj.cells #[] 51)).alloc (Obj.cells #[Value.int .i64 E, Value.int .i64 P] 51)).alloc (Obj.cells #[Value.slice none 0 0, Value.slice none 0 0] 26)).drew) hgrow1 (show W_37.heap.size ≤ W_37.heap.size by omega)); have zu1 := BU1.out.size; have H4 := Lib.hid (grow_kept (b := W_37.heap.size + 1) hgrow1 (al3 W_37 (Obj.cells #[] 51) (Obj.cells #[Value.int .i64 E, Value.int .i64 P] 51) (Obj.cells #[Value.slice none 0 0, Value.slice none 0 0] 26)).2.1 (by omega)); have H7 := Lib.hid (grow_kept (b := W_37.heap.size + 1 + 1) hgrow1 (al3 W_37 (Obj.cells #[] 51) (Obj.cells #[Value.int .i64 E, Value.int .i64 P] 51) (Obj.cells #[Value.slice none 0 0, Value.slice none 0 0] 26)).2.2.1 (by omega)); clear hown1 hgrow1 hat1))
        | ((refine step_append_pairs (by rfl) _ _ (by rfl) W_37.heap.size (.slice (some ⟨W_37.heap.size, 0, none⟩) 0 0) [] (by rfl) (own_of_heap (X := (((W_37.alloc (Obj.cells #[] 51)).alloc (Obj.cells #[Value.slice none 0 0, Value.slice none 0 0] 26)).alloc (Obj.cells #[Value.int .i64 E, Value.int .i64 P] 51)).drew) (al3 W_37 (Obj.cells #[] 51) (Obj.cells #[Value.slice none 0 0, Value.slice none 0 0] 26) (Obj.cells #[Value.int .i64 E, Value.int .i64 P] 51)).1 (by omega)) aw lw cw ws (by rfl) (RA_40.out.below ((al3 W_37 (Obj.cells #[] 51) (Obj.cells #[Value.slice none 0 0, Value.slice none 0 0] 26) (Obj.cells #[Value.int .i64 E, Value.int .i64 P] 51)).2.2.2.1.drew : Below W_37.heap.size W_37 (((W_37.alloc (Obj.cells #[] 51)).alloc (Obj.cells #[Value.slice none 0 0, Value.slice none 0 0] 26)).alloc (Obj.cells #[Value.int .i64 E, Value.int .i64 P] 51)).drew)) ((al3 W_37 (Obj.cells #[] 51) (Obj.cells #[Value.slice none 0 0, Value.slice none 0 0] 26) (Obj.cells #[Value.int .i64 E, Value.int .i64 P] 51)).2.2.2.1.drew : Below W_37.heap.size W_37 (((W_37.alloc (Obj.cells #[] 51)).alloc (Obj.cells #[Value.slice none 0 0, Value.slice none 0 0] 26)).alloc (Obj.cells #[Value.int .i64 E, Value.int .i64 P] 51)).drew).size NL.out ?_; intro v1 u1 hown1 hgrow1 hat1; have HU1 := Lib.hid (hown1); have BU1 := Lib.hid (show Below W_37.heap.size W_37 u1 from below_grow ((al3 W_37 (Obj.cells #[] 51) (Obj.cells #[Value.slice none 0 0, Value.slice none 0 0] 26) (Obj.cells #[Value.int .i64 E, Value.int .i64 P] 51)).2.2.2.1.drew : Below W_37.heap.size W_37 (((W_37.alloc (Obj.cells #[] 51)).alloc (Obj.cells #[Value.slice none 0 0, Value.slice none 0 0] 26)).alloc (Obj.cells #[Value.int .i64 E, Value.int .i64 P] 51)).drew) hgrow1 (show W_37.heap.size ≤ W_37.heap.size by omega)); have zu1 := BU1.out.size; have H4 := Lib.hid (grow_kept (b := W_37.heap.size + 1 + 1) hgrow1 (al3 W_37 (Obj.cells #[] 51) (Obj.cells #[Value.slice none 0 0, Value.slice none 0 0] 26) (Obj.cells #[Value.int .i64 E, Value.int .i64 P] 51)).2.2.1 (by omega)); have H7 := Lib.hid (grow_kept (b := W_37.heap.size + 1) hgrow1 (al3 W_37 (Obj.cells #[] 51) (Obj.cells #[Value.slice none 0 0, Value.slice none 0 0] 26) (Obj.cells #[Value.int .i64 E, Value.int .i64 P] 51)).2.1 (by omega)); clear hown1 hgrow1 hat1))
        | ((refine step_append_pairs (by rfl) _ _ (by rfl) W_37.heap.size (.slice (some ⟨W_37.heap.size + 1, 0, none⟩) 0 0) [] (by rfl) (own_of_heap (X := (((W_37.alloc (Obj.cells #[Value.int .i64 E, Value.int .i64 P] 51)).alloc (Obj.cells #[] 51)).alloc (Obj.cells #[Value.slice none 0 0, Value.slice none 0 0] 26)).drew) (al3 W_37 (Obj.cells #[Value.int .i64 E, Value.int .i64 P] 51) (Obj.cells #[] 51) (Obj.cells #[Value.slice none 0 0, Value.slice none 0 0] 26)).2.1 (by omega)) aw lw cw ws (by rfl) (RA_40.out.below ((al3 W_37 (Obj.cells #[Value.int .i64 E, Value.int .i64 P] 51) (Obj.cells #[] 51) (Obj.cells #[Value.slice none 0 0, Value.slice none 0 0] 26)).2.2.2.1.drew : Below W_37.heap.size W_37 (((W_37.alloc (Obj.cells #[Value.int .i64 E, Value.int .i64 P] 51)).alloc (Obj.cells #[] 51)).alloc (Obj.cells #[Value.slice none 0 0, Value.slice none 0 0] 26)).drew)) ((al3 W_37 (Obj.cells #[Value.int .i64 E, Value.int .i64 P] 51) (Obj.cells #[] 51) (Obj.cells #[Value.slice none 0 0, Value.slice none 0 0] 26)).2.2.2.1.drew : Below W_37.heap.size W_37 (((W_37.alloc (Obj.cells #[Value.int .i64 E, Value.int .i64 P] 51)).alloc (Obj.cells #[] 51)).alloc (Obj.cells #[Value.slice none 0 0, Value.slice none 0 0] 26)).drew).size NL.out ?_; intro v1 u1 hown1 hgrow1 hat1; have HU1 := Lib.hid (hown1); have BU1 := Lib.hid (show Below W_37.heap.size W_37 u1 from below_grow ((al3 W_37 (Obj.cells #[Value.int .i64 E, Value.int .i64 P] 51) (Obj.cells #[] 51) (Obj.cells #[Value.slice none 0 0, Value.slice none 0 0] 26)).2.2.2.1.drew : Below W_37.heap.size W_37 (((W_37.alloc (Obj.cells #[Value.int .i64 E, Value.int .i64 P] 51)).alloc (Obj.cells #[] 51)).alloc (Obj.cells #[Value.slice none 0 0, Value.slice none 0 0] 26)).drew) hgrow1 (show W_37.heap.size ≤ W_37.heap.size + 1 by omega)); have zu1 := BU1.out.size; have H4 := Lib.hid (grow_kept (b := W_37.heap.size) hgrow1 (al3 W_37 (Obj.cells #[Value.int .i64 E, Value.int .i64 P] 51) (Obj.cells #[] 51) (Obj.cells #[Value.slice none 0 0, Value.slice none 0 0] 26)).1 (by omega)); have H7 := Lib.hid (grow_kept (b := W_37.heap.size + 1 + 1) hgrow1 (al3 W_37 (Obj.cells #[Value.int .i64 E, Value.int .i64 P] 51) (Obj.cells #[] 51) (Obj.cells #[Value.slice none 0 0, Value.slice none 0 0] 26)).2.2.1 (by omega)); clear hown1 hgrow1 hat1))
        | ((refine step_append_pairs (by rfl) _ _ (by rfl) W_37.heap.size (.slice (some ⟨W_37.heap.size + 1 + 1, 0, none⟩) 0 0) [] (by rfl) (own_of_heap (X := (((W_37.alloc (Obj.cells #[Value.int .i64 E, Value.int .i64 P] 51)).alloc (Obj.cells #[Value.slice none 0 0, Value.slice none 0 0] 26)).alloc (Obj.cells #[] 51)).drew) (al3 W_37 (Obj.cells #[Value.int .i64 E, Value.int .i64 P] 51) (Obj.cells #[Value.slice none 0 0, Value.slice none 0 0] 26) (Obj.cells #[] 51)).2.2.1 (by omega)) aw lw cw ws (by rfl) (RA_40.out.below ((al3 W_37 (Obj.cells #[Value.int .i64 E, Value.int .i64 P] 51) (Obj.cells #[Value.slice none 0 0, Value.slice none 0 0] 26) (Obj.cells #[] 51)).2.2.2.1.drew : Below W_37.heap.size W_37 (((W_37.alloc (Obj.cells #[Value.int .i64 E, Value.int .i64 P] 51)).alloc (Obj.cells #[Value.slice none 0 0, Value.slice none 0 0] 26)).alloc (Obj.cells #[] 51)).drew)) ((al3 W_37 (Obj.cells #[Value.int .i64 E, Value.int .i64 P] 51) (Obj.cells #[Value.slice none 0 0, Value.slice none 0 0] 26) (Obj.cells #[] 51)).2.2.2.1.drew : Below W_37.heap.size W_37 (((W_37.alloc (Obj.cells #[Value.int .i64 E, Value.int .i64 P] 51)).alloc (Obj.cells #[Value.slice none 0 0, Value.slice none 0 0] 26)).alloc (Obj.cells #[] 51)).drew).size NL.out ?_; intro v1 u1 hown1 hgrow1 hat1; have HU1 := Lib.hid (hown1); have BU1 := Lib.hid (show Below W_37.heap.size W_37 u1 from below_grow ((al3 W_37 (Obj.cells #[Value.int .i64 E, Value.int .i64 P] 51) (Obj.cells #[Value.slice none 0 0, Value.slice none 0 0] 26) (Obj.cells #[] 51)).2.2.2.1.drew : Below W_37.heap.size W_37 (((W_37.alloc (Obj.cells #[Value.int .i64 E, Value.int .i64 P] 51)).alloc (Obj.cells #[Value.slice none 0 0, Value.slice none 0 0] 26)).alloc (Obj.cells #[] 51)).drew) hgrow1 (show W_37.heap.size ≤ W_37.heap.size + 1 + 1 by omega)); have zu1 := BU1.out.size; have H4 := Lib.hid (grow_kept (b := W_37.heap.size) hgrow1 (al3 W_37 (Obj.cells #[Value.int .i64 E, Value.int .i64 P] 51) (Obj.cells #[Value.slice none 0 0, Value.slice none 0 0] 26) (Obj.cells #[] 51)).1 (by omega)); have H7 := Lib.hid (grow_kept (b := W_37.heap.size + 1) hgrow1 (al3 W_37 (Obj.cells #[Value.int .i64 E, Value.int .i64 P] 51) (Obj.cells #[Value.slice none 0 0, Value.slice none 0 0] 26) (Obj.cells #[] 51)).2.1 (by omega)); clear hown1 hgrow1 hat1))
        | ((refine step_append_pairs (by rfl) _ _ (by rfl) W_37.heap.size (.slice (some ⟨W_37.heap.size + 1, 0, none⟩) 0 0) [] (by rfl) (own_of_heap (X := (((W_37.alloc (Obj.cells #[Value.slice none 0 0, Value.slice none 0 0] 26)).alloc (Obj.cells #[] 51)).alloc (Obj.cells #[Value.int .i64 E, Value.int .i64 P] 51)).drew) (al3 W_37 (Obj.cells #[Value.slice none 0 0, Value.slice none 0 0] 26) (Obj.cells #[] 51) (Obj.cells #[Value.int .i64 E, Value.int .i64 P] 51)).2.1 (by omega)) aw lw cw ws (by rfl) (RA_40.out.below ((al3 W_37 (Obj.cells #[Value.slice none 0 0, Value.slice none 0 0] 26) (Obj.cells #[] 51) (Obj.cells #[Value.int .i64 E, Value.int .i64 P] 51)).2.2.2.1.drew : Below W_37.heap.size W_37 (((W_37.alloc (Obj.cells #[Value.slice none 0 0, Value.slice none 0 0] 26)).alloc (Obj.cells #[] 51)).alloc (Obj.cells #[Value.int .i64 E, Value.int .i64 P] 51)).drew)) ((al3 W_37 (Obj.cells #[Value.slice none 0 0, Value.slice none 0 0] 26) (Obj.cells #[] 51) (Obj.cells #[Value.int .i64 E, Value.int .i64 P] 51)).2.2.2.1.drew : Below W_37.heap.size W_37 (((W_37.alloc (Obj.cells #[Value.slice none 0 0, Value.slice none 0 0] 26)).alloc (Obj.cells #[] 51)).alloc (Obj.cells #[Value.int .i64 E, Value.int .i64 P] 51)).drew).size NL.out ?_; intro v1 u1 hown1 hgrow1 hat1; have HU1 := Lib.hid (hown1); have BU1 := Lib.hid (show Below W_37.heap.size W_37 u1 from below_grow ((al3 W_37 (Obj.cells #[Value.slice none 0 0, Value.slice none 0 0] 26) (Obj.cells #[] 51) (Obj.cells #[Value.int .i64 E, Value.int .i64 P] 51)).2.2.2.1.drew : Below W_37.heap.size W_37 (((W_37.alloc (Obj.cells #[Value.slice none 0 0, Value.slice none 0 0] 26)).alloc (Obj.cells #[] 51)).alloc (Obj.cells #[Value.int .i64 E, Value.int .i64 P] 51)).drew) hgrow1 (show W_37.heap.size ≤ W_37.heap.size + 1 by omega)); have zu1 := BU1.out.size; have H4 := Lib.hid (grow_kept (b := W_37.heap.size + 1 + 1) hgrow1 (al3 W_37 (Obj.cells #[Value.slice none 0 0, Value.slice none 0 0] 26) (Obj.cells #[] 51) (Obj.cells #[Value.int .i64 E, Value.int .i64 P] 51)).2.2.1 (by omega)); have H7 := Lib.hid (grow_kept (b := W_37.heap.size) hgrow1 (al3 W_37 (Obj.cells #[Value.slice none 0 0, Value.slice none 0 0] 26) (Obj.cells #[] 51) (Obj.cells #[Value.int .i64 E, Value.int .i64 P] 51)).1 (by omega)); clear hown1 hgrow1 hat1))
        | ((refine step_append_pairs (by rfl) _ _ (by rfl) W_37.heap.size (.slice (some ⟨W_37.heap.size + 1 + 1, 0, none⟩) 0 0) [] (by rfl) (own_of_heap (X := (((W_37.alloc (Obj.cells #[Value.slice none 0 0, Value.slice none 0 0] 26)).alloc (Obj.cells #[Value.int .i64 E, Value.int .i64 P] 51)).alloc (Obj.cells #[] 51)).drew) (al3 W_37 (Obj.cells #[Value.slice none 0 0, Value.slice none 0 0] 26) (Obj.cells #[Value.int .i64 E, Value.int .i64 P] 51) (Obj.cells #[] 51)).2.2.1 (by omega)) aw lw cw ws (by rfl) (RA_40.out.below ((al3 W_37 (Obj.cells #[Value.slice none 0 0, Value.slice none 0 0] 26) (Obj.cells #[Value.int .i64 E, Value.int .i64 P] 51) (Obj.cells #[] 51)).2.2.2.1.drew : Below W_37.heap.size W_37 (((W_37.alloc (Obj.cells #[Value.slice none 0 0, Value.slice none 0 0] 26)).alloc (Obj.cells #[Value.int .i64 E, Value.int .i64 P] 51)).alloc (Obj.cells #[] 51)).drew)) ((al3 W_37 (Obj.cells #[Value.slice none 0 0, Value.slice none 0 0] 26) (Obj.cells #[Value.int .i64 E, Value.int .i64 P] 51) (Obj.cells #[] 51)).2.2.2.1.drew : Below W_37.heap.size W_37 (((W_37.alloc (Obj.cells #[Value.slice none 0 0, Value.slice none 0 0] 26)).alloc (Obj.cells #[Value.int .i64 E, Value.int .i64 P] 51)).alloc (Obj.cells #[] 51)).drew).size NL.out ?_; intro v1 u1 hown1 hgrow1 hat1; have HU1 := Lib.hid (hown1); have BU1 := Lib.hid (show Below W_37.heap.size W_37 u1 from below_grow ((al3 W_37 (Obj.cells #[Value.slice none 0 0, Value.slice none 0 0] 26) (Obj.cells #[Value.int .i64 E, Value.int .i64 P] 51) (Obj.cells #[] 51)).2.2.2.1.drew : Below W_37.heap.size W_37 (((W_37.alloc (Obj.cells #[Value.slice none 0 0, Value.slice none 0 0] 26)).alloc (Obj.cells #[Value.int .i64 E, Value.int .i64 P] 51)).alloc (Obj.cells #[] 51)).drew) hgrow1 (show W_37.heap.size ≤ W_37.heap.size + 1 + 1 by omega)); have zu1 := BU1.out.size; have H4 := Lib.hid (grow_kept (b := W_37.heap.size + 1) hgrow1 (al3 W_37 (Obj.cells #[Value.slice none 0 0, Value.slice none 0 0] 26) (Obj.cells #[Value.int .i64 E, Value.int .i64 P] 51) (Obj.cells #[] 51)).2.1 (by omega)); have H7 := Lib.hid (grow_kept (b := W_37.heap.size) hgrow1 (al3 W_37 (Obj.cells #[Value.slice none 0 0, Value.slice none 0 0] 26) (Obj.cells #[Value.int .i64 E, Value.int .i64 P] 51) (Obj.cells #[] 51)).1 (by omega)); clear hown1 hgrow1 hat1))
        | ((refine step_append_pairs (by rfl) _ _ (by rfl) W_37.heap.size v1 ([] ++ ws) (by rfl) HU1.out _ 1 1 [(E, P)] (by rfl) (row_of_heap H4.out) BU1.out.size NL2.out ?_; intro v2 u2 hown2 hgrow2 hat2; have BU2 := Lib.hid (show Below W_37.heap.size W_37 u2 from below_grow2 BU1.out hgrow2 (fun g hg => (HU1.out.lt g hg).1)); have zu2 := BU2.out.size; have H7b := Lib.hid (own_kept hgrow2 H7.out HU1.out); obtain ⟨at_, ct, hv, hrow, _⟩ := rowP_of_owns (ps := ws ++ [(E, P)]) (by have := hown2; rw [List.nil_append] at this; exact this); rw [LT.out] at hv hrow; subst hv; have RT := Lib.hid (hrow); clear hown2 hgrow2 hat2 hrow))
        | ((refine step_append_pairs (by rfl) _ _ (by rfl) W_37.heap.size v1 ([] ++ ws) (by rfl) HU1.out _ 1 1 [(E, P)] (by rfl) (row_of_heap H4.out) BU1.out.size NL2.out ?_; intro v2 u2 hown2 hgrow2 hat2; have BU2 := Lib.hid (show Below W_37.heap.size W_37 u2 from below_grow2 BU1.out hgrow2 (fun g hg => (HU1.out.lt g hg).1)); have zu2 := BU2.out.size; obtain ⟨at_, ct, hv, hrow, _⟩ := rowP_of_owns (ps := ws ++ [(E, P)]) (by have := hown2; rw [List.nil_append] at this; exact this); rw [LT.out] at hv hrow; subst hv; have RT := Lib.hid (hrow); clear hown2 hgrow2 hat2 hrow))
        | ((refine step_append_pairs (by rfl) _ _ (by rfl) W_37.heap.size v1 ([] ++ ws) (by rfl) (HU1.out.alloc (Obj.cells #[Value.slice none 0 0, Value.slice none 0 0] 26)) _ 1 1 [(E, P)] (by rfl) (row_of_heap (X := (u1.alloc (Obj.cells #[Value.slice none 0 0, Value.slice none 0 0] 26))) ((Below.heap_alloc _ _ _ (lt_of_block H4.out)).trans H4.out)) (below_next BU1.out (below_box u1 (Obj.cells #[Value.slice none 0 0, Value.slice none 0 0] 26))).size NL2.out ?_; intro v2 u2 hown2 hgrow2 hat2; have BU2 := Lib.hid (show Below W_37.heap.size W_37 u2 from below_grow2 (below_next BU1.out (below_box u1 (Obj.cells #[Value.slice none 0 0, Value.slice none 0 0] 26))) hgrow2 (fun g hg => (HU1.out.lt g hg).1)); have zu2 := BU2.out.size; have H7b := Lib.hid (own_kept (w := (u1.alloc (Obj.cells #[Value.slice none 0 0, Value.slice none 0 0] 26))) hgrow2 (heap_alloc_new u1 (Obj.cells #[Value.slice none 0 0, Value.slice none 0 0] 26)) (HU1.out.alloc (Obj.cells #[Value.slice none 0 0, Value.slice none 0 0] 26))); obtain ⟨at_, ct, hv, hrow, _⟩ := rowP_of_owns (ps := ws ++ [(E, P)]) (by have := hown2; rw [List.nil_append] at this; exact this); rw [LT.out] at hv hrow; subst hv; have RT := Lib.hid (hrow); clear hown2 hgrow2 hat2 hrow))
        | ((refine step_append_pairs (by rfl) _ _ (by rfl) W_37.heap.size v1 ([] ++ ws) (by rfl) (HU1.out.alloc (Obj.cells #[Value.int .i64 E, Value.int .i64 P] 51)) _ 1 1 [(E, P)] (by rfl) (row_of_heap (X := (u1.alloc (Obj.cells #[Value.int .i64 E, Value.int .i64 P] 51))) (heap_alloc_new u1 (Obj.cells #[Value.int .i64 E, Value.int .i64 P] 51))) (below_next BU1.out (below_box u1 (Obj.cells #[Value.int .i64 E, Value.int .i64 P] 51))).size NL2.out ?_; intro v2 u2 hown2 hgrow2 hat2; have BU2 := Lib.hid (show Below W_37.heap.size W_37 u2 from below_grow2 (below_next BU1.out (below_box u1 (Obj.cells #[Value.int .i64 E, Value.int .i64 P] 51))) hgrow2 (fun g hg => (HU1.out.lt g hg).1)); have zu2 := BU2.out.size; have H7b := Lib.hid (own_kept (w := (u1.alloc (Obj.cells #[Value.int .i64 E, Value.int .i64 P] 51))) hgrow2 ((Below.heap_alloc u1 (Obj.cells #[Value.int .i64 E, Value.int .i64 P] 51) _ (lt_of_block H7.out)).trans H7.out) (HU1.out.alloc (Obj.cells #[Value.int .i64 E, Value.int .i64 P] 51))); obtain ⟨at_, ct, hv, hrow, _⟩ := rowP_of_owns (ps := ws ++ [(E, P)]) (by have := hown2; rw [List.nil_append] at this; exact this); rw [LT.out] at hv hrow; subst hv; have RT := Lib.hid (hrow); clear hown2 hgrow2 hat2 hrow))
        | ((refine step_append_pairs (by rfl) _ _ (by rfl) W_37.heap.size v1 ([] ++ ws) (by rfl) (HU1.out.alloc (Obj.cells #[Value.int .i64 E, Value.int .i64 P] 51)) _ 1 1 [(E, P)] (by rfl) (row_of_heap (X := (u1.alloc (Obj.cells #[Value.int .i64 E, Value.int .i64 P] 51))) (heap_alloc_new u1 (Obj.cells #[Value.int .i64 E, Value.int .i64 P] 51))) (below_next BU1.out (below_box u1 (Obj.cells #[Value.int .i64 E, Value.int .i64 P] 51))).size NL2.out ?_; intro v2 u2 hown2 hgrow2 hat2; have BU2 := Lib.hid (show Below W_37.heap.size W_37 u2 from below_grow2 (below_next BU1.out (below_box u1 (Obj.cells #[Value.int .i64 E, Value.int .i64 P] 51))) hgrow2 (fun g hg => (HU1.out.lt g hg).1)); have zu2 := BU2.out.size; obtain ⟨at_, ct, hv, hrow, _⟩ := rowP_of_owns (ps := ws ++ [(E, P)]) (by have := hown2; rw [List.nil_append] at this; exact this); rw [LT.out] at hv hrow; subst hv; have RT := Lib.hid (hrow); clear hown2 hgrow2 hat2 hrow))
        | ((refine step_append_pairs (by rfl) _ _ (by rfl) W_37.heap.size v1 ([] ++ ws) (by rfl) ((HU1.out.alloc (Obj.cells #[Value.int .i64 E, Value.int .i64 P] 51)).alloc (Obj.cells #[Value.slice none 0 0, Value.slice none 0 0] 26)) _ 1 1 [(E, P)] (by rfl) (row_of_heap (X := ((u1.alloc (Obj.cells #[Value.int .i64 E, Value.int .i64 P] 51)).alloc (Obj.cells #[Value.slice none 0 0, Value.slice none 0 0] 26))) (al2 u1 (Obj.cells #[Value.int .i64 E, Value.int .i64 P] 51) (Obj.cells #[Value.slice none 0 0, Value.slice none 0 0] 26)).1) (below_next BU1.out (al2 u1 (Obj.cells #[Value.int .i64 E, Value.int .i64 P] 51) (Obj.cells #[Value.slice none 0 0, Value.slice none 0 0] 26)).2.2.1).size NL2.out ?_; intro v2 u2 hown2 hgrow2 hat2; have BU2 := Lib.hid (show Below W_37.heap.size W_37 u2 from below_grow2 (below_next BU1.out (al2 u1 (Obj.cells #[Value.int .i64 E, Value.int .i64 P] 51) (Obj.cells #[Value.slice none 0 0, Value.slice none 0 0] 26)).2.2.1) hgrow2 (fun g hg => (HU1.out.lt g hg).1)); have zu2 := BU2.out.size; have H7b := Lib.hid (own_kept (w := ((u1.alloc (Obj.cells #[Value.int .i64 E, Value.int .i64 P] 51)).alloc (Obj.cells #[Value.slice none 0 0, Value.slice none 0 0] 26))) hgrow2 (al2 u1 (Obj.cells #[Value.int .i64 E, Value.int .i64 P] 51) (Obj.cells #[Value.slice none 0 0, Value.slice none 0 0] 26)).2.1 ((HU1.out.alloc (Obj.cells #[Value.int .i64 E, Value.int .i64 P] 51)).alloc (Obj.cells #[Value.slice none 0 0, Value.slice none 0 0] 26))); obtain ⟨at_, ct, hv, hrow, _⟩ := rowP_of_owns (ps := ws ++ [(E, P)]) (by have := hown2; rw [List.nil_append] at this; exact this); rw [LT.out] at hv hrow; subst hv; have RT := Lib.hid (hrow); clear hown2 hgrow2 hat2 hrow))
        | ((refine step_append_pairs (by rfl) _ _ (by rfl) W_37.heap.size v1 ([] ++ ws) (by rfl) ((HU1.out.alloc (Obj.cells #[Value.slice none 0 0, Value.slice none 0 0] 26)).alloc (Obj.cells #[Value.int .i64 E, Value.int .i64 P] 51)) _ 1 1 [(E, P)] (by rfl) (row_of_heap (X := ((u1.alloc (Obj.cells #[Value.slice none 0 0, Value.slice none 0 0] 26)).alloc (Obj.cells #[Value.int .i64 E, Value.int .i64 P] 51))) (al2 u1 (Obj.cells #[Value.slice none 0 0, Value.slice none 0 0] 26) (Obj.cells #[Value.int .i64 E, Value.int .i64 P] 51)).2.1) (below_next BU1.out (al2 u1 (Obj.cells #[Value.slice none 0 0, Value.slice none 0 0] 26) (Obj.cells #[Value.int .i64 E, Value.int .i64 P] 51)).2.2.1).size NL2.out ?_; intro v2 u2 hown2 hgrow2 hat2; have BU2 := Lib.hid (show Below W_37.heap.size W_37 u2 from below_grow2 (below_next BU1.out (al2 u1 (Obj.cells #[Value.slice none 0 0, Value.slice none 0 0] 26) (Obj.cells #[Value.int .i64 E, Value.int .i64 P] 51)).2.2.1) hgrow2 (fun g hg => (HU1.out.lt g hg).1)); have zu2 := BU2.out.size; have H7b := Lib.hid (own_kept (w := ((u1.alloc (Obj.cells #[Value.slice none 0 0, Value.slice none 0 0] 26)).alloc (Obj.cells #[Value.int .i64 E, Value.int .i64 P] 51))) hgrow2 (al2 u1 (Obj.cells #[Value.slice none 0 0, Value.slice none 0 0] 26) (Obj.cells #[Value.int .i64 E, Value.int .i64 P] 51)).1 ((HU1.out.alloc (Obj.cells #[Value.slice none 0 0, Value.slice none 0 0] 26)).alloc (Obj.cells #[Value.int .i64 E, Value.int .i64 P] 51))); obtain ⟨at_, ct, hv, hrow, _⟩ := rowP_of_owns (ps := ws ++ [(E, P)]) (by have := hown2; rw [List.nil_append] at this; exact this); rw [LT.out] at hv hrow; subst hv; have RT := Lib.hid (hrow); clear hown2 hgrow2 hat2 hrow))
        | (go_at_call 10; ((with_reducible refine (qsum_any at_ (lw + 1) ct (ws ++ [(E, P)]) u2 RT.out FT.out l9).mono ?_)); rintro e w3 ⟨_, nt, dt, rfl, ⟨t1, t2, t3, t4, t5, t6, t7, t8, rfl, hrt⟩, hlt, het, hb⟩; rw [FS.out.1, FS.out.2] at het; have QT := Lib.hid (hrt); have LOT := Lib.hid (hlt); have EQT := Lib.hid (het); have B3 := Lib.hid (show Below W_37.heap.size W_37 w3 from below_next BU2.out hb); have H7c := Lib.hid ((hb.block _ (lt_of_block H7b.out)).trans H7b.out); have s0 := block_cell (j := 0) H7c.out; have s1 := block_cell (j := 1) H7c.out; have s2 := block_free (j := 0) H7c.out; have s3 := block_free (j := 1) H7c.out; clear hrt hlt het hb)
        | (go_at_call 10; ((with_reducible refine (qsum_any at_ (lw + 1) ct (ws ++ [(E, P)]) u2 RT.out FT.out l9).mono ?_)); rintro e w3 ⟨_, nt, dt, rfl, ⟨t1, t2, t3, t4, t5, t6, t7, t8, rfl, hrt⟩, hlt, het, hb⟩; rw [FS.out.1, FS.out.2] at het; have QT := Lib.hid (hrt); have LOT := Lib.hid (hlt); have EQT := Lib.hid (het); have B3 := Lib.hid (show Below W_37.heap.size W_37 w3 from below_next BU2.out hb); clear hrt hlt het hb)
        | (go_at_call 10; ((with_reducible refine (qsum_any at_ (lw + 1) ct (ws ++ [(E, P)]) (u2.alloc (Obj.cells #[Value.slice none 0 0, Value.slice none 0 0] 26)) (RT.out.below (below_box u2 (Obj.cells #[Value.slice none 0 0, Value.slice none 0 0] 26))) FT.out l9).mono ?_)); rintro e w3 ⟨_, nt, dt, rfl, ⟨t1, t2, t3, t4, t5, t6, t7, t8, rfl, hrt⟩, hlt, het, hb⟩; rw [FS.out.1, FS.out.2] at het; have QT := Lib.hid (hrt); have LOT := Lib.hid (hlt); have EQT := Lib.hid (het); have B3 := Lib.hid (show Below W_37.heap.size W_37 w3 from below_next (below_next BU2.out (below_box u2 (Obj.cells #[Value.slice none 0 0, Value.slice none 0 0] 26))) hb); have H7c := Lib.hid ((hb.block _ (lt_of_block (heap_alloc_new u2 (Obj.cells #[Value.slice none 0 0, Value.slice none 0 0] 26)))).trans (heap_alloc_new u2 (Obj.cells #[Value.slice none 0 0, Value.slice none 0 0] 26))); have s0 := block_cell (j := 0) H7c.out; have s1 := block_cell (j := 1) H7c.out; have s2 := block_free (j := 0) H7c.out; have s3 := block_free (j := 1) H7c.out; clear hrt hlt het hb))
    all_goals
      have RQ := Lib.hid (show Rat w3 0 (1 + 9 * 2) (.agg #[.slice t1 t2 t3, .slice t5 t6 t7]) nt dt from ⟨t1, t2, t3, t4, t5, t6, t7, t8, rfl, QT.out.1, QT.out.2.1, QT.out.2.2.1, QT.out.2.2.2.1, by have := QT.out.2.2.2.2.1; omega, by have := QT.out.2.2.2.2.2.1; omega, fresh0 _, fresh0 _⟩)
      go_wp2_with fail
      go_meet
      first
        | exact ⟨_, t1, t2, t3, t5, t6, t7, nt, dt, rfl, Box.new _ _ _ _, RQ.out.below (below_box _ _), LOT.out, EQT.out, below_next B3.out (below_box _ _)⟩
        | exact ⟨_, t1, t2, t3, t5, t6, t7, nt, dt, rfl, (box_set H7c.out RQ.out).1, (box_set H7c.out RQ.out).2, LOT.out, EQT.out, (B3.out.setCell (by first | omega | (simp only; omega)) _).setCell (by first | omega | (simp only; omega)) _⟩
  case rest =>
    clear KEPT ld1 ld2 gxlt gxne LT FS l9 NL NL2
    obtain ⟨gt, t1, t2, t3, t5, t6, t7, n2, d2, rfl, hbx, hrt, hlt, het, hbel⟩ := hcut
    have LEt := Lib.hid (lo_le hlt BTH.out.1 BTH.out.2.2.1 het)
    have LOt := Lib.hid hlt; have EQt := Lib.hid het
    have d20 : 0 < d2 := hlt.2.1
    have n20 : 0 ≤ n2 := hlt.1
    have HBL := Lib.hid hbel
    have HBX := Lib.hid hbx; have HRT := Lib.hid hrt
    clear hbx hrt hlt het hbel
    have RA_44 := Lib.hid (RA_40.out.below HBL.out)
    have BX_45 := Lib.hid (BX_41.out.below HBL.out)
    have QS_46 := Lib.hid (QS_42.out.below HBL.out)
    have BS_47 := Lib.hid (BS_39.out.below HBL.out)
    have BEL_48 := Lib.hid (show Below w.heap.size w wc from below_next BEL_43.out HBL.out)
    clear RA_40 BX_41 QS_42 BS_39 BEL_43
    have QT_49 := Lib.hid (Rat.shrink (L' := 6) HRT.out (Int.lt_of_le_of_lt LEt.out.1 BTH.out.2.1) (Int.lt_of_le_of_lt LEt.out.2 BTH.out.2.2.2))
    have BT_50 := Lib.hid (HBX.out)
    clear HBL HBX HRT
    have SD := Lib.hid (step_diff x20 EQs.out EQt.out)
    have SG := Lib.hid (step_ge d10 d20 e0 pp SD.out)
    clear RA_44
    have ld_51 := BT_50.out.c0
    have ld_52 := BT_50.out.c1
    have ld_53 := BS_47.out.c0
    have ld_54 := BS_47.out.c1
    go_wp2_with fail
    clear ld_51 ld_52 ld_53 ld_54
    refine (qsub_any (.agg #[.slice t1 t2 t3, .slice t5 t6 t7]) (.agg #[.slice s1 s2 s3, .slice s5 s6 s7]) n2 d2 n1 d1 0 0 6 wc QT_49.out QS_46.out d20 d10 n20 n10 (by decide)).mono ?_
    rintro e w_55 ⟨vd, er, rfl, hb, hcase⟩
    have BX_56 := Lib.hid (BX_45.out.below hb)
    have QS_57 := Lib.hid (QS_46.out.below hb)
    have BS_58 := Lib.hid (BS_47.out.below hb)
    have QT_59 := Lib.hid (QT_49.out.below hb)
    have BT_60 := Lib.hid (BT_50.out.below hb)
    have BEL_61 := Lib.hid (show Below w.heap.size w w_55 from below_next BEL_48.out hb)
    clear BX_45 QS_46 BS_47 QT_49 BT_50 BEL_48
    have hway : er = 0 ∧ ∃ n d, Rat w_55 0 (6 + 6) vd n d ∧ Lo n d ∧ n * (d2 * d1) = (n2 * d1 - n1 * d2) * d := by
      rcases hcase with ⟨g, _⟩ | ⟨_, g⟩
      · exfalso; have := SG.out.1; omega
      · exact g
    obtain ⟨rfl, n3, d3, hrd, hlo, heq⟩ := hway
    have SP := Lib.hid (step_part d10 d20 SD.out heq)
    have d30 : 0 < d3 := hlo.2.1
    have n30 : 0 ≤ n3 := hlo.1
    have EQd := Lib.hid heq
    obtain ⟨e1', e2', e3', e4', e5', e6', e7', e8', rfl, r1, i1, r2, i2, m1, m2, f1, f2⟩ := hrd
    have QD_62 := Lib.hid (show Rat w_55 0 12 (.agg #[.slice e1' e2' e3', .slice e5' e6' e7']) n3 d3 from ⟨e1', e2', e3', e4', e5', e6', e7', e8', rfl, r1, i1, r2, i2, m1, m2, fresh0 _, fresh0 _⟩)
    have QS12_63 := Lib.hid (QS_57.out.mono (Nat.zero_le 0) (show 6 ≤ 12 by decide))
    clear r1 i1 r2 i2 m1 m2 f1 f2 hlo heq hb hcase
    have C1 := Lib.hid (show cmpI (n3 * P) (E * d3) = 0 from cmpI_eq SP.out)
    have KK : ∃ k : Int, cmpI (n2 * d1) (n1 * d2) = k ∧ decide (0 < k) = decide (0 < E) := by
      rcases Int.lt_or_eq_of_le e0 with g | g
      · refine ⟨1, cmpI_gt (SG.out.2.1 g), ?_⟩
        simp [g]
      · refine ⟨0, cmpI_eq (SG.out.2.2 g.symm), ?_⟩
        simp [← g]
    obtain ⟨k, hk, bk⟩ := KK
    have C2 := Lib.hid hk
    clear hk
    have o12 : 12 ≤ 800 := by decide
    have o1 : 1 ≤ 800 := by decide
    have o6 : 6 ≤ 800 := by decide
    have o63 : 6 ≤ 300 := by decide
    have o123 : 12 ≤ 300 := by decide
    have z0 : (0 : Int) ≤ 0 := Int.le_refl _
    have z1 : (0 : Int) ≤ 18446744073709551615 := by decide
    go_wp2
    obtain ⟨W_64, hW_64⟩ : ∃ W, w_55.alloc (Obj.cells #[Value.slice e1' e2' e3', Value.slice e5' e6' e7'] 26) = W := ⟨_, rfl⟩
    obtain ⟨gd, hgd⟩ : ∃ g, w_55.heap.size = g := ⟨_, rfl⟩
    have NB_65 := Lib.hid (show Below w_55.heap.size w_55 W_64 by rw [← hW_64]; exact below_box _ _)
    have BD_66 := Lib.hid (show Box W_64 26 gd (Value.slice e1' e2' e3') (Value.slice e5' e6' e7') by rw [← hW_64, ← hgd]; exact Box.new _ _ _ _)
    rw [hW_64, hgd]
    clear hW_64 hgd
    have BX_67 := Lib.hid (BX_56.out.below NB_65.out)
    have QS_68 := Lib.hid (QS_57.out.below NB_65.out)
    have BS_69 := Lib.hid (BS_58.out.below NB_65.out)
    have QT_70 := Lib.hid (QT_59.out.below NB_65.out)
    have BT_71 := Lib.hid (BT_60.out.below NB_65.out)
    have QD_72 := Lib.hid (QD_62.out.below NB_65.out)
    have QS12_73 := Lib.hid (QS12_63.out.below NB_65.out)
    have BEL_74 := Lib.hid (show Below w.heap.size w W_64 from below_next BEL_61.out NB_65.out)
    clear BX_56 QS_57 BS_58 QT_59 BT_60 QD_62 QS12_63 BEL_61
    clear NB_65
    have BX_75 := Lib.hid (BX_67.out.drew)
    have QS_76 := Lib.hid (QS_68.out.drew)
    have BS_77 := Lib.hid (BS_69.out.drew)
    have QT_78 := Lib.hid (QT_70.out.drew)
    have BT_79 := Lib.hid (BT_71.out.drew)
    have QD_80 := Lib.hid (QD_72.out.drew)
    have QS12_81 := Lib.hid (QS12_73.out.drew)
    have BD_82 := Lib.hid (BD_66.out.drew)
    have BEL_83 := Lib.hid (show Below w.heap.size w W_64.drew from BEL_74.out.drew)
    clear BX_67 QS_68 BS_69 QT_70 BT_71 QD_72 QS12_73 BD_66 BEL_74
    have KEPT_84 := Lib.hid (show ∀ w', Below W_64.drew.heap.size W_64.drew w' → (w'.cell? ⟨gd, 0, none⟩ = some (Value.slice e1' e2' e3') ∧ w'.cell? ⟨gd, 1, none⟩ = some (Value.slice e5' e6' e7') ∧ w'.cell? ⟨gx, 0, none⟩ = some (Value.int .i64 E) ∧ w'.cell? ⟨gx, 1, none⟩ = some (Value.int .i64 P) ∧ w'.cell? ⟨gs, 0, none⟩ = some (Value.slice s1 s2 s3) ∧ w'.cell? ⟨gs, 1, none⟩ = some (Value.slice s5 s6 s7) ∧ w'.cell? ⟨gt, 0, none⟩ = some (Value.slice t1 t2 t3) ∧ w'.cell? ⟨gt, 1, none⟩ = some (Value.slice t5 t6 t7)) from fun w' h => ⟨(BD_82.out.below h).c0, (BD_82.out.below h).c1, (BX_75.out.below h).c0, (BX_75.out.below h).c1, (BS_77.out.below h).c0, (BS_77.out.below h).c1, (BT_79.out.below h).c0, (BT_79.out.below h).c1⟩)
    have ld_85 := BD_82.out.c0
    have ld_86 := BD_82.out.c1
    have ld_87 := BX_75.out.c0
    have ld_88 := BX_75.out.c1
    have ld_89 := BS_77.out.c0
    have ld_90 := BS_77.out.c1
    have ld_91 := BT_79.out.c0
    have ld_92 := BT_79.out.c1
    go_region_held3 (fun w' => w'.cell? ⟨gd, 0, none⟩ = some (Value.slice e1' e2' e3') ∧ w'.cell? ⟨gd, 1, none⟩ = some (Value.slice e5' e6' e7') ∧ w'.cell? ⟨gx, 0, none⟩ = some (Value.int .i64 E) ∧ w'.cell? ⟨gx, 1, none⟩ = some (Value.int .i64 P) ∧ w'.cell? ⟨gs, 0, none⟩ = some (Value.slice s1 s2 s3) ∧ w'.cell? ⟨gs, 1, none⟩ = some (Value.slice s5 s6 s7) ∧ w'.cell? ⟨gt, 0, none⟩ = some (Value.slice t1 t2 t3) ∧ w'.cell? ⟨gt, 1, none⟩ = some (Value.slice t5 t6 t7))
      (first | exact KEPT_84.out _ (Below.refl _ _) | exact KEPT_84.out _ R_93X1.out | exact KEPT_84.out _ R_93X2.out | exact KEPT_84.out _ R_93X3.out | exact KEPT_84.out _ R_93X4.out | exact KEPT_84.out _ R_93X5.out | exact KEPT_84.out _ R_93X6.out | exact KEPT_84.out _ R_93X7.out | exact KEPT_84.out _ R_93X8.out)
      (first
        | (go_at_call 28; ((with_reducible refine (qof_any E P W_64.drew e0 e1 p0 p1).mono ?_)); rintro e R_93w1 ⟨vo, rfl, hro, hb⟩; have RO := Lib.hid hro; clear hro; have R_93X1l := Lib.hid hb; have R_93X1 := Lib.hid (hb); clear hb)
        | (go_at_call 15; ((with_reducible refine (qcmp_any (.agg #[.slice e1' e2' e3', .slice e5' e6' e7']) vo n3 d3 E P 0 0 12 1 R_93w1 (QD_80.out.below R_93X1.out) RO.out o12 o1 0 C1.out).mono ?_)); rintro e R_93w2 ⟨rfl, hb⟩; have R_93X2l := Lib.hid hb; have R_93X2 := Lib.hid (below_next R_93X1.out hb); clear hb)
        | (go_at_call 26; ((with_reducible refine (whole_any 0 R_93w2 (Int.le_refl 0) (by decide)).mono ?_)); rintro e R_93w3 ⟨vw, rfl, hrw, hb⟩; have RW := Lib.hid (hrw.mono (Nat.zero_le 0) (show 2 ≤ 6 by decide)); clear hrw; have R_93X3l := Lib.hid hb; have R_93X3 := Lib.hid (below_next R_93X2.out hb); clear hb)
        | (go_at_call 16; ((with_reducible refine (qadd_any (.agg #[.slice s1 s2 s3, .slice s5 s6 s7]) vw n1 d1 0 1 0 0 6 R_93w3 (QS_76.out.below R_93X3.out) RW.out d10 (by decide) n10 (Int.le_refl 0) o63).mono ?_)); rintro e R_93w4 ⟨va, na, da, rfl, hra, hla, hea, hb⟩; obtain ⟨rfl, rfl⟩ := add_none LOs.out hla hea; have RAA := Lib.hid hra; clear hra hla hea; have R_93X4l := Lib.hid hb; have R_93X4 := Lib.hid (below_next R_93X3.out hb); clear hb)
        | (go_at_call 25; ((with_reducible refine (qsame_yes va (.agg #[.slice s1 s2 s3, .slice s5 s6 s7]) _ _ 0 0 _ 6 R_93w4 RAA.out (QS_76.out.below R_93X4.out)).mono ?_)); rintro e R_93w5 ⟨rfl, hb⟩; have R_93X5l := Lib.hid hb; have R_93X5 := Lib.hid (below_next R_93X4.out hb); clear hb)
        | (go_at_call 16; ((with_reducible refine (qadd_any (.agg #[.slice s1 s2 s3, .slice s5 s6 s7]) (.agg #[.slice e1' e2' e3', .slice e5' e6' e7']) _ _ n3 d3 0 0 12 R_93w5 (QS12_81.out.below R_93X5.out) (QD_80.out.below R_93X5.out) d10 d30 n10 n30 o123).mono ?_)); rintro e R_93w6 ⟨vb, nb, db, rfl, hrb, hlb, heb, hb⟩; obtain ⟨rfl, rfl⟩ := add_back d10 d30 LOt.out hlb heb EQd.out; have RBB := Lib.hid hrb; clear hrb hlb heb; have R_93X6l := Lib.hid hb; have R_93X6 := Lib.hid (below_next R_93X5.out hb); clear hb)
        | (go_at_call 25; ((with_reducible refine (qsame_yes vb (.agg #[.slice t1 t2 t3, .slice t5 t6 t7]) _ _ 0 0 _ 6 R_93w6 RBB.out (QT_78.out.below R_93X6.out)).mono ?_)); rintro e R_93w7 ⟨rfl, hb⟩; have R_93X7l := Lib.hid hb; have R_93X7 := Lib.hid (below_next R_93X6.out hb); clear hb)
        | (go_at_call 15; ((with_reducible refine (qcmp_any (.agg #[.slice t1 t2 t3, .slice t5 t6 t7]) (.agg #[.slice s1 s2 s3, .slice s5 s6 s7]) _ _ _ _ 0 0 6 6 R_93w7 (QT_78.out.below R_93X7.out) (QS_76.out.below R_93X7.out) o6 o6 k C2.out).mono ?_)); rintro e R_93w8 ⟨rfl, hb⟩; have R_93X8l := Lib.hid hb; have R_93X8 := Lib.hid (below_next R_93X7.out hb); clear hb))
    all_goals
      clear ld_85 ld_86 ld_87 ld_88 ld_89 ld_90 ld_91 ld_92 KEPT_84
      have BX_94 := Lib.hid (BX_75.out.below R_93X8.out)
      have QS_95 := Lib.hid (QS_76.out.below R_93X8.out)
      have BS_96 := Lib.hid (BS_77.out.below R_93X8.out)
      have QT_97 := Lib.hid (QT_78.out.below R_93X8.out)
      have BT_98 := Lib.hid (BT_79.out.below R_93X8.out)
      have QD_99 := Lib.hid (QD_80.out.below R_93X8.out)
      have QS12_100 := Lib.hid (QS12_81.out.below R_93X8.out)
      have BD_101 := Lib.hid (BD_82.out.below R_93X8.out)
      have BEL_102 := Lib.hid (show Below w.heap.size w R_93w8 from below_next BEL_83.out R_93X8.out)
      clear BX_75 QS_76 BS_77 QT_78 BT_79 QD_80 QS12_81 BD_82 BEL_83
      go_wp2
      go_ret
      exact ⟨rfl, BEL_102.out⟩
end Go.Proofs.Ytenibpnifnlfeaa
