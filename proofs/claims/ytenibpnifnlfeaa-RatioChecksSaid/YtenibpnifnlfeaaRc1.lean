/-
  RatioChecks: the walk.
-/
import Derived.Test.YtenibpnifnlfeaaRq6
namespace Go.Proofs.Ytenibpnifnlfeaa
open Go.RowKit

set_option maxHeartbeats 4000000 in
theorem checks_core (a0 : Option Addr) (len0 cap0 : Nat) (z0 : List Int) (a1 : Option Addr) (len1 cap1 : Nat) (z1 : List Int) (qa qb : Int) (w : World) (h0 : Row .u32 w a0 len0 cap0 z0) (h1 : Row .u32 w a1 len1 cap1 z1) :
    Calls Try.prog 7 #[.slice a0 len0 cap0, .slice a1 len1 cap1, .agg #[.int .i64 qa, .int .i64 qb]] w fun e w' => e = .returned (.bool true) ∧ Below w.heap.size w w' := by
  have H0 := Lib.hid h0; have H1 := Lib.hid h1
  have ⟨c1, c2⟩ := h0.cap_le
  have ⟨c3, c4⟩ := h1.cap_le
  clear h0 h1
  go_enter Try.func7, Try.ntmps7
  go_wp2_with fail
  have BX := Lib.hid (Box.new w 52 (.int .i64 qa) (.int .i64 qb))
  have B0 := Lib.hid (below_box w (.cells #[.int .i64 qa, .int .i64 qb] 52))
  obtain ⟨W0, hW0⟩ : ∃ W0, w.alloc (Obj.cells #[Value.int IntKind.i64 qa, Value.int IntKind.i64 qb] 52) = W0 := ⟨_, rfl⟩
  rw [hW0] at BX B0 ⊢
  clear hW0
  refine (qawake_any W0).mono ?_
  rintro e w1 ⟨rfl, hb⟩
  have BX1 := Lib.hid (BX.out.below hb)
  have B1 := Lib.hid (below_next B0.out hb)
  have b0 := BX1.out.c0
  have b1 := BX1.out.c1
  have lt1 := lt_of_block BX1.out
  clear hb BX B0
  -- what is kept of the two rows
  have TN : ∃ (l : Nat) (zs : List Int), l ≤ 4 ∧ Row .u32 w a0 l cap0 zs ∧ ((4 < len0 ∧ l = 4) ∨ (len0 ≤ 4 ∧ l = len0)) := by
    rcases Nat.lt_or_ge 4 len0 with g | g
    · exact ⟨4, _, Nat.le_refl _, H0.out.take (by omega), .inl ⟨g, rfl⟩⟩
    · exact ⟨len0, _, g, H0.out, .inr ⟨g, rfl⟩⟩
  have TD : ∃ (l : Nat) (zs : List Int), l ≤ 4 ∧ Row .u32 w a1 l cap1 zs ∧ ((4 < len1 ∧ l = 4) ∨ (len1 ≤ 4 ∧ l = len1)) := by
    rcases Nat.lt_or_ge 4 len1 with g | g
    · exact ⟨4, _, Nat.le_refl _, H1.out.take (by omega), .inl ⟨g, rfl⟩⟩
    · exact ⟨len1, _, g, H1.out, .inr ⟨g, rfl⟩⟩
  obtain ⟨l0, y0, l04, r0, g0⟩ := TN
  obtain ⟨l1, y1, l14, r1, g1⟩ := TD
  have R0 := Lib.hid r0; have R1 := Lib.hid r1
  clear r0 r1 H0 H1
  obtain ⟨r, hr⟩ : ∃ r : Bool, r = true ↔ (Top y0 ∧ Top y1 ∧ y1 ≠ []) := by
    by_cases h : Top y0 ∧ Top y1 ∧ y1 ≠ []
    · exact ⟨true, ⟨fun _ => h, fun _ => rfl⟩⟩
    · exact ⟨false, ⟨fun e => (by cases e), fun e => absurd e h⟩⟩
  have HR := Lib.hid hr
  clear hr
  obtain ⟨p, hp⟩ : ∃ p, mkW (qa, qb) = p := ⟨_, rfl⟩
  have FM := fit_mk (qa, qb)
  rw [hp] at FM
  have MP := Lib.hid hp
  obtain ⟨E, P⟩ := p
  obtain ⟨⟨e0, e1, p0, p1⟩, _⟩ := FM
  simp only at e0 e1 p0 p1
  have p00 : 0 ≤ P := by omega
  clear hp
  have CZ := Lib.hid (show cmpI (E * P) (E * P) = 0 from cmpI_eq rfl)
  rcases g0 with ⟨g0, rfl⟩ | ⟨g0, rfl⟩
  · rcases g1 with ⟨g1, rfl⟩ | ⟨g1, rfl⟩
    · have _u := g0
      go_wp2_with fail
      obtain ⟨W2, hW2⟩ : ∃ W2, w1.alloc (Obj.cells #[Value.slice a0 4 cap0, Value.slice a1 4 cap1] 26) = W2 := ⟨_, rfl⟩
      obtain ⟨ga, hga⟩ : ∃ ga, w1.heap.size = ga := ⟨_, rfl⟩
      have BA2 := Lib.hid (show Box W2 26 ga (.slice a0 4 cap0) (.slice a1 4 cap1) by rw [← hW2, ← hga]; exact Box.new _ _ _ _)
      have B2 := Lib.hid (show Below w.heap.size w W2 by rw [← hW2]; exact below_next B1.out (below_box _ _))
      have SZ2 : W2.heap.size = ga + 1 := by rw [← hW2, ← hga, size_alloc]
      rw [hW2, hga, ← SZ2]
      clear hW2 hga b0 b1 SZ2
      obtain ⟨W3, hW3⟩ : ∃ W3, W2.alloc (Obj.cells #[Value.int .i64 qa, Value.int .i64 qb] 52) = W3 := ⟨_, rfl⟩
      have RP := Lib.hid (show RowP W3 (some ⟨W2.heap.size, 0, none⟩) 1 1 [(qa, qb)] by rw [← hW3]; exact rowP_one _ _ _ _)
      have HB3 := Lib.hid (show Below W2.heap.size W2 W3 by rw [← hW3]; exact below_box _ _)
      have BA3 := Lib.hid (BA2.out.below HB3.out)
      have B3 := Lib.hid (below_next B2.out HB3.out)
      rw [hW3]
      clear hW3 BA2 B2 HB3
      refine (weights_any _ 1 1 [(qa, qb)] W3 RP.out).mono ?_
      rintro e w4 ⟨aw, lw, cw, rfl, hrow, hb, _⟩
      obtain rfl : lw = 1 := by have := hrow.len; simpa using this.symm
      obtain ⟨bw, ow, rfl, x0, x1⟩ := hrow.cell (show 0 < 1 by omega)
      rw [show (([(qa, qb)].take 8).map mkW).getD 0 (0, 0) = (E, P) by rw [← MP.out]; rfl] at x0 x1
      simp only [Nat.zero_mul, Nat.add_zero] at x0 x1
      have ⟨cw1, cw2⟩ := hrow.cap_le
      have BA4 := Lib.hid (BA3.out.below hb)
      have B4 := Lib.hid (below_next B3.out hb)
      clear hrow hb BA3 B3 RP
      go_wp2
      obtain ⟨W5, hW5⟩ : ∃ W5, w4.alloc (Obj.cells #[Value.int .i64 E, Value.int .i64 P] 51) = W5 := ⟨_, rfl⟩
      obtain ⟨gw, hgw⟩ : ∃ gw, w4.heap.size = gw := ⟨_, rfl⟩
      have HB5 := Lib.hid (show Below w4.heap.size w4 W5 by rw [← hW5]; exact below_box _ _)
      have BW5 := Lib.hid (show Box W5 51 gw (.int .i64 E) (.int .i64 P) by rw [← hW5, ← hgw]; exact Box.new _ _ _ _)
      have BA5 := Lib.hid (BA4.out.below HB5.out)
      have B5 := Lib.hid (show Below w.heap.size w W5.drew from (below_next B4.out HB5.out).drew)
      rw [hW5, hgw]
      clear hW5 hgw x0 x1 BA4 B4 HB5
      have KEPT := Lib.hid (show ∀ w', Below W5.drew.heap.size W5.drew w' → (w'.cell? ⟨ga, 0, none⟩ = some (.slice a0 4 cap0) ∧ w'.cell? ⟨ga, 1, none⟩ = some (.slice a1 4 cap1) ∧ w'.cell? ⟨gw, 0, none⟩ = some (.int .i64 E) ∧ w'.cell? ⟨gw, 1, none⟩ = some (.int .i64 P)) from fun w' h => ⟨(BA5.out.drew.below h).c0, (BA5.out.drew.below h).c1, (BW5.out.drew.below h).c0, (BW5.out.drew.below h).c1⟩)
      have m0 := (BA5.out.drew).c0; have m1 := (BA5.out.drew).c1; have m2 := (BW5.out.drew).c0; have m3 := (BW5.out.drew).c1
      have S0 := Lib.hid (R0.out.below B5.out); have S1 := Lib.hid (R1.out.below B5.out)
      have pp : 0 < P := by omega
      skip
      all_goals
        go_region_held3 (fun w' => w'.cell? ⟨ga, 0, none⟩ = some (.slice a0 4 cap0) ∧ w'.cell? ⟨ga, 1, none⟩ = some (.slice a1 4 cap1) ∧ w'.cell? ⟨gw, 0, none⟩ = some (.int .i64 E) ∧ w'.cell? ⟨gw, 1, none⟩ = some (.int .i64 P))
          (first | exact KEPT.out _ (Below.refl _ _) | exact KEPT.out _ X1.out | exact KEPT.out _ X2.out | exact KEPT.out _ X3.out | exact KEPT.out _ X4.out | exact KEPT.out _ X5.out | exact KEPT.out _ X6.out | exact KEPT.out _ X7.out)
          (first
            | (go_at_call 13; ((with_reducible refine (qcheck_any a0 _ cap0 y0 a1 _ cap1 y1 W5.drew S0.out S1.out r HR.out).mono ?_)); rintro e w6 ⟨rfl, hb⟩; have X1 := Lib.hid hb; clear hb)
            | (go_at_call 27; ((with_reducible refine (rcheck_any a0 _ cap0 y0 a1 _ cap1 y1 w6 (S0.out.below X1.out) (S1.out.below X1.out) r HR.out).mono ?_)); rintro e w7 ⟨rfl, hb⟩; have X2 := Lib.hid (below_next X1.out hb); clear hb)
            | (go_at_call 28; ((with_reducible refine (qof_any E P w7 e0 e1 p0 p1).mono ?_)); rintro e w8 ⟨v8, rfl, hr8, hb⟩; have Q8 := Lib.hid hr8; have X3 := Lib.hid (below_next X2.out hb); clear hr8 hb)
            | (go_at_call 29; ((with_reducible refine (rof_any E P w8 e0 e1 p00 p1).mono ?_)); rintro e w9 ⟨v9, rfl, hr9, hb⟩; have Q9 := Lib.hid hr9; have Q8' := Lib.hid (Q8.out.below hb); have X4 := Lib.hid (below_next X3.out hb); clear hr9 hb)
            | (go_at_call 14; ((with_reducible refine (rcmp_any v8 v9 E P E P 0 _ 1 1 w9 Q8'.out Q9.out (by decide)).mono ?_)); rintro e w10 ⟨rfl, hb⟩; rw [CZ.out]; have X5 := Lib.hid (below_next X4.out hb); clear hb)
            | (go_at_call 28; ((with_reducible refine (qof_any E P w10 e0 e1 p0 p1).mono ?_)); rintro e w11 ⟨v11, rfl, hr11, hb⟩; have Q11 := Lib.hid hr11; have X6 := Lib.hid (below_next X5.out hb); clear hr11 hb)
            | (go_at_call 13; ((with_reducible refine (qcheck_yes v11 E P 1 0 w11 Q11.out pp).mono ?_)); rintro e w12 ⟨rfl, hb⟩; have X7 := Lib.hid (below_next X6.out hb); clear hb))
        all_goals
          go_wp2
          go_ret
          exact ⟨rfl, below_next B5.out X7.out⟩
    · have _u := g0
      go_wp2_with fail
      obtain ⟨W2, hW2⟩ : ∃ W2, w1.alloc (Obj.cells #[Value.slice a0 4 cap0, Value.slice a1 l1 cap1] 26) = W2 := ⟨_, rfl⟩
      obtain ⟨ga, hga⟩ : ∃ ga, w1.heap.size = ga := ⟨_, rfl⟩
      have BA2 := Lib.hid (show Box W2 26 ga (.slice a0 4 cap0) (.slice a1 l1 cap1) by rw [← hW2, ← hga]; exact Box.new _ _ _ _)
      have B2 := Lib.hid (show Below w.heap.size w W2 by rw [← hW2]; exact below_next B1.out (below_box _ _))
      have SZ2 : W2.heap.size = ga + 1 := by rw [← hW2, ← hga, size_alloc]
      rw [hW2, hga, ← SZ2]
      clear hW2 hga b0 b1 SZ2
      obtain ⟨W3, hW3⟩ : ∃ W3, W2.alloc (Obj.cells #[Value.int .i64 qa, Value.int .i64 qb] 52) = W3 := ⟨_, rfl⟩
      have RP := Lib.hid (show RowP W3 (some ⟨W2.heap.size, 0, none⟩) 1 1 [(qa, qb)] by rw [← hW3]; exact rowP_one _ _ _ _)
      have HB3 := Lib.hid (show Below W2.heap.size W2 W3 by rw [← hW3]; exact below_box _ _)
      have BA3 := Lib.hid (BA2.out.below HB3.out)
      have B3 := Lib.hid (below_next B2.out HB3.out)
      rw [hW3]
      clear hW3 BA2 B2 HB3
      refine (weights_any _ 1 1 [(qa, qb)] W3 RP.out).mono ?_
      rintro e w4 ⟨aw, lw, cw, rfl, hrow, hb, _⟩
      obtain rfl : lw = 1 := by have := hrow.len; simpa using this.symm
      obtain ⟨bw, ow, rfl, x0, x1⟩ := hrow.cell (show 0 < 1 by omega)
      rw [show (([(qa, qb)].take 8).map mkW).getD 0 (0, 0) = (E, P) by rw [← MP.out]; rfl] at x0 x1
      simp only [Nat.zero_mul, Nat.add_zero] at x0 x1
      have ⟨cw1, cw2⟩ := hrow.cap_le
      have BA4 := Lib.hid (BA3.out.below hb)
      have B4 := Lib.hid (below_next B3.out hb)
      clear hrow hb BA3 B3 RP
      go_wp2
      obtain ⟨W5, hW5⟩ : ∃ W5, w4.alloc (Obj.cells #[Value.int .i64 E, Value.int .i64 P] 51) = W5 := ⟨_, rfl⟩
      obtain ⟨gw, hgw⟩ : ∃ gw, w4.heap.size = gw := ⟨_, rfl⟩
      have HB5 := Lib.hid (show Below w4.heap.size w4 W5 by rw [← hW5]; exact below_box _ _)
      have BW5 := Lib.hid (show Box W5 51 gw (.int .i64 E) (.int .i64 P) by rw [← hW5, ← hgw]; exact Box.new _ _ _ _)
      have BA5 := Lib.hid (BA4.out.below HB5.out)
      have B5 := Lib.hid (show Below w.heap.size w W5.drew from (below_next B4.out HB5.out).drew)
      rw [hW5, hgw]
      clear hW5 hgw x0 x1 BA4 B4 HB5
      have KEPT := Lib.hid (show ∀ w', Below W5.drew.heap.size W5.drew w' → (w'.cell? ⟨ga, 0, none⟩ = some (.slice a0 4 cap0) ∧ w'.cell? ⟨ga, 1, none⟩ = some (.slice a1 l1 cap1) ∧ w'.cell? ⟨gw, 0, none⟩ = some (.int .i64 E) ∧ w'.cell? ⟨gw, 1, none⟩ = some (.int .i64 P)) from fun w' h => ⟨(BA5.out.drew.below h).c0, (BA5.out.drew.below h).c1, (BW5.out.drew.below h).c0, (BW5.out.drew.below h).c1⟩)
      have m0 := (BA5.out.drew).c0; have m1 := (BA5.out.drew).c1; have m2 := (BW5.out.drew).c0; have m3 := (BW5.out.drew).c1
      have S0 := Lib.hid (R0.out.below B5.out); have S1 := Lib.hid (R1.out.below B5.out)
      have pp : 0 < P := by omega
      skip
      all_goals
        go_region_held3 (fun w' => w'.cell? ⟨ga, 0, none⟩ = some (.slice a0 4 cap0) ∧ w'.cell? ⟨ga, 1, none⟩ = some (.slice a1 l1 cap1) ∧ w'.cell? ⟨gw, 0, none⟩ = some (.int .i64 E) ∧ w'.cell? ⟨gw, 1, none⟩ = some (.int .i64 P))
          (first | exact KEPT.out _ (Below.refl _ _) | exact KEPT.out _ X1.out | exact KEPT.out _ X2.out | exact KEPT.out _ X3.out | exact KEPT.out _ X4.out | exact KEPT.out _ X5.out | exact KEPT.out _ X6.out | exact KEPT.out _ X7.out)
          (first
            | (go_at_call 13; ((with_reducible refine (qcheck_any a0 _ cap0 y0 a1 _ cap1 y1 W5.drew S0.out S1.out r HR.out).mono ?_)); rintro e w6 ⟨rfl, hb⟩; have X1 := Lib.hid hb; clear hb)
            | (go_at_call 27; ((with_reducible refine (rcheck_any a0 _ cap0 y0 a1 _ cap1 y1 w6 (S0.out.below X1.out) (S1.out.below X1.out) r HR.out).mono ?_)); rintro e w7 ⟨rfl, hb⟩; have X2 := Lib.hid (below_next X1.out hb); clear hb)
            | (go_at_call 28; ((with_reducible refine (qof_any E P w7 e0 e1 p0 p1).mono ?_)); rintro e w8 ⟨v8, rfl, hr8, hb⟩; have Q8 := Lib.hid hr8; have X3 := Lib.hid (below_next X2.out hb); clear hr8 hb)
            | (go_at_call 29; ((with_reducible refine (rof_any E P w8 e0 e1 p00 p1).mono ?_)); rintro e w9 ⟨v9, rfl, hr9, hb⟩; have Q9 := Lib.hid hr9; have Q8' := Lib.hid (Q8.out.below hb); have X4 := Lib.hid (below_next X3.out hb); clear hr9 hb)
            | (go_at_call 14; ((with_reducible refine (rcmp_any v8 v9 E P E P 0 _ 1 1 w9 Q8'.out Q9.out (by decide)).mono ?_)); rintro e w10 ⟨rfl, hb⟩; rw [CZ.out]; have X5 := Lib.hid (below_next X4.out hb); clear hb)
            | (go_at_call 28; ((with_reducible refine (qof_any E P w10 e0 e1 p0 p1).mono ?_)); rintro e w11 ⟨v11, rfl, hr11, hb⟩; have Q11 := Lib.hid hr11; have X6 := Lib.hid (below_next X5.out hb); clear hr11 hb)
            | (go_at_call 13; ((with_reducible refine (qcheck_yes v11 E P 1 0 w11 Q11.out pp).mono ?_)); rintro e w12 ⟨rfl, hb⟩; have X7 := Lib.hid (below_next X6.out hb); clear hb))
        all_goals
          go_wp2
          go_ret
          exact ⟨rfl, below_next B5.out X7.out⟩
  · rcases g1 with ⟨g1, rfl⟩ | ⟨g1, rfl⟩
    · have _u := g0
      go_wp2_with fail
      obtain ⟨W2, hW2⟩ : ∃ W2, w1.alloc (Obj.cells #[Value.slice a0 l0 cap0, Value.slice a1 4 cap1] 26) = W2 := ⟨_, rfl⟩
      obtain ⟨ga, hga⟩ : ∃ ga, w1.heap.size = ga := ⟨_, rfl⟩
      have BA2 := Lib.hid (show Box W2 26 ga (.slice a0 l0 cap0) (.slice a1 4 cap1) by rw [← hW2, ← hga]; exact Box.new _ _ _ _)
      have B2 := Lib.hid (show Below w.heap.size w W2 by rw [← hW2]; exact below_next B1.out (below_box _ _))
      have SZ2 : W2.heap.size = ga + 1 := by rw [← hW2, ← hga, size_alloc]
      rw [hW2, hga, ← SZ2]
      clear hW2 hga b0 b1 SZ2
      obtain ⟨W3, hW3⟩ : ∃ W3, W2.alloc (Obj.cells #[Value.int .i64 qa, Value.int .i64 qb] 52) = W3 := ⟨_, rfl⟩
      have RP := Lib.hid (show RowP W3 (some ⟨W2.heap.size, 0, none⟩) 1 1 [(qa, qb)] by rw [← hW3]; exact rowP_one _ _ _ _)
      have HB3 := Lib.hid (show Below W2.heap.size W2 W3 by rw [← hW3]; exact below_box _ _)
      have BA3 := Lib.hid (BA2.out.below HB3.out)
      have B3 := Lib.hid (below_next B2.out HB3.out)
      rw [hW3]
      clear hW3 BA2 B2 HB3
      refine (weights_any _ 1 1 [(qa, qb)] W3 RP.out).mono ?_
      rintro e w4 ⟨aw, lw, cw, rfl, hrow, hb, _⟩
      obtain rfl : lw = 1 := by have := hrow.len; simpa using this.symm
      obtain ⟨bw, ow, rfl, x0, x1⟩ := hrow.cell (show 0 < 1 by omega)
      rw [show (([(qa, qb)].take 8).map mkW).getD 0 (0, 0) = (E, P) by rw [← MP.out]; rfl] at x0 x1
      simp only [Nat.zero_mul, Nat.add_zero] at x0 x1
      have ⟨cw1, cw2⟩ := hrow.cap_le
      have BA4 := Lib.hid (BA3.out.below hb)
      have B4 := Lib.hid (below_next B3.out hb)
      clear hrow hb BA3 B3 RP
      go_wp2
      obtain ⟨W5, hW5⟩ : ∃ W5, w4.alloc (Obj.cells #[Value.int .i64 E, Value.int .i64 P] 51) = W5 := ⟨_, rfl⟩
      obtain ⟨gw, hgw⟩ : ∃ gw, w4.heap.size = gw := ⟨_, rfl⟩
      have HB5 := Lib.hid (show Below w4.heap.size w4 W5 by rw [← hW5]; exact below_box _ _)
      have BW5 := Lib.hid (show Box W5 51 gw (.int .i64 E) (.int .i64 P) by rw [← hW5, ← hgw]; exact Box.new _ _ _ _)
      have BA5 := Lib.hid (BA4.out.below HB5.out)
      have B5 := Lib.hid (show Below w.heap.size w W5.drew from (below_next B4.out HB5.out).drew)
      rw [hW5, hgw]
      clear hW5 hgw x0 x1 BA4 B4 HB5
      have KEPT := Lib.hid (show ∀ w', Below W5.drew.heap.size W5.drew w' → (w'.cell? ⟨ga, 0, none⟩ = some (.slice a0 l0 cap0) ∧ w'.cell? ⟨ga, 1, none⟩ = some (.slice a1 4 cap1) ∧ w'.cell? ⟨gw, 0, none⟩ = some (.int .i64 E) ∧ w'.cell? ⟨gw, 1, none⟩ = some (.int .i64 P)) from fun w' h => ⟨(BA5.out.drew.below h).c0, (BA5.out.drew.below h).c1, (BW5.out.drew.below h).c0, (BW5.out.drew.below h).c1⟩)
      have m0 := (BA5.out.drew).c0; have m1 := (BA5.out.drew).c1; have m2 := (BW5.out.drew).c0; have m3 := (BW5.out.drew).c1
      have S0 := Lib.hid (R0.out.below B5.out); have S1 := Lib.hid (R1.out.below B5.out)
      have pp : 0 < P := by omega
      skip
      all_goals
        go_region_held3 (fun w' => w'.cell? ⟨ga, 0, none⟩ = some (.slice a0 l0 cap0) ∧ w'.cell? ⟨ga, 1, none⟩ = some (.slice a1 4 cap1) ∧ w'.cell? ⟨gw, 0, none⟩ = some (.int .i64 E) ∧ w'.cell? ⟨gw, 1, none⟩ = some (.int .i64 P))
          (first | exact KEPT.out _ (Below.refl _ _) | exact KEPT.out _ X1.out | exact KEPT.out _ X2.out | exact KEPT.out _ X3.out | exact KEPT.out _ X4.out | exact KEPT.out _ X5.out | exact KEPT.out _ X6.out | exact KEPT.out _ X7.out)
          (first
            | (go_at_call 13; ((with_reducible refine (qcheck_any a0 _ cap0 y0 a1 _ cap1 y1 W5.drew S0.out S1.out r HR.out).mono ?_)); rintro e w6 ⟨rfl, hb⟩; have X1 := Lib.hid hb; clear hb)
            | (go_at_call 27; ((with_reducible refine (rcheck_any a0 _ cap0 y0 a1 _ cap1 y1 w6 (S0.out.below X1.out) (S1.out.below X1.out) r HR.out).mono ?_)); rintro e w7 ⟨rfl, hb⟩; have X2 := Lib.hid (below_next X1.out hb); clear hb)
            | (go_at_call 28; ((with_reducible refine (qof_any E P w7 e0 e1 p0 p1).mono ?_)); rintro e w8 ⟨v8, rfl, hr8, hb⟩; have Q8 := Lib.hid hr8; have X3 := Lib.hid (below_next X2.out hb); clear hr8 hb)
            | (go_at_call 29; ((with_reducible refine (rof_any E P w8 e0 e1 p00 p1).mono ?_)); rintro e w9 ⟨v9, rfl, hr9, hb⟩; have Q9 := Lib.hid hr9; have Q8' := Lib.hid (Q8.out.below hb); have X4 := Lib.hid (below_next X3.out hb); clear hr9 hb)
            | (go_at_call 14; ((with_reducible refine (rcmp_any v8 v9 E P E P 0 _ 1 1 w9 Q8'.out Q9.out (by decide)).mono ?_)); rintro e w10 ⟨rfl, hb⟩; rw [CZ.out]; have X5 := Lib.hid (below_next X4.out hb); clear hb)
            | (go_at_call 28; ((with_reducible refine (qof_any E P w10 e0 e1 p0 p1).mono ?_)); rintro e w11 ⟨v11, rfl, hr11, hb⟩; have Q11 := Lib.hid hr11; have X6 := Lib.hid (below_next X5.out hb); clear hr11 hb)
            | (go_at_call 13; ((with_reducible refine (qcheck_yes v11 E P 1 0 w11 Q11.out pp).mono ?_)); rintro e w12 ⟨rfl, hb⟩; have X7 := Lib.hid (below_next X6.out hb); clear hb))
        all_goals
          go_wp2
          go_ret
          exact ⟨rfl, below_next B5.out X7.out⟩
    · have _u := g0
      go_wp2_with fail
      obtain ⟨W2, hW2⟩ : ∃ W2, w1.alloc (Obj.cells #[Value.slice a0 l0 cap0, Value.slice a1 l1 cap1] 26) = W2 := ⟨_, rfl⟩
      obtain ⟨ga, hga⟩ : ∃ ga, w1.heap.size = ga := ⟨_, rfl⟩
      have BA2 := Lib.hid (show Box W2 26 ga (.slice a0 l0 cap0) (.slice a1 l1 cap1) by rw [← hW2, ← hga]; exact Box.new _ _ _ _)
      have B2 := Lib.hid (show Below w.heap.size w W2 by rw [← hW2]; exact below_next B1.out (below_box _ _))
      have SZ2 : W2.heap.size = ga + 1 := by rw [← hW2, ← hga, size_alloc]
      rw [hW2, hga, ← SZ2]
      clear hW2 hga b0 b1 SZ2
      obtain ⟨W3, hW3⟩ : ∃ W3, W2.alloc (Obj.cells #[Value.int .i64 qa, Value.int .i64 qb] 52) = W3 := ⟨_, rfl⟩
      have RP := Lib.hid (show RowP W3 (some ⟨W2.heap.size, 0, none⟩) 1 1 [(qa, qb)] by rw [← hW3]; exact rowP_one _ _ _ _)
      have HB3 := Lib.hid (show Below W2.heap.size W2 W3 by rw [← hW3]; exact below_box _ _)
      have BA3 := Lib.hid (BA2.out.below HB3.out)
      have B3 := Lib.hid (below_next B2.out HB3.out)
      rw [hW3]
      clear hW3 BA2 B2 HB3
      refine (weights_any _ 1 1 [(qa, qb)] W3 RP.out).mono ?_
      rintro e w4 ⟨aw, lw, cw, rfl, hrow, hb, _⟩
      obtain rfl : lw = 1 := by have := hrow.len; simpa using this.symm
      obtain ⟨bw, ow, rfl, x0, x1⟩ := hrow.cell (show 0 < 1 by omega)
      rw [show (([(qa, qb)].take 8).map mkW).getD 0 (0, 0) = (E, P) by rw [← MP.out]; rfl] at x0 x1
      simp only [Nat.zero_mul, Nat.add_zero] at x0 x1
      have ⟨cw1, cw2⟩ := hrow.cap_le
      have BA4 := Lib.hid (BA3.out.below hb)
      have B4 := Lib.hid (below_next B3.out hb)
      clear hrow hb BA3 B3 RP
      go_wp2
      obtain ⟨W5, hW5⟩ : ∃ W5, w4.alloc (Obj.cells #[Value.int .i64 E, Value.int .i64 P] 51) = W5 := ⟨_, rfl⟩
      obtain ⟨gw, hgw⟩ : ∃ gw, w4.heap.size = gw := ⟨_, rfl⟩
      have HB5 := Lib.hid (show Below w4.heap.size w4 W5 by rw [← hW5]; exact below_box _ _)
      have BW5 := Lib.hid (show Box W5 51 gw (.int .i64 E) (.int .i64 P) by rw [← hW5, ← hgw]; exact Box.new _ _ _ _)
      have BA5 := Lib.hid (BA4.out.below HB5.out)
      have B5 := Lib.hid (show Below w.heap.size w W5.drew from (below_next B4.out HB5.out).drew)
      rw [hW5, hgw]
      clear hW5 hgw x0 x1 BA4 B4 HB5
      have KEPT := Lib.hid (show ∀ w', Below W5.drew.heap.size W5.drew w' → (w'.cell? ⟨ga, 0, none⟩ = some (.slice a0 l0 cap0) ∧ w'.cell? ⟨ga, 1, none⟩ = some (.slice a1 l1 cap1) ∧ w'.cell? ⟨gw, 0, none⟩ = some (.int .i64 E) ∧ w'.cell? ⟨gw, 1, none⟩ = some (.int .i64 P)) from fun w' h => ⟨(BA5.out.drew.below h).c0, (BA5.out.drew.below h).c1, (BW5.out.drew.below h).c0, (BW5.out.drew.below h).c1⟩)
      have m0 := (BA5.out.drew).c0; have m1 := (BA5.out.drew).c1; have m2 := (BW5.out.drew).c0; have m3 := (BW5.out.drew).c1
      have S0 := Lib.hid (R0.out.below B5.out); have S1 := Lib.hid (R1.out.below B5.out)
      have pp : 0 < P := by omega
      skip
      all_goals
        go_region_held3 (fun w' => w'.cell? ⟨ga, 0, none⟩ = some (.slice a0 l0 cap0) ∧ w'.cell? ⟨ga, 1, none⟩ = some (.slice a1 l1 cap1) ∧ w'.cell? ⟨gw, 0, none⟩ = some (.int .i64 E) ∧ w'.cell? ⟨gw, 1, none⟩ = some (.int .i64 P))
          (first | exact KEPT.out _ (Below.refl _ _) | exact KEPT.out _ X1.out | exact KEPT.out _ X2.out | exact KEPT.out _ X3.out | exact KEPT.out _ X4.out | exact KEPT.out _ X5.out | exact KEPT.out _ X6.out | exact KEPT.out _ X7.out)
          (first
            | (go_at_call 13; ((with_reducible refine (qcheck_any a0 _ cap0 y0 a1 _ cap1 y1 W5.drew S0.out S1.out r HR.out).mono ?_)); rintro e w6 ⟨rfl, hb⟩; have X1 := Lib.hid hb; clear hb)
            | (go_at_call 27; ((with_reducible refine (rcheck_any a0 _ cap0 y0 a1 _ cap1 y1 w6 (S0.out.below X1.out) (S1.out.below X1.out) r HR.out).mono ?_)); rintro e w7 ⟨rfl, hb⟩; have X2 := Lib.hid (below_next X1.out hb); clear hb)
            | (go_at_call 28; ((with_reducible refine (qof_any E P w7 e0 e1 p0 p1).mono ?_)); rintro e w8 ⟨v8, rfl, hr8, hb⟩; have Q8 := Lib.hid hr8; have X3 := Lib.hid (below_next X2.out hb); clear hr8 hb)
            | (go_at_call 29; ((with_reducible refine (rof_any E P w8 e0 e1 p00 p1).mono ?_)); rintro e w9 ⟨v9, rfl, hr9, hb⟩; have Q9 := Lib.hid hr9; have Q8' := Lib.hid (Q8.out.below hb); have X4 := Lib.hid (below_next X3.out hb); clear hr9 hb)
            | (go_at_call 14; ((with_reducible refine (rcmp_any v8 v9 E P E P 0 _ 1 1 w9 Q8'.out Q9.out (by decide)).mono ?_)); rintro e w10 ⟨rfl, hb⟩; rw [CZ.out]; have X5 := Lib.hid (below_next X4.out hb); clear hb)
            | (go_at_call 28; ((with_reducible refine (qof_any E P w10 e0 e1 p0 p1).mono ?_)); rintro e w11 ⟨v11, rfl, hr11, hb⟩; have Q11 := Lib.hid hr11; have X6 := Lib.hid (below_next X5.out hb); clear hr11 hb)
            | (go_at_call 13; ((with_reducible refine (qcheck_yes v11 E P 1 0 w11 Q11.out pp).mono ?_)); rintro e w12 ⟨rfl, hb⟩; have X7 := Lib.hid (below_next X6.out hb); clear hb))
        all_goals
          go_wp2
          go_ret
          exact ⟨rfl, below_next B5.out X7.out⟩
end Go.Proofs.Ytenibpnifnlfeaa
