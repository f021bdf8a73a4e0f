/-
  The walk of the law PlaceStays.
-/
import Derived.Test.YtokmkfoofgiddaaPc2
namespace Go.Proofs.Ytokmkfoofgiddaa
open Go.RowKit

theorem and7_bd (x : Int) : 0 ≤ bits .and .i64 x 7 ∧ bits .and .i64 x 7 ≤ 7 := by
  have h : (BitVec.ofInt 64 x &&& BitVec.ofInt 64 7).toNat ≤ 7 := by
    rw [BitVec.toNat_and]
    exact Nat.and_le_right
  have e : bits .and .i64 x 7 = ((BitVec.ofInt 64 x &&& BitVec.ofInt 64 7).toNat : Int) := by
    show IntKind.i64.wrap ((BitVec.ofInt 64 x &&& BitVec.ofInt 64 7).toNat : Int) = _
    exact IntWalk.i64_in _ (by omega)
  omega
set_option maxRecDepth 100000 in
set_option maxHeartbeats 8000000 in
theorem pstays_walk (m k out : Int) (w : World) :
    Calls Try.prog 6 #[.int .i64 m, .int .i64 k, .int .i64 out] w fun e w' => e = .returned (.bool true) ∧ Below w.heap.size w w' := by
  obtain ⟨t0, t1, t2, t3⟩ := tmod2 m 20 (by omega)
  obtain ⟨A, hA⟩ : ∃ A, m.tmod 20 = A := ⟨_, rfl⟩
  rw [hA] at t0 t1 t2 t3
  obtain ⟨K, hK⟩ : ∃ K, (A + 20).tmod 20 = K := ⟨_, rfl⟩
  have hK2 : (A + 20) % 20 = K := by rw [← hK]; exact (Int.tmod_eq_emod_of_nonneg (by omega)).symm
  rw [hK] at t0 t1
  obtain ⟨n, hN⟩ : ∃ n : Nat, 1 + K = (n : Int) := ⟨(1 + K).toNat, by omega⟩
  have n1 : 1 ≤ n := by omega
  have n4 : n ≤ 20 := by omega
  obtain ⟨s0, s1, s2, s3⟩ := tmod2 k ((n : Int) + 1) (by omega)
  obtain ⟨C, hC⟩ : ∃ C, k.tmod ((n : Int) + 1) = C := ⟨_, rfl⟩
  rw [hC] at s0 s1 s2 s3
  have e1 : C + ((n : Int) + 1) = C + n + 1 := by omega
  rw [e1] at s0 s1
  obtain ⟨D, hD⟩ : ∃ D, (C + n + 1).tmod ((n : Int) + 1) = D := ⟨_, rfl⟩
  have hD2 : (C + n + 1) % ((n : Int) + 1) = D := by rw [← hD]; exact (Int.tmod_eq_emod_of_nonneg (by omega)).symm
  rw [hD] at s0 s1
  obtain ⟨q, rfl⟩ := Int.eq_ofNat_of_zero_le s0
  have qn : q ≤ n := by omega
  obtain ⟨b0, b7⟩ := and7_bd out
  obtain ⟨b, hb⟩ : ∃ b, bits .and .i64 out 7 = b := ⟨_, rfl⟩
  rw [hb] at b0 b7
  have z1 : ¬ (n : Int) + 1 = 0 := by omega
  have z2 : ¬ (n : Int) = 0 := by omega
  clear e1
  go_enter Try.func6, Try.ntmps6
  go_wp2_with fail
  refine (awake15_any _).mono ?_
  rintro e w1 ⟨rfl, hb1⟩
  have B1 := Lib.hid hb1
  clear hb1
  go_wp2
  clear hA hK hK2 hN t0 t1 t2 t3 hC hD hD2 s0 s1 s2 s3
  go_loopw [10, 11] (fun v u wr => ∃ i : Nat, u = .int .i64 i ∧ i ≤ q ∧ wr.ownsRow w1.heap.size 39 3 v (lR n b i).length ((lR n b i).map Rn.cs).flatten ∧ Below w1.heap.size w1 wr) (fun _ u _ => q - (intOf u).toNat)
  case atStart => exact ⟨0, rfl, by omega, World.ownsRow_nil _ _ _ _, Below.refl _ _⟩
  case round =>
    obtain ⟨i, rfl, i1, hown, hbel⟩ := hrel
    have OW := Lib.hid hown
    have BW := Lib.hid hbel
    clear hown hbel
    by_cases go : i < q
    · have c1 : decide ((i : Int) < (q : Int)) = true := by simp; omega
      have c2 : decide (i < q) = true := by simp; omega
      obtain ⟨X, hX⟩ : ∃ X, ((i : Int) * 7 + b) % (n : Int) = X := ⟨_, rfl⟩
      have hX2 : ((i : Int) * 7 + b).tmod (n : Int) = X := by rw [← hX]; exact Int.tmod_eq_emod_of_nonneg (by omega)
      have LN := Lib.hid (show lR n b (i + 1) = lR n b i ++ [⟨i, -1, X⟩] by rw [lR, hX])
      have LL := Lib.hid (lR_len n b i)
      obtain ⟨l, hl⟩ : ∃ l, lR n b i = l := ⟨_, rfl⟩
      rw [hl] at LN LL OW
      clear hl
      go_wp2_with (at_builtin; refine app_run rfl _ _ rfl w1.heap.size u10 l rfl (OW.out.alloc _) wr.heap.size ⟨i, -1, X⟩ rfl (heap_alloc_new wr _) (Nat.le_trans BW.out.size (wbox _ _).size) (by rw [LL.out]; omega) ?_; intro v2 w2 hown2 hgrow2 _; have O2 := Lib.hid hown2; have B2 := Lib.hid (below_appR BW.out OW.out hgrow2); clear hown2 hgrow2)
      go_roundw
      case rel => exact ⟨i + 1, by go_num, by omega, by rw [LN.out]; exact O2.out, B2.out⟩
      case measure => simp [intOf]; omega
    · have c1 : decide ((i : Int) < (q : Int)) = false := by simp; omega
      have c2 : decide (i < q) = false := by simp; omega
      have ie : i = q := by omega
      rw [ie] at OW
      have LL := Lib.hid (lR_len n b q)
      have ST := Lib.hid (lR_stay n b n1 (by omega) q qn)
      obtain ⟨l, hl⟩ : ∃ l, lR n b q = l := ⟨_, rfl⟩
      rw [hl] at LL ST OW
      clear hl ie
      have h1 := OW.out
      rw [LL.out] at h1
      obtain ⟨ao, co, hv, hrow, _⟩ := rowR_of_owns h1 LL.out
      have R := Lib.hid hrow
      have AO := Lib.hid (show ∀ ad : Addr, ao = some ad → ad.off = 0 from fun ad e => by
        rcases h1.2 with ⟨h', _⟩ | ⟨g, cap', cur, h', _⟩
        · rw [hv] at h'; simp only [Value.slice.injEq] at h'; rw [e] at h'; cases h'.1
        · rw [hv] at h'; simp only [Value.slice.injEq] at h'; rw [e] at h'; have := h'.1; simp only [Option.some.injEq] at this; rw [this])
      have ⟨cc1, cc2⟩ := hrow.cap_le
      subst hv
      clear h1 hrow OW
      obtain ⟨wa, rfl⟩ : ∃ wa, wa = wr := ⟨_, rfl⟩
      go_wp2
      clear c1 c2 i1 go
      go_loopw [12, 13] (fun v u wx => ∃ i : Nat, u = .int .i64 i ∧ i ≤ q ∧ v = .bool (nodupB l i) ∧ Below wa.heap.size wa wx) (fun _ u _ => q - (intOf u).toNat)
      case atStart => exact ⟨0, rfl, by omega, by rw [nodup_zero], Below.refl _ _⟩
      case round =>
        obtain ⟨i, rfl, i1, rfl, hbel⟩ := hrel
        have BX := Lib.hid hbel
        clear hbel
        by_cases go : i < q
        · have c1 : decide ((i : Int) < (q : Int)) = true := by simp; omega
          have c2 : decide (i < q) = true := by simp; omega
          obtain ⟨r, hr, -⟩ := getR (l := l) (i := i) (by rw [LL.out]; exact go)
          have FE := Lib.hid (flag_end hr)
          obtain ⟨ba, oa, rfl, hat⟩ := R.out.at hr
          have HZ := Lib.hid hat.c2
          obtain ⟨z, hz⟩ : ∃ z, r.last = z := ⟨_, rfl⟩
          rw [hz] at HZ FE
          clear hr hat hz
          go_wp2
          clear c1 c2
          go_loopw [12, 14] (fun v u wy => ∃ j : Nat, u = .int .i64 j ∧ j ≤ i ∧ v = .bool (flagB l i z j) ∧ Below wa.heap.size wa wy) (fun _ u _ => i - (intOf u).toNat)
          case atStart => exact ⟨0, rfl, by omega, by rw [flag_zero], BX.out⟩
          case round =>
            obtain ⟨j, rfl, j1, rfl, hbel⟩ := hrel
            clear BX
            have BY := Lib.hid hbel
            clear hbel
            by_cases go2 : j < i
            · have d1 : decide ((j : Int) < (i : Int)) = true := by simp; omega
              have d2 : decide (j < i) = true := by simp; omega
              obtain ⟨y, hy, -⟩ := getR (l := l) (i := j) (by rw [LL.out]; omega)
              have FN := Lib.hid (flag_next (i := i) (z := z) hy)
              obtain ⟨b', o', e', hat⟩ := R.out.at hy
              cases e'
              have x1 := cell_on BY.out HZ.out
              have y1 := cell_on BY.out hat.c2
              obtain ⟨zj, hzj⟩ : ∃ z, y.last = z := ⟨_, rfl⟩
              rw [hzj] at y1 FN
              have i3 : (i : Int) < (q : Int) := by omega
              have i0 : 0 ≤ (i : Int) := by omega
              have j3 : (j : Int) < (q : Int) := by omega
              have j0 : 0 ≤ (j : Int) := by omega
              clear hy hat hzj
              obtain ⟨fb, hfb⟩ : ∃ f, flagB l i z j = f := ⟨_, rfl⟩
              rw [hfb] at FN ⊢
              clear hfb
              cases fb with
              | false =>
                have NX := Lib.hid (show flagB l i z (j + 1) = false by rw [FN.out]; rfl)
                go_upto_region 16 with fail
                go_quiet (fail)
                go_wp2
                go_roundw
                case rel => exact ⟨j + 1, by go_num, by omega, by rw [NX.out], bdN BY.out _⟩
                case measure => simp [intOf]; omega
              | true =>
                by_cases e : z = zj
                · have f1 : (z != zj) = false := by simp [e]
                  have NX := Lib.hid (show flagB l i z (j + 1) = false by rw [FN.out, f1]; rfl)
                  clear e
                  go_upto_region 16 with fail
                  go_quiet (fail)
                  go_wp2
                  go_roundw
                  case rel => exact ⟨j + 1, by go_num, by omega, by rw [NX.out], bdN BY.out _⟩
                  case measure => simp [intOf]; omega
                · have f1 : (z != zj) = true := by simp [e]
                  have NX := Lib.hid (show flagB l i z (j + 1) = true by rw [FN.out, f1]; rfl)
                  clear e
                  go_upto_region 16 with fail
                  go_quiet (fail)
                  go_wp2
                  go_roundw
                  case rel => exact ⟨j + 1, by go_num, by omega, by rw [NX.out], bdN BY.out _⟩
                  case measure => simp [intOf]; omega
            · have d1 : decide ((j : Int) < (i : Int)) = false := by simp; omega
              have d2 : decide (j < i) = false := by simp; omega
              have NX := Lib.hid (show nodupB l (i + 1) = flagB l i z j by rw [← FE.out, show j = i by omega])
              go_wp2
              go_roundw
              case rel => exact ⟨i + 1, by go_num, by omega, by rw [NX.out], BY.out⟩
              case measure => simp [intOf]; omega
        · have c1 : decide ((i : Int) < (q : Int)) = false := by simp; omega
          have c2 : decide (i < q) = false := by simp; omega
          have NA := Lib.hid (show nodupB l i = decide (l.map Rn.last).Nodup by rw [show i = l.length by rw [LL.out]; omega]; exact nodup_all l)
          have B2 := Lib.hid (below_next BW.out BX.out)
          by_cases hd : (l.map Rn.last).Nodup
          · have MZ := Lib.hid (stay_zero ST.out hd)
            have HD := Lib.hid hd
            have NT := Lib.hid (show nodupB l i = true by rw [NA.out]; simp [hd])
            clear hd
            rw [NT.out]
            go_wp2_with fail
            refine (pleast_any ao q co l n wr (R.out.below BX.out)).mono ?_
            rintro e w5 ⟨rfl, hb5⟩
            rw [MZ.out]
            have B5 := Lib.hid (below_next BX.out hb5)
            clear hb5
            by_cases q0 : 0 < q
            · have f1 : decide (0 < q) = true := by simp; omega
              have f2 : decide ((0 : Int) < (q : Int)) = true := by simp; omega
              obtain ⟨r0, r1, r2, r3⟩ := tmod2 out (q : Int) (by omega)
              obtain ⟨E, hE⟩ : ∃ E, out.tmod (q : Int) = E := ⟨_, rfl⟩
              rw [hE] at r0 r1 r2 r3
              obtain ⟨F, hF⟩ : ∃ F, (E + (q : Int)).tmod (q : Int) = F := ⟨_, rfl⟩
              have hF2 : (E + (q : Int)) % (q : Int) = F := by rw [← hF]; exact (Int.tmod_eq_emod_of_nonneg (by omega)).symm
              rw [hF] at r0 r1
              obtain ⟨at0, rfl⟩ := Int.eq_ofNat_of_zero_le r0
              have z3 : ¬ (q : Int) = 0 := by omega
              have aq : at0 < q := by omega
              obtain ⟨r, hr, -⟩ := getR (l := l) (i := 0) (by rw [LL.out]; exact q0)
              obtain ⟨ba, oa, rfl, _⟩ := R.out.at hr
              have oz := AO.out _ rfl
              replace oz : oa = 0 := oz
              subst oz
              clear hr c1 c2
              have g0 : (0 : Int) ≤ (at0 : Int) := by omega
              have g1 : (at0 : Int) ≤ (co : Int) := by omega
              have g2 : IntKind.i64.wrap ((at0 : Int) + 1) = (at0 : Int) + 1 := IntWalk.i64_in _ (by omega)
              have g3 : (0 : Int) ≤ (at0 : Int) + 1 := by omega
              have g4 : (at0 : Int) + 1 ≤ (q : Int) := by omega
              have g5 : ((at0 : Int) + 1).toNat = at0 + 1 := by omega
              have g6 : ¬ co = 0 := by omega
              have g7 : (q : Int) ≤ (co : Int) := by omega
              have RB := Lib.hid (R.out.below B5.out)
              by_cases g8 : co = at0 + 1
              · have cq : q = co := by omega
                subst cq
                have HE := Lib.hid g8.symm
                have gi : (at0 : Int) + 1 = (q : Int) := by omega
                have gw : IntKind.i64.wrap (q : Int) = (q : Int) := IntWalk.i64_in _ (by omega)
                clear g2 g3 g4 g5 g8
                have RD := Lib.hid (show RowR w5 (some ⟨ba, 0, none⟩) 0 0 (l.drop q) by rw [List.drop_of_length_le (by rw [LL.out]; omega)]; exact RowR.empty (by omega))
                have BD := Lib.hid (show Below w5.heap.size w5 (w5.alloc (.cells #[] 39)).drew from (wbox w5 _).drew)
                have E0 := Lib.hid (show (w5.alloc (.cells #[] 39)).drew.ownsRow w5.heap.size 39 3 (.slice (some ⟨w5.heap.size, 0, none⟩) 0 0) ([] : List Rn).length (([] : List Rn).map Rn.cs).flatten from (World.ownsRow_lit (base := w5.heap.size) (e := 39) (size := 3) w5 #[] 0 (Nat.le_refl _) (by unfold maxLen; omega) rfl))
                have LN7 := Lib.hid (show (([] ++ l.take at0) ++ l.drop q).length = q - 1 by rw [List.nil_append, List.length_append, List.length_take, List.length_drop, LL.out]; have := HE.out; omega)
                have LN6 := Lib.hid (show ([] ++ l.take at0).length ≤ at0 by rw [List.nil_append, List.length_take]; omega)
                have SB := Lib.hid (show (([] ++ l.take at0) ++ l.drop q).Sublist l by have h1 := cut_sub l at0; rwa [HE.out] at h1)
                have MS := Lib.hid (stay_zero (ST.out.sub SB.out) (HD.out.sublist (SB.out.map Rn.last)))
                go_upto_region 23 with fail
                go_region_held3 (fun _ => True) (trivial)
                  (first
                    | ((refine step_append_runs (by rfl) _ _ (by rfl) w5.heap.size (.slice (some ⟨w5.heap.size, 0, none⟩) 0 0) [] (by rfl) E0.out (some ⟨ba, 0, none⟩) at0 q (l.take at0) (by rfl) ((RB.out.take (Nat.le_of_lt aq)).below BD.out) BD.out.size (by simp; omega) ?_; intro v6 w6 hown6 hgrow6; have O6 := Lib.hid hown6; have B6 := Lib.hid (BD.out.grown hgrow6 BD.out.size (fun g hg => (E0.out.lt g hg).1)); clear hown6 hgrow6))
                    | ((refine step_append_runs (by rfl) _ _ (by rfl) w5.heap.size v6 ([] ++ l.take at0) (by rfl) O6.out (some ⟨ba, 0, none⟩) 0 0 (l.drop q) (by rfl) (RD.out.below B6.out) B6.out.size (by have := LN6.out; omega) ?_; intro v7 w7 hown7 hgrow7; rw [LN7.out] at hown7; obtain ⟨a7, c7, hv7, hr7, _⟩ := rowR_of_owns hown7 LN7.out; have S7 := Lib.hid hr7; have B7 := Lib.hid (B6.out.grown hgrow7 B6.out.size (fun g hg => (O6.out.lt g hg).1)); clear hown7 hgrow7 hr7; subst hv7)))
                go_wp2_with fail
                ((with_reducible refine (pleast_any a7 (q - 1) c7 (([] ++ l.take at0) ++ l.drop q) n w7 S7.out).mono ?_))
                rintro e w8 ⟨rfl, hb8⟩
                rw [MS.out]
                have B8 := Lib.hid (below_next B5.out (below_next B7.out hb8))
                clear hb8
                go_wp2_with fail
                refine (pcheck_any (some ⟨ba, 0, none⟩) q q l n w8 (R.out.below B8.out)).mono ?_
                rintro e w9 ⟨rfl, hb9⟩
                rw [mayB_yes ST.out.may]
                have B9 := Lib.hid (below_next B8.out hb9)
                clear hb9
                go_wp2
                go_ret
                exact ⟨rfl, below_next B1.out (below_next BW.out B9.out)⟩
              · have RD := Lib.hid (show RowR w5 (some ⟨ba, (at0 + 1) * 3, none⟩) (q - (at0 + 1)) (co - (at0 + 1)) (l.drop (at0 + 1)) by have h1 := RB.out.drop (k := at0 + 1) (by omega); rwa [Nat.zero_add] at h1)
                have BD := Lib.hid (show Below w5.heap.size w5 (w5.alloc (.cells #[] 39)).drew from (wbox w5 _).drew)
                have E0 := Lib.hid (show (w5.alloc (.cells #[] 39)).drew.ownsRow w5.heap.size 39 3 (.slice (some ⟨w5.heap.size, 0, none⟩) 0 0) ([] : List Rn).length (([] : List Rn).map Rn.cs).flatten from (World.ownsRow_lit (base := w5.heap.size) (e := 39) (size := 3) w5 #[] 0 (Nat.le_refl _) (by unfold maxLen; omega) rfl))
                have LN7 := Lib.hid (show (([] ++ l.take at0) ++ l.drop (at0 + 1)).length = q - 1 by rw [List.nil_append, List.length_append, List.length_take, List.length_drop, LL.out]; omega)
                have LN6 := Lib.hid (show ([] ++ l.take at0).length ≤ at0 by rw [List.nil_append, List.length_take]; omega)
                have SB := Lib.hid (cut_sub l at0)
                have MS := Lib.hid (stay_zero (ST.out.sub SB.out) (HD.out.sublist (SB.out.map Rn.last)))
                go_upto_region 23 with fail
                go_region_held3 (fun _ => True) (trivial)
                  (first
                    | ((refine step_append_runs (by rfl) _ _ (by rfl) w5.heap.size (.slice (some ⟨w5.heap.size, 0, none⟩) 0 0) [] (by rfl) E0.out (some ⟨ba, 0, none⟩) at0 co (l.take at0) (by rfl) ((RB.out.take (Nat.le_of_lt aq)).below BD.out) BD.out.size (by simp; omega) ?_; intro v6 w6 hown6 hgrow6; have O6 := Lib.hid hown6; have B6 := Lib.hid (BD.out.grown hgrow6 BD.out.size (fun g hg => (E0.out.lt g hg).1)); clear hown6 hgrow6))
                    | ((refine step_append_runs (by rfl) _ _ (by rfl) w5.heap.size v6 ([] ++ l.take at0) (by rfl) O6.out (some ⟨ba, (at0 + 1) * 3, none⟩) (q - (at0 + 1)) (co - (at0 + 1)) (l.drop (at0 + 1)) (by rfl) (RD.out.below B6.out) B6.out.size (by have := LN6.out; omega) ?_; intro v7 w7 hown7 hgrow7; rw [LN7.out] at hown7; obtain ⟨a7, c7, hv7, hr7, _⟩ := rowR_of_owns hown7 LN7.out; have S7 := Lib.hid hr7; have B7 := Lib.hid (B6.out.grown hgrow7 B6.out.size (fun g hg => (O6.out.lt g hg).1)); clear hown7 hgrow7 hr7; subst hv7)))
                go_wp2_with fail
                ((with_reducible refine (pleast_any a7 (q - 1) c7 (([] ++ l.take at0) ++ l.drop (at0 + 1)) n w7 S7.out).mono ?_))
                rintro e w8 ⟨rfl, hb8⟩
                rw [MS.out]
                have B8 := Lib.hid (below_next B5.out (below_next B7.out hb8))
                clear hb8
                go_wp2_with fail
                refine (pcheck_any (some ⟨ba, 0, none⟩) q co l n w8 (R.out.below B8.out)).mono ?_
                rintro e w9 ⟨rfl, hb9⟩
                rw [mayB_yes ST.out.may]
                have B9 := Lib.hid (below_next B8.out hb9)
                clear hb9
                go_wp2
                go_ret
                exact ⟨rfl, below_next B1.out (below_next BW.out B9.out)⟩
            · have f1 : decide (0 < q) = false := by simp; omega
              have f2 : decide ((0 : Int) < (q : Int)) = false := by simp; omega
              go_wp2_with fail
              refine (pcheck_any ao q co l n w5 (R.out.below B5.out)).mono ?_
              rintro e w6 ⟨rfl, hb6⟩
              rw [mayB_yes ST.out.may]
              have B6 := Lib.hid (below_next B5.out hb6)
              clear hb6
              go_wp2
              go_ret
              exact ⟨rfl, below_next B1.out (below_next BW.out B6.out)⟩
          · have MP := Lib.hid (stay_pos ST.out hd)
            have NT := Lib.hid (show nodupB l i = false by rw [NA.out]; simp [hd])
            clear hd
            rw [NT.out]
            go_wp2_with fail
            refine (pleast_any ao q co l n wr (R.out.below BX.out)).mono ?_
            rintro e w5 ⟨rfl, hb5⟩
            have B5 := Lib.hid (below_next BX.out hb5)
            clear hb5
            have mp : 0 < movesR l (asgL l n) := MP.out
            obtain ⟨mv, hmv⟩ : ∃ mv, movesR l (asgL l n) = mv := ⟨_, rfl⟩
            rw [hmv] at mp ⊢
            clear hmv
            have f1 : decide (0 < mv) = true := by simp; omega
            have f2 : decide ((0 : Int) < (mv : Int)) = true := by simp; omega
            go_wp2
            go_ret
            exact ⟨rfl, below_next B1.out (below_next BW.out B5.out)⟩
end Go.Proofs.Ytokmkfoofgiddaa
