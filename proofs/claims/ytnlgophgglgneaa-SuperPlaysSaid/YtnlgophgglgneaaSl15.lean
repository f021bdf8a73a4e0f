/-
  The walk of SuperPlays: it answers true, and writes nothing that was there.
-/
import Derived.Test.YtnlgophgglgneaaSl14
import Derived.Test.YtnlgophgglgneaaSzC
import Derived.Deep.CutBlock
import Derived.Deep.DeepCutAuto
import Derived.Deep.RegionHeld3
namespace Go.Proofs.Ytnlgophgglgneaa
open Go.RowKit

set_option maxRecDepth 20000 in
set_option maxHeartbeats 16000000 in
theorem splays_walk (a : Option Addr) (len cap : Nat) (ps : List (Int × Int)) (n : Int) (a2 : Option Addr) (len2 cap2 : Nat) (zs : List Int) (w : World) (h : RowP w a len cap ps) (hz : Row .i64 w a2 len2 cap2 zs) :
    Calls Try.prog 4 #[.slice a len cap, .int .i64 n, .slice a2 len2 cap2] w fun e w' => e = .returned (.bool true) ∧ Below w.heap.size w w' := by
  have H := Lib.hid h
  have HZ := Lib.hid hz
  have ⟨z1, z2⟩ := hz.cap_le
  clear h hz
  have tk := tmod2 n 101 (by decide)
  obtain ⟨A, hA⟩ : ∃ A, n.tmod 101 = A := ⟨_, rfl⟩
  rw [hA] at tk
  obtain ⟨k, hK⟩ : ∃ K, (A + 101).tmod 101 = K := ⟨_, rfl⟩
  have hK2 : (A + 101) % 101 = k := by rw [← hK]; exact (Int.tmod_eq_emod_of_nonneg (by omega)).symm
  rw [hK] at tk
  obtain ⟨t0, t1, t2, t3⟩ := tk
  go_enter Try.func4, Try.ntmps4
  go_wp2_with fail
  refine (awake14_any w).mono ?_
  rintro e w1 ⟨rfl, hb⟩
  have B1 := Lib.hid hb
  clear hb
  go_wp2_with fail
  refine (made14_any a len cap ps w1 (H.out.below B1.out)).mono ?_
  rintro e w2 ⟨am, lm, cm, rfl, hr, hb, _⟩
  obtain ⟨qs, hqs⟩ : ∃ q, made14 ps = q := ⟨_, rfl⟩
  rw [hqs] at hr
  have RM := Lib.hid hr
  have B2 := Lib.hid (below_next B1.out hb)
  have LQ := Lib.hid hr.len
  have ⟨k1, k2⟩ := hr.cap_le
  clear hb hr hqs
  obtain ⟨E, P, er, hv⟩ : ∃ E P er, wgtV qs = (E, P, er) := ⟨_, _, _, rfl⟩
  have HV := Lib.hid hv
  clear hv
  by_cases he : er = 0
  · subst he
    have hM := (wgt_enough HV.out).1
    have HM := Lib.hid hM
    have l1 : 0 < lm := by have := hM.some_; have := LQ.out; omega
    clear hM
    go_wp2_with fail
    clear hA hK hK2
    refine (snew_yes am lm cm qs k w2 RM.out E P HV.out (by omega) (by omega)).mono ?_
    rintro e w3 ⟨g, gc, cp, rfl, hs, lg, lc, hb3⟩
    have S3 := Lib.hid (has_new B2.out RM.out l1 hs lg lc hb3)
    clear hs lg lc hb3
    go_wp2_with fail
    refine (r14weight_any am lm cm qs w3 S3.out.row E P 0 HV.out).mono ?_
    rintro e w4 ⟨rfl, hb4⟩
    obtain ⟨W5, hW5⟩ : ∃ W, w4.alloc (.cells #[.int .i64 E, .int .i64 P] 32) = W := ⟨_, rfl⟩
    have S5 := Lib.hid (show Has14 w am lm cm qs g gc cp (ss0 qs k) W5 by rw [← hW5]; exact (S3.out.below hb4).below (wbox _ _))
    clear hb4
    go_wp2_with fail
    clear hW5
    refine (r14new_any am lm cm qs k W5 S5.out.row HM.out (by omega) (by omega)).mono ?_
    rintro e w6 ⟨rfl, hr6, hb6⟩
    have T6 := Lib.hid (both_new S5.out hr6 hb6)
    clear hr6 hb6
    obtain ⟨r, hrr⟩ : ∃ v, W5.heap.size = v := ⟨_, rfl⟩
    rw [hrr] at T6 ⊢
    clear hrr
    go_wp2
    go_loopw [14, 15] (fun u v wr => ∃ (now : Int) (i : Nat) (s : SS), u = .int .i64 now ∧ v = .int .i64 i ∧ i ≤ 60 ∧ -8 * (i : Int) ≤ now ∧ now ≤ 100 + 8 * i ∧ s.served + s.idle ≤ i ∧ 0 ≤ s.idle ∧ Both14 w g gc cp r am lm cm s s wr) (fun _ v _ => 60 - (intOf v).toNat)
    case atStart => exact ⟨k, 0, _, rfl, rfl, by omega, by omega, by omega, Int.le_refl _, Int.le_refl _, T6.out⟩
    case round =>
      obtain ⟨now, i, s, rfl, rfl, i4, n0, n7, hcnt, hid, hT⟩ := hrel
      have T := Lib.hid hT
      have sv0 := hT.one.good.s0
      clear T6 hT
      by_cases go : i < len2 ∧ i < 60
      · obtain ⟨g1, g2⟩ := go
        have b1 : decide (i < len2) = true := by simp; omega
        have b1' : decide ((i : Int) < (len2 : Int)) = true := by simp; omega
        have b2 : decide ((i : Int) < 60) = true := by simp; omega
        have b3 : decide (i < 60) = true := by simp; omega
        have c5 : (i : Int) < (len2 : Int) := by omega
        have c6 : 0 ≤ (i : Int) := by omega
        obtain ⟨bz, oz, rfl, yx⟩ := (HZ.out.below T.out.bel).cell g1
        obtain ⟨GV, hGV⟩ : ∃ v, zs.getD i 0 = v := ⟨_, rfl⟩
        rw [hGV] at yx
        clear hGV
        have mk := tmod2 GV 9 (by decide)
        obtain ⟨M, hM⟩ : ∃ v, GV.tmod 9 = v := ⟨_, rfl⟩
        rw [hM] at mk
        have w7 : IntKind.i64.wrap M = M := IntWalk.i64_in _ (by omega)
        have w8 : IntKind.i64.wrap (now + M) = now + M := IntWalk.i64_in _ (by omega)
        obtain ⟨nx, hnx⟩ : ∃ v, now + M = v := ⟨_, rfl⟩
        rw [hnx] at w8
        have nx0 : -8 * ((i + 1 : Nat) : Int) ≤ nx := by omega
        have nx1 : nx ≤ 100 + 8 * ((i + 1 : Nat) : Int) := by omega
        have CT := Lib.hid (show (grantS s nx).served + (grantS s nx).idle ≤ ((i + 1 : Nat) : Int) by
          have h1 := grant_count s nx
          split at h1 <;> omega)
        have CI := Lib.hid (show 0 ≤ (grantS s nx).idle by have := (grant_idle (s := s) nx).1; omega)
        go_wp2_with fail
        clear yx hM w7 w8 mk hnx
        refine (sgrant_any g gc cp s nx wr T.out.one (by omega) (by omega)).mono ?_
        rintro e wa ⟨rfl, hsa, hka⟩
        have TA := Lib.hid (T.out.first hka hsa)
        clear hsa hka
        obtain ⟨⟨p1, i1, r1, d1, l1'⟩, hJ⟩ : ∃ j, grantJ s nx = j := ⟨_, rfl⟩
        obtain ⟨bo, hbo⟩ : ∃ b, grantB s nx = b := ⟨_, rfl⟩
        have HJ := Lib.hid hJ
        have HB := Lib.hid hbo
        rw [hJ, hbo]
        clear hJ hbo
        unfold Jb.v
        obtain ⟨W1, hW1⟩ : ∃ W, wa.alloc (.cells #[.int .i64 p1, .int .i64 i1, .int .i64 r1, .int .i64 d1, .int .i64 l1'] 39) = W := ⟨_, rfl⟩
        have T1 := Lib.hid (show Both14 w g gc cp r am lm cm (grantS s nx) s W1 by rw [← hW1]; exact TA.out.below (wbox _ _))
        have X1 := Lib.hid (show Blk W1 39 wa.heap.size #[.int .i64 p1, .int .i64 i1, .int .i64 r1, .int .i64 d1, .int .i64 l1'] by rw [← hW1]; exact Blk.new _ _ _)
        have NE := Lib.hid (show ¬ wa.heap.size = r by have := TA.out.two.box.lt; omega)
        obtain ⟨bx, hbx⟩ : ∃ v, wa.heap.size = v := ⟨_, rfl⟩
        rw [hbx] at X1 NE
        go_wp2_with fail
        clear hW1 hbx
        refine (r14grant_any r am lm cm s nx W1 T1.out.two (by omega) (by omega)).mono ?_
        rintro e wb ⟨rfl, hsb, hkb⟩
        have TB := Lib.hid (T1.out.second hkb hsb)
        have XB := Lib.hid (X1.out.keeps hkb NE.out)
        clear hsb hkb
        rw [HJ.out, HB.out]
        obtain ⟨s2, hs2⟩ : ∃ v, grantS s nx = v := ⟨_, rfl⟩
        rw [hs2] at TB CT CI
        clear hs2
        have sv2 := TB.out.one.good.s0
        have sb2 : s2.served ≤ 1000 := by have := CT.out; have := CI.out; omega
        unfold Jb.v
        obtain ⟨W2, hW2⟩ : ∃ W, wb.alloc (.cells #[.int .i64 p1, .int .i64 i1, .int .i64 r1, .int .i64 d1, .int .i64 l1'] 39) = W := ⟨_, rfl⟩
        have T2 := Lib.hid (show Both14 w g gc cp r am lm cm s2 s2 W2 by rw [← hW2]; exact TB.out.below (wbox _ _))
        have X2 := Lib.hid (show Blk W2 39 bx #[.int .i64 p1, .int .i64 i1, .int .i64 r1, .int .i64 d1, .int .i64 l1'] by rw [← hW2]; exact XB.out.below (wbox _ _))
        have Y2 := Lib.hid (show Blk W2 39 wb.heap.size #[.int .i64 p1, .int .i64 i1, .int .i64 r1, .int .i64 d1, .int .i64 l1'] by rw [← hW2]; exact Blk.new _ _ _)
        obtain ⟨by_, hby⟩ : ∃ v, wb.heap.size = v := ⟨_, rfl⟩
        rw [hby] at Y2
        go_wp2_with fail
        clear hW2 hby
        refine (sjobs_any g gc cp s2 nx W2 T2.out.one (by omega)).mono ?_
        rintro e w8 ⟨aj, cj, rfl, hrow, hb8, _⟩
        have T8 := Lib.hid (T2.out.below hb8)
        have J8 := Lib.hid hrow
        have X8 := Lib.hid (X2.out.below hb8)
        have Y8 := Lib.hid (Y2.out.below hb8)
        clear hrow hb8
        go_wp2_with fail
        refine (r14jobs_any r am lm cm s2 nx w8 T8.out.two (by omega)).mono ?_
        rintro e w9 ⟨ak, ck, rfl, hrow, hb9, _⟩
        have T9 := Lib.hid (T8.out.below hb9)
        have J9 := Lib.hid (RowF.below (wideJ _) J8.out hb9)
        have K9 := Lib.hid hrow
        have X9 := Lib.hid (X8.out.below hb9)
        have Y9 := Lib.hid (Y8.out.below hb9)
        clear hrow hb9
        go_wp2_with fail
        refine (r14same_any aj cj ak ck (jobsV s2 nx) w9 J9.out K9.out).mono ?_
        rintro e wc ⟨rfl, hbc⟩
        have TC := Lib.hid (T9.out.below hbc)
        have XC := Lib.hid (X9.out.below hbc)
        have YC := Lib.hid (Y9.out.below hbc)
        clear hbc
        obtain ⟨mv, hmv⟩ : ∃ v, missedV s2 nx = v := ⟨_, rfl⟩
        obtain ⟨sv, hsv⟩ : ∃ v, s2.served = v := ⟨_, rfl⟩
        obtain ⟨si, hsi⟩ : ∃ v, s2.idle = v := ⟨_, rfl⟩
        have MV := Lib.hid hmv
        have SV := Lib.hid hsv
        have SI := Lib.hid hsi
        have SL := Lib.hid (show s2.served ≤ 1000000 by omega)
        have c11 : ∀ W, Both14 w g gc cp r am lm cm s2 s2 W → W.cell? ⟨r, 11, none⟩ = some (.int .i64 sv) ∧ W.cell? ⟨r, 12, none⟩ = some (.int .i64 si) := fun W hW => by
          have q1 := hW.two.box.cell 11
          have q2 := hW.two.box.cell 12
          simp [rboxS, hsv, hsi] at q1 q2
          exact ⟨q1, q2⟩
        have C11 := Lib.hid c11
        clear hmv hsv hsi c11
        go_upto_region 19 with fail
        have SA := Lib.hid (show ∀ W, Below wc.heap.size wc W → W.cell? ⟨bx, 0, none⟩ = some (.int .i64 p1) ∧ W.cell? ⟨bx, 1, none⟩ = some (.int .i64 i1) ∧ W.cell? ⟨bx, 2, none⟩ = some (.int .i64 r1) ∧ W.cell? ⟨bx, 3, none⟩ = some (.int .i64 d1) ∧ W.cell? ⟨bx, 4, none⟩ = some (.int .i64 l1') ∧ W.cell? ⟨by_, 0, none⟩ = some (.int .i64 p1) ∧ W.cell? ⟨by_, 1, none⟩ = some (.int .i64 i1) ∧ W.cell? ⟨by_, 2, none⟩ = some (.int .i64 r1) ∧ W.cell? ⟨by_, 3, none⟩ = some (.int .i64 d1) ∧ W.cell? ⟨by_, 4, none⟩ = some (.int .i64 l1') ∧ W.cell? ⟨r, 11, none⟩ = some (.int .i64 sv) ∧ W.cell? ⟨r, 12, none⟩ = some (.int .i64 si) from fun W hb =>
          ⟨(XC.out.below hb).cell 0, (XC.out.below hb).cell 1, (XC.out.below hb).cell 2, (XC.out.below hb).cell 3, (XC.out.below hb).cell 4, (YC.out.below hb).cell 0, (YC.out.below hb).cell 1, (YC.out.below hb).cell 2, (YC.out.below hb).cell 3, (YC.out.below hb).cell 4, (C11.out W (TC.out.below hb)).1, (C11.out W (TC.out.below hb)).2⟩)
        have BL := Lib.hid (show Below wc.heap.size wc wc.drew from (Below.refl _ _).drew)
        have f0 : (p1 == p1) = true := by simp
        have f1 : (i1 == i1) = true := by simp
        have f2 : (r1 == r1) = true := by simp
        have f3 : (d1 == d1) = true := by simp
        have f4 : (l1' == l1') = true := by simp
        have f5 : (bo != bo) = false := by simp
        have f6 : (mv != mv) = false := by simp
        have f7 : (sv != sv) = false := by simp
        have f8 : (si != si) = false := by simp
        have f9 : (bo == bo) = true := by simp
        go_region_held3 (fun W => W.cell? ⟨bx, 0, none⟩ = some (.int .i64 p1) ∧ W.cell? ⟨bx, 1, none⟩ = some (.int .i64 i1) ∧ W.cell? ⟨bx, 2, none⟩ = some (.int .i64 r1) ∧ W.cell? ⟨bx, 3, none⟩ = some (.int .i64 d1) ∧ W.cell? ⟨bx, 4, none⟩ = some (.int .i64 l1') ∧ W.cell? ⟨by_, 0, none⟩ = some (.int .i64 p1) ∧ W.cell? ⟨by_, 1, none⟩ = some (.int .i64 i1) ∧ W.cell? ⟨by_, 2, none⟩ = some (.int .i64 r1) ∧ W.cell? ⟨by_, 3, none⟩ = some (.int .i64 d1) ∧ W.cell? ⟨by_, 4, none⟩ = some (.int .i64 l1') ∧ W.cell? ⟨r, 11, none⟩ = some (.int .i64 sv) ∧ W.cell? ⟨r, 12, none⟩ = some (.int .i64 si))
          (exact SA.out _ BL.out)
          (first
            | (go_at_call 21; ((with_reducible refine (smissed_any g gc cp s2 nx _ (TC.out.below BL.out).one SL.out).mono ?_)); rintro e w9 ⟨rfl, hb⟩; have BL := Lib.hid (below_next BL.out hb); clear hb; rw [MV.out])
            | (go_at_call 22; ((with_reducible refine (r14missed_any r am lm cm s2 nx _ (TC.out.below BL.out).two SL.out).mono ?_)); rintro e w10 ⟨rfl, hb⟩; have BL := Lib.hid (below_next BL.out hb); clear hb; rw [MV.out])
            | (go_at_call 23; ((with_reducible refine (sserved_any (TC.out.below BL.out).one).mono ?_)); rintro e w11 ⟨rfl, rfl⟩; rw [SV.out])
            | (go_at_call 24; ((with_reducible refine (sidle_any (TC.out.below BL.out).one).mono ?_)); rintro e w12 ⟨rfl, rfl⟩; rw [SI.out]))
        all_goals
          go_wp2
          go_roundw
          case rel => exact ⟨nx, i + 1, s2, rfl, by go_num, by omega, nx0, nx1, CT.out, CI.out, TC.out.below BL.out⟩
          case measure => simp [intOf]; omega
      · by_cases g1 : i < len2
        · have b1 : decide (i < len2) = true := by simp; omega
          have b1' : decide ((i : Int) < (len2 : Int)) = true := by simp; omega
          have b2 : decide ((i : Int) < 60) = false := by simp; omega
          have b3 : decide (i < 60) = false := by simp; omega
          go_wp2
          go_ret
          exact ⟨rfl, T.out.bel⟩
        · have b1 : decide (i < len2) = false := by simp; omega
          have b1' : decide ((i : Int) < (len2 : Int)) = false := by simp; omega
          go_wp2
          go_ret
          exact ⟨rfl, T.out.bel⟩
  · have t4 : (er != 0) = true := by simp [he]
    go_wp2_with fail
    clear hA hK hK2
    refine (snew_no am lm cm qs k w2 RM.out E P er HV.out he).mono ?_
    rintro e w3 ⟨rfl, hb3⟩
    have B3 := Lib.hid (below_next B2.out hb3)
    have R3 := Lib.hid (RM.out.below hb3)
    clear hb3
    go_wp2_with fail
    refine (r14weight_any am lm cm qs w3 R3.out E P er HV.out).mono ?_
    rintro e w4 ⟨rfl, hb4⟩
    obtain ⟨W5, hW5⟩ : ∃ W, w4.alloc (.cells #[.int .i64 E, .int .i64 P] 32) = W := ⟨_, rfl⟩
    have B5 := Lib.hid (show Below w.heap.size w W5 by rw [← hW5]; exact below_next (below_next B3.out hb4) (wbox _ _))
    clear hb4
    go_wp2
    clear hW5
    go_ret
    exact ⟨rfl, B5.out⟩
end Go.Proofs.Ytnlgophgglgneaa
