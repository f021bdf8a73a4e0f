/-
  The walk of SuperLater: it answers true, and writes nothing that was there.
-/
import Derived.Test.YtnlgophgglgneaaSl10
import Derived.Test.YtnlgophgglgneaaSzC
import Derived.Test.YtnlgophgglgneaaWinA
import Derived.Deep.CutBlock
import Derived.Deep.DeepCutAuto
namespace Go.Proofs.Ytnlgophgglgneaa
open Go.RowKit

set_option maxRecDepth 20000 in
set_option maxHeartbeats 16000000 in
theorem slater_walk (a : Option Addr) (len cap : Nat) (ps : List (Int × Int)) (n : Int) (a2 : Option Addr) (len2 cap2 : Nat) (zs : List Int) (w : World) (h : RowP w a len cap ps) (hz : Row .i64 w a2 len2 cap2 zs) :
    Calls Try.prog 9 #[.slice a len cap, .int .i64 n, .slice a2 len2 cap2] w fun e w' => e = .returned (.bool true) ∧ Below w.heap.size w w' := by
  have H := Lib.hid h
  have HZ := Lib.hid hz
  have ⟨z1, z2⟩ := hz.cap_le
  clear h hz
  have tk := tmod2 n 1001 (by decide)
  obtain ⟨A, hA⟩ : ∃ A, n.tmod 1001 = A := ⟨_, rfl⟩
  rw [hA] at tk
  obtain ⟨k, hK⟩ : ∃ K, (A + 1001).tmod 1001 = K := ⟨_, rfl⟩
  have hK2 : (A + 1001) % 1001 = k := by rw [← hK]; exact (Int.tmod_eq_emod_of_nonneg (by omega)).symm
  rw [hK] at tk
  obtain ⟨t0, t1, t2, t3⟩ := tk
  go_enter Try.func9, Try.ntmps9
  go_wp2_with fail
  refine (awake14_any w).mono ?_
  rintro e w1 ⟨rfl, hb⟩
  have B1 := Lib.hid hb
  clear hb
  go_wp2_with fail
  refine (made14_any a len cap ps w1 (H.out.below B1.out)).mono ?_
  rintro e w2 ⟨am, lm, cm, rfl, hr, hb, _⟩
  obtain ⟨qs, hqs⟩ : ∃ q, made14 ps = q := ⟨_, rfl⟩
  rw [hqs] at hr
  have RM := Lib.hid hr
  have B2 := Lib.hid (below_next B1.out hb)
  have ⟨k1, k2⟩ := hr.cap_le
  clear hb hr hqs
  obtain ⟨E, P, er, hv⟩ : ∃ E P er, wgtV qs = (E, P, er) := ⟨_, _, _, rfl⟩
  have HV := Lib.hid hv
  clear hv
  by_cases he : er = 0
  · subst he
    go_wp2_with fail
    clear hA hK hK2
    refine (snew_yes am lm cm qs 0 w2 RM.out E P HV.out (by decide) (by decide)).mono ?_
    rintro e w3 ⟨ga, ca, pa, rfl, hs, lg, lc, hb3⟩
    have SA := Lib.hid hs
    have LA := Lib.hid (show w.heap.size ≤ ga ∧ w.heap.size ≤ ca from ⟨Nat.le_trans B2.out.size lg, Nat.le_trans B2.out.size lc⟩)
    have B3 := Lib.hid (below_next B2.out hb3)
    have R3 := Lib.hid (RM.out.below hb3)
    clear hs lg lc hb3
    go_wp2_with fail
    refine (snew_yes am lm cm qs k w3 R3.out E P HV.out (by omega) (by omega)).mono ?_
    rintro e w4 ⟨gb, cb, pb, rfl, hs, lg, lc, hb4⟩
    have T4 := Lib.hid (two_new B3.out SA.out LA.out hs lg lc hb4)
    clear hs lg lc hb4
    go_wp2
    go_loopw [12, 13] (fun u v wr => ∃ (now : Int) (i : Nat) (sa sb : SS), u = .int .i64 now ∧ v = .int .i64 i ∧ i ≤ 40 ∧ 0 ≤ now ∧ now ≤ 7 * i ∧ Shf k sa sb ∧ sa.served + sa.idle ≤ i ∧ 0 ≤ sa.idle ∧ Two14 w ga ca pa gb cb pb sa sb wr) (fun _ v _ => 40 - (intOf v).toNat)
    case atStart => exact ⟨0, 0, _, _, rfl, rfl, by omega, by omega, by omega, shf_zero qs k, Int.le_refl _, Int.le_refl _, T4.out⟩
    case round =>
      obtain ⟨now, i, sa, sb, rfl, rfl, i4, n0, n7, hF, hcnt, hid, hT⟩ := hrel
      have F := Lib.hid hF
      have T := Lib.hid hT
      have sv0 := hT.one.good.s0
      have e1 := hF.served
      have e2 := hF.idle
      clear T4 hF hT
      by_cases go : i < len2 ∧ i < 40
      · obtain ⟨g1, g2⟩ := go
        have b1 : decide (i < len2) = true := by simp; omega
        have b1' : decide ((i : Int) < (len2 : Int)) = true := by simp; omega
        have b2 : decide ((i : Int) < 40) = true := by simp; omega
        have b3 : decide (i < 40) = true := by simp; omega
        have c5 : (i : Int) < (len2 : Int) := by omega
        have c6 : 0 ≤ (i : Int) := by omega
        obtain ⟨bz, oz, rfl, yx⟩ := (HZ.out.below T.out.bel).cell g1
        obtain ⟨GV, hGV⟩ : ∃ v, zs.getD i 0 = v := ⟨_, rfl⟩
        rw [hGV] at yx
        clear hGV
        have mk := mask_le GV 7 (by decide) (by decide)
        obtain ⟨M, hM⟩ : ∃ v, bits .and .i64 GV 7 = v := ⟨_, rfl⟩
        rw [hM] at mk
        have w8 : IntKind.i64.wrap (now + M) = now + M := IntWalk.i64_in _ (by omega)
        obtain ⟨nx, hnx⟩ : ∃ v, now + M = v := ⟨_, rfl⟩
        rw [hnx] at w8
        have nx0 : 0 ≤ nx := by omega
        have nx1 : nx ≤ 7 * ((i + 1 : Nat) : Int) := by omega
        have w9 : IntKind.i64.wrap (nx + k) = nx + k := IntWalk.i64_in _ (by omega)
        have GR := Lib.hid (F.out.grant (t := nx) (by omega) (by omega))
        have MS := Lib.hid (GR.out.1.miss (t := nx) (by omega) (by omega))
        have CT := Lib.hid (show (grantS sa nx).served + (grantS sa nx).idle ≤ ((i + 1 : Nat) : Int) by
          have h1 := grant_count sa nx
          split at h1 <;> omega)
        have CI := Lib.hid (show 0 ≤ (grantS sa nx).idle by have := (grant_idle (s := sa) nx).1; omega)
        have CB := Lib.hid (show (grantS sa nx).served ≤ 1000 ∧ (grantS sb (nx + k)).served ≤ 1000 by
          have h1 := GR.out.1.served
          have h2 := CT.out
          have h3 := CI.out
          omega)
        have REL := Lib.hid (fun h => grant_rel T.out.one.good (t := nx) h)
        go_wp2_with fail
        clear yx hM w8 mk hnx
        refine (sgrant_any ga ca pa sa nx wr T.out.one (by omega) (by omega)).mono ?_
        rintro e wa ⟨rfl, hsa, hka⟩
        have TA := Lib.hid (T.out.first hka hsa)
        clear hsa hka
        obtain ⟨⟨p1, i1, r1, d1, l1⟩, hJ⟩ : ∃ j, grantJ sa nx = j := ⟨_, rfl⟩
        obtain ⟨bo, hbo⟩ : ∃ b, grantB sa nx = b := ⟨_, rfl⟩
        rw [hJ, hbo] at REL GR
        rw [hJ, hbo]
        unfold Jb.v
        obtain ⟨W1, hW1⟩ : ∃ W, wa.alloc (.cells #[.int .i64 p1, .int .i64 i1, .int .i64 r1, .int .i64 d1, .int .i64 l1] 39) = W := ⟨_, rfl⟩
        have T1 := Lib.hid (show Two14 w ga ca pa gb cb pb (grantS sa nx) sb W1 by rw [← hW1]; exact TA.out.below (wbox _ _))
        have X1 := Lib.hid (show Blk W1 39 wa.heap.size #[.int .i64 p1, .int .i64 i1, .int .i64 r1, .int .i64 d1, .int .i64 l1] by rw [← hW1]; exact Blk.new _ _ _)
        have NE := Lib.hid (show ¬ (wa.heap.size = gb ∨ wa.heap.size = cb) by have := TA.out.two.lt; omega)
        obtain ⟨bx, hbx⟩ : ∃ v, wa.heap.size = v := ⟨_, rfl⟩
        rw [hbx] at X1 NE
        go_wp2_with fail
        clear hW1 hbx
        refine (sgrant_any gb cb pb sb (nx + k) W1 T1.out.two (by omega) (by omega)).mono ?_
        rintro e wb ⟨rfl, hsb, hkb⟩
        have TB := Lib.hid (T1.out.second hkb hsb)
        have XB := Lib.hid (X1.out.keeps hkb NE.out)
        clear hsb hkb
        obtain ⟨⟨p2, i2, r2, d2, l2⟩, hJ2⟩ : ∃ j, grantJ sb (nx + k) = j := ⟨_, rfl⟩
        have JE := Lib.hid hJ2
        rw [hJ2, GR.out.2.1]
        clear hJ2
        unfold Jb.v
        obtain ⟨W2, hW2⟩ : ∃ W, wb.alloc (.cells #[.int .i64 p2, .int .i64 i2, .int .i64 r2, .int .i64 d2, .int .i64 l2] 39) = W := ⟨_, rfl⟩
        have T2 := Lib.hid (show Two14 w ga ca pa gb cb pb (grantS sa nx) (grantS sb (nx + k)) W2 by rw [← hW2]; exact TB.out.below (wbox _ _))
        have X2 := Lib.hid (show Blk W2 39 bx #[.int .i64 p1, .int .i64 i1, .int .i64 r1, .int .i64 d1, .int .i64 l1] by rw [← hW2]; exact XB.out.below (wbox _ _))
        have Y2 := Lib.hid (show Blk W2 39 wb.heap.size #[.int .i64 p2, .int .i64 i2, .int .i64 r2, .int .i64 d2, .int .i64 l2] by rw [← hW2]; exact Blk.new _ _ _)
        obtain ⟨by_, hby⟩ : ∃ v, wb.heap.size = v := ⟨_, rfl⟩
        rw [hby] at Y2
        have x0 := X2.out.cell 0
        have x1 := X2.out.cell 1
        have x2 := X2.out.cell 2
        have x3 := X2.out.cell 3
        have x4 := X2.out.cell 4
        have y0 := Y2.out.cell 0
        have y1 := Y2.out.cell 1
        have y2 := Y2.out.cell 2
        have y3 := Y2.out.cell 3
        have y4 := Y2.out.cell 4
        simp at x0 x1 x2 x3 x4 y0 y1 y2 y3 y4
        obtain ⟨mv, hmv⟩ : ∃ v, missedV (grantS sa nx) nx = v := ⟨_, rfl⟩
        have HM := Lib.hid hmv
        rw [hmv] at MS
        clear hmv
        cases bo with
        | true =>
          have RB := REL.out rfl
          obtain ⟨rb1, rb2, rb3, rb4⟩ : 0 ≤ r1 ∧ r1 ≤ nx ∧ r1 ≤ d1 ∧ d1 ≤ nx + 1048576 := RB
          have EQ := GR.out.2.2 rfl
          rw [JE.out] at EQ
          obtain ⟨rfl, rfl, rfl, rfl, rfl⟩ : p2 = p1 ∧ i2 = i1 ∧ r2 = r1 + k ∧ d2 = d1 + k ∧ l2 = l1 := by simpa using EQ
          have wr1 : IntKind.i64.wrap (r1 + k) = r1 + k := IntWalk.i64_in _ (by omega)
          have wr2 : IntKind.i64.wrap (d1 + k) = d1 + k := IntWalk.i64_in _ (by omega)
          have q0 : (p2 == p2) = true := by simp
          clear EQ
          go_wp2_with fail
          clear hW2 hby x0 x1 x2 x3 x4 y0 y1 y2 y3 y4
          refine (smissed_any ga ca pa (grantS sa nx) nx W2 T2.out.one (by have := CB.out.1; omega)).mono ?_
          rintro e wc ⟨rfl, hbc⟩
          rw [HM.out]
          have TC := Lib.hid (T2.out.below hbc)
          clear hbc
          go_wp2_with fail
          refine (smissed_any gb cb pb (grantS sb (nx + k)) (nx + k) wc TC.out.two (by have := CB.out.2; omega)).mono ?_
          rintro e wd ⟨rfl, hbd⟩
          rw [MS.out]
          have TD := Lib.hid (TC.out.below hbd)
          clear hbd
          have q9 : (mv != mv) = false := by simp
          go_wp2
          go_roundw
          case rel => exact ⟨nx, i + 1, _, _, rfl, by go_num, by omega, nx0, nx1, GR.out.1, CT.out, CI.out, TD.out⟩
          case measure => simp [intOf]; omega
        | false =>
          go_wp2_with fail
          clear hW2 hby x0 x1 x2 x3 x4 y0 y1 y2 y3 y4
          refine (smissed_any ga ca pa (grantS sa nx) nx W2 T2.out.one (by have := CB.out.1; omega)).mono ?_
          rintro e wc ⟨rfl, hbc⟩
          rw [HM.out]
          have TC := Lib.hid (T2.out.below hbc)
          clear hbc
          go_wp2_with fail
          refine (smissed_any gb cb pb (grantS sb (nx + k)) (nx + k) wc TC.out.two (by have := CB.out.2; omega)).mono ?_
          rintro e wd ⟨rfl, hbd⟩
          rw [MS.out]
          have TD := Lib.hid (TC.out.below hbd)
          clear hbd
          have q9 : (mv != mv) = false := by simp
          go_wp2
          go_roundw
          case rel => exact ⟨nx, i + 1, _, _, rfl, by go_num, by omega, nx0, nx1, GR.out.1, CT.out, CI.out, TD.out⟩
          case measure => simp [intOf]; omega
      · by_cases g1 : i < len2
        · have b1 : decide (i < len2) = true := by simp; omega
          have b1' : decide ((i : Int) < (len2 : Int)) = true := by simp; omega
          have b2 : decide ((i : Int) < 40) = false := by simp; omega
          have b3 : decide (i < 40) = false := by simp; omega
          obtain ⟨sv, hsv⟩ : ∃ v, sa.served = v := ⟨_, rfl⟩
          obtain ⟨si, hsi⟩ : ∃ v, sa.idle = v := ⟨_, rfl⟩
          have V1 := Lib.hid hsv
          have V2 := Lib.hid hsi
          have V3 := Lib.hid (show sb.served = sv by rw [e1, hsv])
          have V4 := Lib.hid (show sb.idle = si by rw [e2, hsi])
          have q7 : (sv == sv) = true := by simp
          have q8 : (si == si) = true := by simp
          clear hsv hsi e1 e2
          go_wp2_with fail
          refine (sserved_any T.out.one).mono ?_
          rintro e wx ⟨rfl, rfl⟩
          rw [V1.out]
          go_wp2_with fail
          refine (sserved_any T.out.two).mono ?_
          rintro e wx ⟨rfl, rfl⟩
          rw [V3.out]
          go_wp2_with fail
          refine (sidle_any T.out.one).mono ?_
          rintro e wx ⟨rfl, rfl⟩
          rw [V2.out]
          go_wp2_with fail
          refine (sidle_any T.out.two).mono ?_
          rintro e wx ⟨rfl, rfl⟩
          rw [V4.out]
          go_wp2
          go_ret
          exact ⟨rfl, T.out.bel⟩
        · have b1 : decide (i < len2) = false := by simp; omega
          have b1' : decide ((i : Int) < (len2 : Int)) = false := by simp; omega
          obtain ⟨sv, hsv⟩ : ∃ v, sa.served = v := ⟨_, rfl⟩
          obtain ⟨si, hsi⟩ : ∃ v, sa.idle = v := ⟨_, rfl⟩
          have V1 := Lib.hid hsv
          have V2 := Lib.hid hsi
          have V3 := Lib.hid (show sb.served = sv by rw [e1, hsv])
          have V4 := Lib.hid (show sb.idle = si by rw [e2, hsi])
          have q7 : (sv == sv) = true := by simp
          have q8 : (si == si) = true := by simp
          clear hsv hsi e1 e2
          go_wp2_with fail
          refine (sserved_any T.out.one).mono ?_
          rintro e wx ⟨rfl, rfl⟩
          rw [V1.out]
          go_wp2_with fail
          refine (sserved_any T.out.two).mono ?_
          rintro e wx ⟨rfl, rfl⟩
          rw [V3.out]
          go_wp2_with fail
          refine (sidle_any T.out.one).mono ?_
          rintro e wx ⟨rfl, rfl⟩
          rw [V2.out]
          go_wp2_with fail
          refine (sidle_any T.out.two).mono ?_
          rintro e wx ⟨rfl, rfl⟩
          rw [V4.out]
          go_wp2
          go_ret
          exact ⟨rfl, T.out.bel⟩
  · have t4 : (er != 0) = true := by simp [he]
    go_wp2_with fail
    refine (snew_no am lm cm qs 0 w2 RM.out E P er HV.out he).mono ?_
    rintro e w3 ⟨rfl, hb3⟩
    have B3 := Lib.hid (below_next B2.out hb3)
    have R3 := Lib.hid (RM.out.below hb3)
    clear hb3
    go_wp2_with fail
    refine (snew_no am lm cm qs k w3 R3.out E P er HV.out he).mono ?_
    rintro e w4 ⟨rfl, hb4⟩
    have B4 := Lib.hid (below_next B3.out hb4)
    clear hb4
    go_wp2
    go_ret
    exact ⟨rfl, B4.out⟩
end Go.Proofs.Ytnlgophgglgneaa
