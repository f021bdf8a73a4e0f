/-
  The walk of SuperMeets: it answers true, and writes nothing that was there.
-/
import Derived.Test.YtnlgophgglgneaaSl8
import Derived.Test.YtnlgophgglgneaaSzC
import Derived.Test.YtnlgophgglgneaaWrA
import Derived.Deep.CutBlock
import Derived.Deep.DeepCutAuto
namespace Go.Proofs.Ytnlgophgglgneaa
open Go.RowKit

set_option maxRecDepth 20000 in
set_option maxHeartbeats 16000000 in
theorem smeets_walk (a : Option Addr) (len cap : Nat) (ps : List (Int × Int)) (a1 : Option Addr) (len1 cap1 : Nat) (zs : List Int) (w : World) (h : RowP w a len cap ps) (hz : Row .i64 w a1 len1 cap1 zs) :
    Calls Try.prog 5 #[.slice a len cap, .slice a1 len1 cap1] w fun e w' => e = .returned (.bool true) ∧ Below w.heap.size w w' := by
  have H := Lib.hid h
  have HZ := Lib.hid hz
  have ⟨z1, z2⟩ := hz.cap_le
  clear h hz
  go_enter Try.func5, Try.ntmps5
  go_wp2_with fail
  refine (awake14_any w).mono ?_
  rintro e w1 ⟨rfl, hb⟩
  have B1 := Lib.hid hb
  clear hb
  go_wp2_with fail
  refine (made14_any a len cap ps w1 (H.out.below B1.out)).mono ?_
  rintro e w2 ⟨am, lm, cm, rfl, hr, hb, _⟩
  obtain ⟨qs, hqs⟩ : ∃ q, made14 ps = q := ⟨_, rfl⟩
  rw [hqs] at hr
  have RM := Lib.hid hr
  have B2 := Lib.hid (below_next B1.out hb)
  have LQ := Lib.hid hr.len
  have ⟨k1, k2⟩ := hr.cap_le
  clear hb hr hqs
  obtain ⟨E, P, er, hv⟩ : ∃ E P er, wgtV qs = (E, P, er) := ⟨_, _, _, rfl⟩
  have HV := Lib.hid hv
  clear hv
  go_wp2_with fail
  refine (sweight_any am lm cm qs w2 RM.out E P er HV.out).mono ?_
  rintro e w3 ⟨rfl, hb3⟩
  obtain ⟨W4, hW4⟩ : ∃ W4, w3.alloc (.cells #[.int .i64 E, .int .i64 P] 32) = W4 := ⟨_, rfl⟩
  have X4 := Lib.hid (show Blk W4 32 w3.heap.size #[.int .i64 E, .int .i64 P] by rw [← hW4]; exact Blk.new _ _ _)
  have B4 := Lib.hid (show Below w.heap.size w W4 by rw [← hW4]; exact below_next (below_next B2.out hb3) (wbox _ _))
  have R4 := Lib.hid (show RowP W4 am lm cm qs by rw [← hW4]; exact (RM.out.below hb3).below (wbox _ _))
  obtain ⟨g7, hg7⟩ : ∃ g, w3.heap.size = g := ⟨_, rfl⟩
  rw [hg7] at X4
  by_cases he : er = 0
  · subst he
    obtain ⟨hM, hEn, hMay, -, -, -⟩ := wgt_enough HV.out
    have EN := Lib.hid hEn
    have HM := Lib.hid hM
    have MB := Lib.hid hMay
    have l1 : 0 < lm := by have := hM.some_; have := LQ.out; omega
    have e0 : 0 < E := by have := hMay.1; omega
    have ep : E ≤ P := hMay.2.1
    clear hM hEn hMay
    go_wp2_with fail
    clear hW4 hb3 hg7
    refine (snew_yes am lm cm qs 0 W4 R4.out E P HV.out (by decide) (by decide)).mono ?_
    rintro e w5 ⟨g, gc, cp, rfl, hs, lg, lc, hb5⟩
    have S5 := Lib.hid (has_new B4.out R4.out l1 hs lg lc hb5)
    have X5 := Lib.hid (X4.out.below hb5)
    have NE := Lib.hid (show ¬ (g7 = g ∨ g7 = gc) by have := X4.out.lt; omega)
    clear hs lg lc hb5
    go_wp2
    go_loopw [10, 11] (fun u v wr => ∃ (l : Int) (i : Nat) (s : SS), u = .int .i64 l ∧ v = .int .i64 ((i : Int) + 1) ∧ i ≤ 400 ∧ l ≤ 200 ∧ MeetS qs E P i l s ∧ Has14 w am lm cm qs g gc cp s wr ∧ Blk wr 32 g7 #[.int .i64 E, .int .i64 P]) (fun _ v _ => 402 - (intOf v).toNat)
    case atStart => exact ⟨-1, 0, _, rfl, rfl, by omega, by omega, meet_zero HM.out EN.out e0, S5.out, X5.out⟩
    case round =>
      obtain ⟨l, i, s, rfl, rfl, i4, l2, hF, hH, hX⟩ := hrel
      have F := Lib.hid hF
      have S := Lib.hid hH
      have X := Lib.hid hX
      clear S5 X5 hF hH hX
      have fb := F.out.bd
      have lo := F.out.lo
      by_cases go : i < 400
      · have b1 : decide ((i : Int) + 1 ≤ 400) = true := by simp; omega
        have ro := F.out.room e0 ep
        have IC := Lib.hid (show ((i + 1 : Nat) : Int) = (i : Int) + 1 by omega)
        have HN := Lib.hid (show Nth ((i : Int) + 1) from ⟨by omega, by omega⟩)
        rw [IC.out] at ro
        have x0 := X.out.cell 0
        have x1 := X.out.cell 1
        simp at x0 x1
        go_wp2_with fail
        refine (r4of_yes E P ((i : Int) + 1) 0 wr MB.out HN.out (by decide) (by decide) _ rfl).mono ?_
        rintro e wa ⟨rfl, hba⟩
        rw [Int.add_zero, Int.add_zero]
        obtain ⟨R, hR⟩ : ∃ v, wR E P ((i : Int) + 1) = v := ⟨_, rfl⟩
        obtain ⟨D, hD⟩ : ∃ v, wD E P ((i : Int) + 1) = v := ⟨_, rfl⟩
        obtain ⟨BB, hB⟩ : ∃ v, wB E P ((i : Int) + 1) = v := ⟨_, rfl⟩
        obtain ⟨GG, hG⟩ : ∃ v, (if wG E P ((i : Int) + 1) = 0 then 0 else wG E P ((i : Int) + 1) + 0) = v := ⟨_, rfl⟩
        rw [hR, hD] at ro ⊢
        rw [hB, hG]
        have HR := Lib.hid hR
        have HD := Lib.hid hD
        have NX := Lib.hid (fun (u : Int) (h1 : l + 1 ≤ u) (h2 : u < D) (h3 : R ≤ u) (h4 : u ≤ 1000) => F.out.step EN.out e0 (u := u) h1 (by rw [IC.out, HD.out]; exact h2) (by rw [IC.out, HR.out]; exact h3) h4)
        have MI := Lib.hid (fun (u : Int) (h1 : l + 1 ≤ u) (h2 : u < D) => F.out.miss EN.out e0 (T := u) h1 (by rw [IC.out, HD.out]; exact h2))
        obtain ⟨Wb, hWb⟩ : ∃ W, wa.alloc (.cells #[.int .i64 ((i : Int) + 1), .int .i64 R, .int .i64 D, .int .i64 BB, .int .i64 GG] 52) = W := ⟨_, rfl⟩
        have bx := below_next hba (wbox wa (.cells #[.int .i64 ((i : Int) + 1), .int .i64 R, .int .i64 D, .int .i64 BB, .int .i64 GG] 52))
        rw [hWb] at bx
        have K := Lib.hid (show Blk Wb 52 wa.heap.size #[.int .i64 ((i : Int) + 1), .int .i64 R, .int .i64 D, .int .i64 BB, .int .i64 GG] by rw [← hWb]; exact Blk.new _ _ _)
        have SB := Lib.hid (S.out.below bx)
        have XB := Lib.hid (X.out.below bx)
        obtain ⟨g12, hg12⟩ : ∃ v, wa.heap.size = v := ⟨_, rfl⟩
        rw [hg12] at K
        have y1 := K.out.cell 1
        have y2 := K.out.cell 2
        simp at y1 y2
        clear hR hD hB hG bx x0 x1
        obtain ⟨ro1, ro2, ro3⟩ := ro
        obtain ⟨fb1, fb2, fb3, fb4⟩ := fb
        unfold subV
        by_cases big : 200 < D
        · have b2 : decide (200 < D) = true := by simp; omega
          have PA := Lib.hid F.out.past
          go_wp2_with fail
          clear hWb hg12 hba
          refine (smissed_any g gc cp s l Wb SB.out.at_ (by omega)).mono ?_
          rintro e wc ⟨rfl, hbc⟩
          rw [PA.out]
          have SC := Lib.hid (SB.out.below hbc)
          clear hbc
          go_wp2
          go_ret
          exact ⟨rfl, SC.out.bel⟩
        · have b2 : decide (200 < D) = false := by simp; omega
          by_cases rl : R ≤ l
          · have b3 : decide (R ≤ l) = true := by simp; omega
            by_cases lz : 0 < len1
            · have r1 : 1 ≤ D - (l + 1) := by omega
              have b4 : decide (D - (l + 1) < 1) = false := by simp; omega
              have w4 : IntKind.i64.wrap (D - (l + 1)) = D - (l + 1) := IntWalk.i64_in _ (by omega)
              obtain ⟨RM', hRM⟩ : ∃ v, D - (l + 1) = v := ⟨_, rfl⟩
              rw [hRM] at r1 b4
              have rm2 : RM' ≤ 201 := by omega
              have c1 : decide (0 < len1) = true := by simp; omega
              have c2 : decide (0 < (len1 : Int)) = true := by simp; omega
              have c3 : ((i : Int) + 1).tmod (len1 : Int) = (((i + 1) % len1 : Nat) : Int) := by rw [Int.tmod_eq_emod_of_nonneg (by omega), Int.natCast_emod, Int.natCast_add]; rfl
              have jl : (i + 1) % len1 < len1 := Nat.mod_lt _ (by omega)
              obtain ⟨J, hJ⟩ : ∃ v, (i + 1) % len1 = v := ⟨_, rfl⟩
              rw [hJ] at c3 jl
              have c4 : ¬ (len1 : Int) = 0 := by omega
              have c5 : (J : Int) < (len1 : Int) := by omega
              have c6 : 0 ≤ (J : Int) := by omega
              have c7 : ¬ len1 = 0 := by omega
              obtain ⟨bz, oz, rfl, yx⟩ := ((HZ.out.below SB.out.bel)).cell jl
              obtain ⟨KV, hKV⟩ : ∃ v, zs.getD J 0 = v := ⟨_, rfl⟩
              rw [hKV] at yx
              clear hJ hKV
              have tk := tmod2 KV RM' (by omega)
              obtain ⟨T1, hT1⟩ : ∃ v, KV.tmod RM' = v := ⟨_, rfl⟩
              rw [hT1] at tk
              obtain ⟨T2, hT2⟩ : ∃ v, (T1 + RM').tmod RM' = v := ⟨_, rfl⟩
              have hT3 : (T1 + RM') % RM' = T2 := by rw [← hT2]; exact (Int.tmod_eq_emod_of_nonneg (by omega)).symm
              rw [hT2] at tk
              obtain ⟨tk1, tk2, tk3, tk4⟩ := tk
              have nR : ¬ RM' = 0 := by omega
              have at1 : l + 1 ≤ (l + 1) + T2 := by omega
              have at2 : (l + 1) + T2 < D := by omega
              have at3 : R ≤ (l + 1) + T2 := by omega
              go_wp2
              clear hWb hg12 y1 y2 hba hT1 hT2 hT3 yx
              obtain ⟨AT, hAT⟩ : ∃ v, (l + 1) + T2 = v := ⟨_, rfl⟩
              rw [hAT] at at1 at2 at3 ⊢
              clear hAT
              go_loopw [18] (fun u wx => ∃ t : Int, u = .int .i64 t ∧ l + 1 ≤ t ∧ t ≤ AT + 1 ∧ Has14 w am lm cm qs g gc cp s wx ∧ Blk wx 32 g7 #[.int .i64 E, .int .i64 P]) (fun u _ => (AT + 1 - intOf u).toNat)
              case atStart => exact ⟨l + 1, rfl, by omega, by omega, SB.out, XB.out⟩
              case round =>
                obtain ⟨t, rfl, ht1, ht2, hH, hX⟩ := hrel
                have ST := Lib.hid hH
                have XT := Lib.hid hX
                clear SB XB hH hX
                by_cases go2 : t ≤ AT
                · have b6 : decide (t ≤ AT) = true := by simp; omega
                  have MV := Lib.hid (MI.out t ht1 (by omega))
                  go_wp2_with fail
                  refine (smissed_any g gc cp s t wr ST.out.at_ (by omega)).mono ?_
                  rintro e wc ⟨rfl, hbc⟩
                  rw [MV.out]
                  have SC := Lib.hid (ST.out.below hbc)
                  have XC := Lib.hid (XT.out.below hbc)
                  clear hbc
                  go_wp2
                  go_roundw
                  case rel => exact ⟨t + 1, by go_num, by omega, by omega, SC.out, XC.out⟩
                  case measure => simp [intOf]; omega
                · have b6 : decide (t ≤ AT) = false := by simp; omega
                  have NS := Lib.hid (NX.out AT at1 at2 at3 (by omega))
                  go_wp2_with fail
                  refine (sgrant_any g gc cp s AT wr ST.out.at_ (by omega) (by omega)).mono ?_
                  rintro e wc ⟨rfl, hsc, hkc⟩
                  have SC := Lib.hid (ST.out.keeps hkc hsc)
                  have XC := Lib.hid (XT.out.keeps hkc NE.out)
                  clear hsc hkc
                  go_wp2
                  go_roundw
                  case rel => exact ⟨AT, i + 1, _, rfl, by go_num, by omega, by omega, NS.out, SC.out, XC.out⟩
                  case measure => simp [intOf]; omega
            · have r1 : 1 ≤ D - (l + 1) := by omega
              have b4 : decide (D - (l + 1) < 1) = false := by simp; omega
              have w4 : IntKind.i64.wrap (D - (l + 1)) = D - (l + 1) := IntWalk.i64_in _ (by omega)
              obtain ⟨RM', hRM⟩ : ∃ v, D - (l + 1) = v := ⟨_, rfl⟩
              rw [hRM] at r1 b4
              have rm2 : RM' ≤ 201 := by omega
              have c1 : decide (0 < len1) = false := by simp; omega
              have c2 : decide (0 < (len1 : Int)) = false := by simp; omega
              have tk := tmod2 0 RM' (by omega)
              obtain ⟨T1, hT1⟩ : ∃ v, (0 : Int).tmod RM' = v := ⟨_, rfl⟩
              rw [hT1] at tk
              obtain ⟨T2, hT2⟩ : ∃ v, (T1 + RM').tmod RM' = v := ⟨_, rfl⟩
              have hT3 : (T1 + RM') % RM' = T2 := by rw [← hT2]; exact (Int.tmod_eq_emod_of_nonneg (by omega)).symm
              rw [hT2] at tk
              obtain ⟨tk1, tk2, tk3, tk4⟩ := tk
              have nR : ¬ RM' = 0 := by omega
              have at1 : l + 1 ≤ (l + 1) + T2 := by omega
              have at2 : (l + 1) + T2 < D := by omega
              have at3 : R ≤ (l + 1) + T2 := by omega
              go_wp2
              clear hWb hg12 y1 y2 hba hT1 hT2 hT3
              obtain ⟨AT, hAT⟩ : ∃ v, (l + 1) + T2 = v := ⟨_, rfl⟩
              rw [hAT] at at1 at2 at3 ⊢
              clear hAT
              go_loopw [18] (fun u wx => ∃ t : Int, u = .int .i64 t ∧ l + 1 ≤ t ∧ t ≤ AT + 1 ∧ Has14 w am lm cm qs g gc cp s wx ∧ Blk wx 32 g7 #[.int .i64 E, .int .i64 P]) (fun u _ => (AT + 1 - intOf u).toNat)
              case atStart => exact ⟨l + 1, rfl, by omega, by omega, SB.out, XB.out⟩
              case round =>
                obtain ⟨t, rfl, ht1, ht2, hH, hX⟩ := hrel
                have ST := Lib.hid hH
                have XT := Lib.hid hX
                clear SB XB hH hX
                by_cases go2 : t ≤ AT
                · have b6 : decide (t ≤ AT) = true := by simp; omega
                  have MV := Lib.hid (MI.out t ht1 (by omega))
                  go_wp2_with fail
                  refine (smissed_any g gc cp s t wr ST.out.at_ (by omega)).mono ?_
                  rintro e wc ⟨rfl, hbc⟩
                  rw [MV.out]
                  have SC := Lib.hid (ST.out.below hbc)
                  have XC := Lib.hid (XT.out.below hbc)
                  clear hbc
                  go_wp2
                  go_roundw
                  case rel => exact ⟨t + 1, by go_num, by omega, by omega, SC.out, XC.out⟩
                  case measure => simp [intOf]; omega
                · have b6 : decide (t ≤ AT) = false := by simp; omega
                  have NS := Lib.hid (NX.out AT at1 at2 at3 (by omega))
                  go_wp2_with fail
                  refine (sgrant_any g gc cp s AT wr ST.out.at_ (by omega) (by omega)).mono ?_
                  rintro e wc ⟨rfl, hsc, hkc⟩
                  have SC := Lib.hid (ST.out.keeps hkc hsc)
                  have XC := Lib.hid (XT.out.keeps hkc NE.out)
                  clear hsc hkc
                  go_wp2
                  go_roundw
                  case rel => exact ⟨AT, i + 1, _, rfl, by go_num, by omega, by omega, NS.out, SC.out, XC.out⟩
                  case measure => simp [intOf]; omega
          · have b3 : decide (R ≤ l) = false := by simp; omega
            by_cases lz : 0 < len1
            · have r1 : 1 ≤ D - (R) := by omega
              have b4 : decide (D - (R) < 1) = false := by simp; omega
              have w4 : IntKind.i64.wrap (D - (R)) = D - (R) := IntWalk.i64_in _ (by omega)
              obtain ⟨RM', hRM⟩ : ∃ v, D - (R) = v := ⟨_, rfl⟩
              rw [hRM] at r1 b4
              have rm2 : RM' ≤ 201 := by omega
              have c1 : decide (0 < len1) = true := by simp; omega
              have c2 : decide (0 < (len1 : Int)) = true := by simp; omega
              have c3 : ((i : Int) + 1).tmod (len1 : Int) = (((i + 1) % len1 : Nat) : Int) := by rw [Int.tmod_eq_emod_of_nonneg (by omega), Int.natCast_emod, Int.natCast_add]; rfl
              have jl : (i + 1) % len1 < len1 := Nat.mod_lt _ (by omega)
              obtain ⟨J, hJ⟩ : ∃ v, (i + 1) % len1 = v := ⟨_, rfl⟩
              rw [hJ] at c3 jl
              have c4 : ¬ (len1 : Int) = 0 := by omega
              have c5 : (J : Int) < (len1 : Int) := by omega
              have c6 : 0 ≤ (J : Int) := by omega
              have c7 : ¬ len1 = 0 := by omega
              obtain ⟨bz, oz, rfl, yx⟩ := ((HZ.out.below SB.out.bel)).cell jl
              obtain ⟨KV, hKV⟩ : ∃ v, zs.getD J 0 = v := ⟨_, rfl⟩
              rw [hKV] at yx
              clear hJ hKV
              have tk := tmod2 KV RM' (by omega)
              obtain ⟨T1, hT1⟩ : ∃ v, KV.tmod RM' = v := ⟨_, rfl⟩
              rw [hT1] at tk
              obtain ⟨T2, hT2⟩ : ∃ v, (T1 + RM').tmod RM' = v := ⟨_, rfl⟩
              have hT3 : (T1 + RM') % RM' = T2 := by rw [← hT2]; exact (Int.tmod_eq_emod_of_nonneg (by omega)).symm
              rw [hT2] at tk
              obtain ⟨tk1, tk2, tk3, tk4⟩ := tk
              have nR : ¬ RM' = 0 := by omega
              have at1 : l + 1 ≤ (R) + T2 := by omega
              have at2 : (R) + T2 < D := by omega
              have at3 : R ≤ (R) + T2 := by omega
              go_wp2
              clear hWb hg12 y1 y2 hba hT1 hT2 hT3 yx
              obtain ⟨AT, hAT⟩ : ∃ v, (R) + T2 = v := ⟨_, rfl⟩
              rw [hAT] at at1 at2 at3 ⊢
              clear hAT
              go_loopw [18] (fun u wx => ∃ t : Int, u = .int .i64 t ∧ l + 1 ≤ t ∧ t ≤ AT + 1 ∧ Has14 w am lm cm qs g gc cp s wx ∧ Blk wx 32 g7 #[.int .i64 E, .int .i64 P]) (fun u _ => (AT + 1 - intOf u).toNat)
              case atStart => exact ⟨l + 1, rfl, by omega, by omega, SB.out, XB.out⟩
              case round =>
                obtain ⟨t, rfl, ht1, ht2, hH, hX⟩ := hrel
                have ST := Lib.hid hH
                have XT := Lib.hid hX
                clear SB XB hH hX
                by_cases go2 : t ≤ AT
                · have b6 : decide (t ≤ AT) = true := by simp; omega
                  have MV := Lib.hid (MI.out t ht1 (by omega))
                  go_wp2_with fail
                  refine (smissed_any g gc cp s t wr ST.out.at_ (by omega)).mono ?_
                  rintro e wc ⟨rfl, hbc⟩
                  rw [MV.out]
                  have SC := Lib.hid (ST.out.below hbc)
                  have XC := Lib.hid (XT.out.below hbc)
                  clear hbc
                  go_wp2
                  go_roundw
                  case rel => exact ⟨t + 1, by go_num, by omega, by omega, SC.out, XC.out⟩
                  case measure => simp [intOf]; omega
                · have b6 : decide (t ≤ AT) = false := by simp; omega
                  have NS := Lib.hid (NX.out AT at1 at2 at3 (by omega))
                  go_wp2_with fail
                  refine (sgrant_any g gc cp s AT wr ST.out.at_ (by omega) (by omega)).mono ?_
                  rintro e wc ⟨rfl, hsc, hkc⟩
                  have SC := Lib.hid (ST.out.keeps hkc hsc)
                  have XC := Lib.hid (XT.out.keeps hkc NE.out)
                  clear hsc hkc
                  go_wp2
                  go_roundw
                  case rel => exact ⟨AT, i + 1, _, rfl, by go_num, by omega, by omega, NS.out, SC.out, XC.out⟩
                  case measure => simp [intOf]; omega
            · have r1 : 1 ≤ D - (R) := by omega
              have b4 : decide (D - (R) < 1) = false := by simp; omega
              have w4 : IntKind.i64.wrap (D - (R)) = D - (R) := IntWalk.i64_in _ (by omega)
              obtain ⟨RM', hRM⟩ : ∃ v, D - (R) = v := ⟨_, rfl⟩
              rw [hRM] at r1 b4
              have rm2 : RM' ≤ 201 := by omega
              have c1 : decide (0 < len1) = false := by simp; omega
              have c2 : decide (0 < (len1 : Int)) = false := by simp; omega
              have tk := tmod2 0 RM' (by omega)
              obtain ⟨T1, hT1⟩ : ∃ v, (0 : Int).tmod RM' = v := ⟨_, rfl⟩
              rw [hT1] at tk
              obtain ⟨T2, hT2⟩ : ∃ v, (T1 + RM').tmod RM' = v := ⟨_, rfl⟩
              have hT3 : (T1 + RM') % RM' = T2 := by rw [← hT2]; exact (Int.tmod_eq_emod_of_nonneg (by omega)).symm
              rw [hT2] at tk
              obtain ⟨tk1, tk2, tk3, tk4⟩ := tk
              have nR : ¬ RM' = 0 := by omega
              have at1 : l + 1 ≤ (R) + T2 := by omega
              have at2 : (R) + T2 < D := by omega
              have at3 : R ≤ (R) + T2 := by omega
              go_wp2
              clear hWb hg12 y1 y2 hba hT1 hT2 hT3
              obtain ⟨AT, hAT⟩ : ∃ v, (R) + T2 = v := ⟨_, rfl⟩
              rw [hAT] at at1 at2 at3 ⊢
              clear hAT
              go_loopw [18] (fun u wx => ∃ t : Int, u = .int .i64 t ∧ l + 1 ≤ t ∧ t ≤ AT + 1 ∧ Has14 w am lm cm qs g gc cp s wx ∧ Blk wx 32 g7 #[.int .i64 E, .int .i64 P]) (fun u _ => (AT + 1 - intOf u).toNat)
              case atStart => exact ⟨l + 1, rfl, by omega, by omega, SB.out, XB.out⟩
              case round =>
                obtain ⟨t, rfl, ht1, ht2, hH, hX⟩ := hrel
                have ST := Lib.hid hH
                have XT := Lib.hid hX
                clear SB XB hH hX
                by_cases go2 : t ≤ AT
                · have b6 : decide (t ≤ AT) = true := by simp; omega
                  have MV := Lib.hid (MI.out t ht1 (by omega))
                  go_wp2_with fail
                  refine (smissed_any g gc cp s t wr ST.out.at_ (by omega)).mono ?_
                  rintro e wc ⟨rfl, hbc⟩
                  rw [MV.out]
                  have SC := Lib.hid (ST.out.below hbc)
                  have XC := Lib.hid (XT.out.below hbc)
                  clear hbc
                  go_wp2
                  go_roundw
                  case rel => exact ⟨t + 1, by go_num, by omega, by omega, SC.out, XC.out⟩
                  case measure => simp [intOf]; omega
                · have b6 : decide (t ≤ AT) = false := by simp; omega
                  have NS := Lib.hid (NX.out AT at1 at2 at3 (by omega))
                  go_wp2_with fail
                  refine (sgrant_any g gc cp s AT wr ST.out.at_ (by omega) (by omega)).mono ?_
                  rintro e wc ⟨rfl, hsc, hkc⟩
                  have SC := Lib.hid (ST.out.keeps hkc hsc)
                  have XC := Lib.hid (XT.out.keeps hkc NE.out)
                  clear hsc hkc
                  go_wp2
                  go_roundw
                  case rel => exact ⟨AT, i + 1, _, rfl, by go_num, by omega, by omega, NS.out, SC.out, XC.out⟩
                  case measure => simp [intOf]; omega
      · have b1 : decide ((i : Int) + 1 ≤ 400) = false := by simp; omega
        have PA := Lib.hid F.out.past
        go_wp2_with fail
        refine (smissed_any g gc cp s l wr S.out.at_ (by omega)).mono ?_
        rintro e wc ⟨rfl, hbc⟩
        rw [PA.out]
        have SC := Lib.hid (S.out.below hbc)
        clear hbc
        go_wp2
        go_ret
        exact ⟨rfl, SC.out.bel⟩
  · have t4 : (er != 0) = true := by simp [he]
    go_wp2
    clear hW4 hb3 hg7
    go_ret
    exact ⟨rfl, B4.out⟩
end Go.Proofs.Ytnlgophgglgneaa
