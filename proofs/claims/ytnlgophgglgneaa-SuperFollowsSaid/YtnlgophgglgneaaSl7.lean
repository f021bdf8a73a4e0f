/-
  The walk of SuperFollows: it answers true, and writes nothing that was there.
-/
import Derived.Test.YtnlgophgglgneaaSl6
import Derived.Test.YtnlgophgglgneaaSzC
import Derived.Deep.CutBlock
import Derived.Deep.DeepCutAuto
import Derived.Deep.RegionHeld3
namespace Go.Proofs.Ytnlgophgglgneaa
open Go.RowKit

set_option maxRecDepth 20000 in
set_option maxHeartbeats 8000000 in
theorem sfollows_walk (a : Option Addr) (len cap : Nat) (ps : List (Int × Int)) (n : Int) (w : World) (h : RowP w a len cap ps) :
    Calls Try.prog 8 #[.slice a len cap, .int .i64 n] w fun e w' => e = .returned (.bool true) ∧ Below w.heap.size w w' := by
  have H := Lib.hid h
  clear h
  go_enter Try.func8, Try.ntmps8
  go_wp2_with fail
  refine (awake14_any w).mono ?_
  rintro e w1 ⟨rfl, hb⟩
  have B1 := Lib.hid hb
  clear hb
  go_wp2_with fail
  refine (made14_any a len cap ps w1 (H.out.below B1.out)).mono ?_
  rintro e w2 ⟨am, lm, cm, rfl, hr, hb, _⟩
  have ME := Lib.hid (made14_each ps)
  have MS := Lib.hid (fun (i : Nat) h => made14_small (ps := ps) (i := i) h)
  have M8 := Lib.hid (made14_len ps)
  obtain ⟨qs, hqs⟩ : ∃ q, made14 ps = q := ⟨_, rfl⟩
  rw [hqs] at hr ME MS M8
  have RM := Lib.hid hr
  have B2 := Lib.hid (below_next B1.out hb)
  have LQ := Lib.hid hr.len
  have ⟨k1, k2⟩ := hr.cap_le
  clear hb hr hqs
  obtain ⟨E, P, er, hv⟩ : ∃ E P er, wgtV qs = (E, P, er) := ⟨_, _, _, rfl⟩
  have HV := Lib.hid hv
  clear hv
  by_cases he : er = 0
  · subst he
    obtain ⟨hM, hEn, _, _, _, _⟩ := wgt_enough HV.out
    have EN := Lib.hid (enough_one hEn)
    have HM := Lib.hid hM
    have l1 : 0 < lm := by have := hM.some_; have := LQ.out; omega
    have l8 : lm ≤ 8 := by have := M8.out; have := LQ.out; omega
    clear hM hEn
    go_wp2_with fail
    refine (snew_yes am lm cm qs 0 w2 RM.out E P HV.out (by decide) (by decide)).mono ?_
    rintro e w3 ⟨g, gc, cp, rfl, hs, lg, lc, hb3⟩
    have HS := Lib.hid (has_new B2.out RM.out l1 hs lg lc hb3)
    clear hs lg lc hb3
    have tk := tmod2 n 201 (by decide)
    obtain ⟨A, hA⟩ : ∃ A, n.tmod 201 = A := ⟨_, rfl⟩
    rw [hA] at tk
    obtain ⟨K, hK⟩ : ∃ K, (A + 201).tmod 201 = K := ⟨_, rfl⟩
    have hK2 : (A + 201) % 201 = K := by rw [← hK]; exact (Int.tmod_eq_emod_of_nonneg (by omega)).symm
    rw [hK] at tk
    obtain ⟨t0, t1, t2, t3⟩ := tk
    go_wp2
    go_loopw [9] (fun u wr => ∃ (t : Nat) (s : SS), u = .int .i64 t ∧ (t : Int) ≤ K ∧ FolS qs P t s ∧ Has14 w am lm cm qs g gc cp s wr) (fun u _ => 201 - (intOf u).toNat)
    case atStart => exact ⟨0, _, rfl, by omega, fol_zero HM.out EN.out, HS.out⟩
    case round =>
      obtain ⟨t, s, rfl, tK, hF, hH⟩ := hrel
      have F := Lib.hid hF
      have S := Lib.hid hH
      clear HS hF hH
      have fb := F.out.bd
      by_cases go : (t : Int) < K
      · have b1 : decide ((t : Int) < K) = true := by simp; omega
        have MI := Lib.hid (F.out.miss EN.out (T := t) (Int.le_refl _))
        have FN := Lib.hid (F.out.step EN.out (by omega))
        go_wp2_with fail
        refine (smissed_any g gc cp s t wr S.out.at_ (by omega)).mono ?_
        rintro e wa ⟨rfl, hba⟩
        rw [MI.out]
        have SA := Lib.hid (S.out.below hba)
        clear hba
        go_wp2_with fail
        refine (sgrant_any g gc cp s t wa SA.out.at_ (by omega) (by omega)).mono ?_
        rintro e wb ⟨rfl, hsb, hkb⟩
        have SB := Lib.hid (SA.out.keeps hkb hsb)
        clear hsb hkb
        go_wp2
        go_roundw
        case rel => exact ⟨t + 1, _, by go_num, by omega, FN.out, SB.out⟩
        case measure => simp [intOf]; omega
      · have b1 : decide ((t : Int) < K) = false := by simp; omega
        have tk : (t : Int) = K := by omega
        clear b1
        subst tk
        have b1 : decide ((t : Int) < (t : Int)) = false := by simp
        have DU := Lib.hid (F.out.due EN.out)
        have ML := Lib.hid (F.out.miss EN.out (T := max ((t : Int) - 1) 0) (by omega))
        have CN := Lib.hid F.out.cnt
        obtain ⟨fb1, fb2, fb3, fb4⟩ := fb
        clear F hK hK2
        go_wp2
        go_loopw [10, 11] (fun u v wx => ∃ i : Nat, v = .int .i64 i ∧ i ≤ lm ∧ u = .int .i64 (dueN qs t i) ∧ Has14 w am lm cm qs g gc cp s wx) (fun _ v _ => lm - (intOf v).toNat)
        case atStart => exact ⟨0, rfl, by omega, by unfold dueN; rfl, S.out⟩
        case round =>
          obtain ⟨i, rfl, il, rfl, hH⟩ := hrel
          have S2 := Lib.hid hH
          clear hH S
          have db := due_bd ME.out (k := (t : Int)) (by omega) i (by rw [LQ.out]; exact il)
          have db2 : (i : Int) * t ≤ 8 * 200 := by
            have h1 := Int.mul_le_mul_of_nonneg_right (show (i : Int) ≤ 8 by omega) (show 0 ≤ (t : Int) by omega)
            omega
          by_cases go2 : i < lm
          · have b2 : decide (i < lm) = true := by simp; omega
            have b3 : decide ((i : Int) < (lm : Int)) = true := by simp; omega
            have j1 : (i : Int) < (lm : Int) := by omega
            have j0 : 0 ≤ (i : Int) := by omega
            have iq : i < qs.length := by rw [LQ.out]; exact go2
            obtain ⟨ba, oa, rfl, hx, hy⟩ := S2.out.row.cell go2
            have mb := MayP.at_ ME.out iq
            have sm := MS.out i iq
            have DN := Lib.hid (show dueN qs t (i + 1) = dueN qs t i + (t : Int) / pP qs i * eP qs i from rfl)
            obtain ⟨d, hd⟩ : ∃ d, dueN qs t i = d := ⟨_, rfl⟩
            replace hx : wr.cell? ⟨ba, oa + i * 2, none⟩ = some (.int .i64 (eP qs i)) := hx
            replace hy : wr.cell? ⟨ba, oa + i * 2 + 1, none⟩ = some (.int .i64 (pP qs i)) := hy
            obtain ⟨p, hp⟩ : ∃ p, pP qs i = p := ⟨_, rfl⟩
            obtain ⟨x, hxx⟩ : ∃ x, eP qs i = x := ⟨_, rfl⟩
            rw [hd] at DN db ⊢
            rw [hp] at hy DN mb sm
            rw [hxx] at hx DN mb
            obtain ⟨m1, m2, m3⟩ := mb
            have HB := Lib.hid (show MayBe 1 p from ⟨by decide, by omega, m3⟩)
            obtain ⟨L, hL⟩ : ∃ L, (t : Int) / p = L := ⟨_, rfl⟩
            have l0 : 0 ≤ L := by rw [← hL]; exact Int.ediv_nonneg (by omega) (by omega)
            have l1' : L ≤ t := by rw [← hL]; exact Int.ediv_le_self _ (by omega)
            have HL := Lib.hid hL
            rw [hL] at DN
            have p0 : 0 ≤ L * x := Int.mul_nonneg l0 (by omega)
            have p1 : L * x ≤ 200 * 24 := Int.mul_le_mul (by omega) (by omega) (by omega) (by decide)
            have w1' : IntKind.i64.wrap (L * x) = L * x := IntWalk.i64_in _ (by omega)
            have w2' : IntKind.i64.wrap (d + L * x) = d + L * x := IntWalk.i64_in _ (by omega)
            have SA := Lib.hid (show ∀ W, Below wr.heap.size wr W → W.cell? ⟨ba, oa + i * 2, none⟩ = some (.int .i64 x) ∧ W.cell? ⟨ba, oa + i * 2 + 1, none⟩ = some (.int .i64 p) from fun W hb => ⟨cell_on hb hx, cell_on hb hy⟩)
            clear hd hp hxx hL hx hy
            go_upto_region 17 with fail
            have BL := Lib.hid (show Below wr.heap.size wr wr.drew from (Below.refl _ _).drew)
            go_region_held3 (fun W => W.cell? ⟨ba, oa + i * 2, none⟩ = some (.int .i64 x) ∧ W.cell? ⟨ba, oa + i * 2 + 1, none⟩ = some (.int .i64 p))
              (exact SA.out _ BL.out)
              (first | (go_at_call 32; ((with_reducible refine (low14_any p t L _ HB.out (by omega) (by omega) HL.out).mono ?_)); rintro e wl ⟨rfl, hb⟩; have BL := Lib.hid (below_next BL.out hb); clear hb))
            all_goals
              go_wp2
              go_roundw
              case rel => exact ⟨i + 1, by go_num, by omega, by rw [DN.out], S2.out.below BL.out⟩
              case measure => simp [intOf]; omega
          · have b2 : decide (i < lm) = false := by simp; omega
            have b3 : decide ((i : Int) < (lm : Int)) = false := by simp; omega
            obtain ⟨sv, hsv⟩ : ∃ v, s.served = v := ⟨_, rfl⟩
            obtain ⟨si, hsi⟩ : ∃ v, s.idle = v := ⟨_, rfl⟩
            have DL := Lib.hid (show dueN qs t i ≤ sv by rw [← hsv]; have := DU.out; rwa [LQ.out, show lm = i by omega] at this)
            have CL : sv + si = t := by rw [← hsv, ← hsi]; exact CN.out
            rw [hsv] at fb1 fb2
            rw [hsi] at fb3 fb4
            obtain ⟨d, hd⟩ : ∃ d, dueN qs t i = d := ⟨_, rfl⟩
            rw [hd] at DL db ⊢
            have HV1 := Lib.hid hsv
            have HV2 := Lib.hid hsi
            clear hsv hsi hd
            have b4 : decide (d ≤ sv) = true := by simp; exact DL.out
            have b5 : (sv + si == (t : Int)) = true := by simp [CL]
            have w5 : IntKind.i64.wrap (sv + si) = t := by rw [CL]; exact IntWalk.i64_in _ (by omega)
            go_wp2_with fail
            refine (sserved_any S2.out.at_).mono ?_
            rintro e wa ⟨rfl, rfl⟩
            rw [HV1.out]
            go_wp2_with fail
            refine (sidle_any S2.out.at_).mono ?_
            rintro e wa ⟨rfl, rfl⟩
            rw [HV2.out]
            go_wp2_with fail
            refine (sserved_any S2.out.at_).mono ?_
            rintro e wa ⟨rfl, rfl⟩
            rw [HV1.out]
            go_wp2_with fail
            refine (smissed_any g gc cp s _ wr S2.out.at_ (by rw [HV1.out]; omega)).mono ?_
            rintro e wa ⟨rfl, hba⟩
            rw [ML.out]
            have SA := Lib.hid (S2.out.below hba)
            clear hba
            go_wp2
            go_ret
            exact ⟨rfl, SA.out.bel⟩
  · go_wp2_with fail
    refine (snew_no am lm cm qs 0 w2 RM.out E P er HV.out he).mono ?_
    rintro e w3 ⟨rfl, hb3⟩
    have B3 := Lib.hid (below_next B2.out hb3)
    clear hb3
    go_wp2
    go_ret
    exact ⟨rfl, B3.out⟩
end Go.Proofs.Ytnlgophgglgneaa
