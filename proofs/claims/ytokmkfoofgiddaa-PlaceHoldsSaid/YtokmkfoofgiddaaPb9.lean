/-
  The walk of the law PlaceHolds.
-/
import Derived.Test.YtokmkfoofgiddaaPb8
namespace Go.Proofs.Ytokmkfoofgiddaa
open Go.RowKit

set_option maxRecDepth 100000 in
set_option maxHeartbeats 8000000 in
theorem pholds_walk (a : Option Addr) (len cap : Nat) (ps : List (Int × Int)) (m : Int) (w : World) (h : RowQ w a len cap ps) :
    Calls Try.prog 5 #[.slice a len cap, .int .i64 m] w fun e w' => e = .returned (.bool true) ∧ Below w.heap.size w w' := by
  have H := Lib.hid h
  clear h
  obtain ⟨t0, t1, t2, t3⟩ := tmod2 m 20 (by omega)
  obtain ⟨A, hA⟩ : ∃ A, m.tmod 20 = A := ⟨_, rfl⟩
  rw [hA] at t0 t1 t2 t3
  obtain ⟨K, hK⟩ : ∃ K, (A + 20).tmod 20 = K := ⟨_, rfl⟩
  have hK2 : (A + 20) % 20 = K := by rw [← hK]; exact (Int.tmod_eq_emod_of_nonneg (by omega)).symm
  rw [hK] at t0 t1
  obtain ⟨n, hN⟩ : ∃ n : Nat, 1 + K = (n : Int) := ⟨(1 + K).toNat, by omega⟩
  have n1 : 1 ≤ n := by omega
  have n4 : n ≤ 20 := by omega
  go_enter Try.func5, Try.ntmps5
  go_wp2_with fail
  refine (awake15_any _).mono ?_
  rintro e w1 ⟨rfl, hb⟩
  have B1 := Lib.hid hb
  clear hb
  go_wp2_with fail
  refine (made15_any a len cap ps n w1 (H.out.below B1.out) (by omega) (by omega)).mono ?_
  rintro e w2 ⟨am, lm, cm, rs, rfl, hr, hmay, hb⟩
  have R := Lib.hid hr
  have MY := Lib.hid hmay
  have B := Lib.hid (below_next B1.out hb)
  have LR := Lib.hid hr.len
  have l4 : lm ≤ 20 := by have h1 := hmay.few; rw [hr.len] at h1; omega
  have HA := Lib.hid (holds_asg hmay)
  have AY := Lib.hid (asg_yes hmay)
  clear hr hmay hb hK hN t0 t1 t2 t3 hA hK2
  go_wp2_with fail
  refine (passign_any am lm cm rs n w2 R.out).mono ?_
  rintro e w3 ⟨ao, lo, co, rfl, hr, hb⟩
  rw [AY.out.2]
  have O := Lib.hid hr
  have B := Lib.hid (below_next B.out hb)
  have R := Lib.hid (R.out.below hb)
  clear hr hb
  go_wp2_with fail
  refine (pholds_any am lm cm rs ao lo co _ n w3 R.out O.out).mono ?_
  rintro e w4 ⟨rfl, hb⟩
  rw [HA.out]
  have O := Lib.hid (O.out.below hb)
  have B := Lib.hid (below_next B.out hb)
  have R := Lib.hid (R.out.below hb)
  clear hb
  rw [AY.out.1] at O
  have lol : lo = lm := by have h1 := O.out.len; rw [assign_len] at h1; rw [← h1]; exact LR.out
  subst lol
  have b0 : ((lo : Int) != (lo : Int)) = false := by simp
  go_wp2
  go_loopw [10] (fun u wr => ∃ i : Nat, u = .int .i64 i ∧ i ≤ lo ∧ Below w4.heap.size w4 wr) (fun u _ => lo - (intOf u).toNat)
  case atStart => exact ⟨0, rfl, by omega, Below.refl _ _⟩
  case round =>
    obtain ⟨i, rfl, i1, hb⟩ := hrel
    have BI := Lib.hid hb
    clear hb
    by_cases go : i < lo
    · have b1 : decide ((i : Int) < (lo : Int)) = true := by simp; omega
      have b1' : decide (i < lo) = true := by simp; omega
      obtain ⟨r, hr, -⟩ := getR (l := rs) (i := i) (by rw [LR.out]; exact go)
      obtain ⟨c, hc, hcd⟩ := getI (cs := assignR rs n) (i := i) (by rw [assign_len, LR.out]; exact go)
      have TY := Lib.hid (fun h1 h2 h3 => taken_yes (m := n) hr hc h1 h2 h3)
      rw [LR.out] at TY
      obtain ⟨ba, oa, rfl, hat⟩ := R.out.at hr
      obtain ⟨bb, ob, rfl, hcell⟩ := O.out.cell go
      rw [hcd] at hcell
      have x1 := (hat.below BI.out).c1; have x2 := (hat.below BI.out).c2
      have y := cell_on BI.out hcell
      have HX2 := Lib.hid hat.c2
      have i3 : (i : Int) < (lo : Int) := by omega
      have i0 : 0 ≤ (i : Int) := by omega
      obtain ⟨pin, hpin⟩ : ∃ p, r.pin = p := ⟨_, rfl⟩
      obtain ⟨z, hz⟩ : ∃ p, r.last = p := ⟨_, rfl⟩
      rw [hpin] at x1 TY
      rw [hz] at x2 TY HX2
      clear hr hc hcd hat hcell hpin hz
      by_cases p1 : 0 ≤ pin
      · have b2 : decide (0 ≤ pin) = true := by simp; omega
        go_upto_region 10 with fail
        go_quiet (fail)
        go_wp2
        go_roundw
        case rel => exact ⟨i + 1, by go_num, by omega, bdN BI.out _⟩
        case measure => simp [intOf]; omega
      · have b2 : decide (0 ≤ pin) = false := by simp; omega
        by_cases p2 : z < 0
        · have b3 : decide (z < 0) = true := by simp; omega
          go_upto_region 10 with fail
          go_quiet (fail)
          go_wp2
          go_roundw
          case rel => exact ⟨i + 1, by go_num, by omega, bdN BI.out _⟩
          case measure => simp [intOf]; omega
        · have b3 : decide (z < 0) = false := by simp; omega
          by_cases p3 : c = z
          · have b4 : (c == z) = true := by simp [p3]
            clear p3
            go_upto_region 10 with fail
            go_quiet (fail)
            go_wp2
            go_roundw
            case rel => exact ⟨i + 1, by go_num, by omega, bdN BI.out _⟩
            case measure => simp [intOf]; omega
          · have b4 : (c == z) = false := by simp [p3]
            have TT := Lib.hid (TY.out (by omega) (by omega) p3)
            clear p3
            go_upto_region 10 with fail
            go_quiet (fail)
            go_wp2
            clear b1 b1' b2 b3 b4 x1 x2 y
            go_loopw [11, 12] (fun v u wx => ∃ k : Nat, u = .int .i64 k ∧ k ≤ lo ∧ v = .bool (takenB rs (assignR rs n) i z k) ∧ Below w4.heap.size w4 wx) (fun _ u _ => lo - (intOf u).toNat)
            case atStart => exact ⟨0, rfl, by omega, by rw [taken_zero], bdN BI.out _⟩
            case round =>
              obtain ⟨k, rfl, k1, rfl, hb⟩ := hrel
              clear BI
              have BK := Lib.hid hb
              clear hb
              by_cases go2 : k < lo
              · have d1 : decide ((k : Int) < (lo : Int)) = true := by simp; omega
                have d1' : decide (k < lo) = true := by simp; omega
                obtain ⟨r2, hr2, -⟩ := getR (l := rs) (i := k) (by rw [LR.out]; exact go2)
                obtain ⟨c2, hc2, hcd2⟩ := getI (cs := assignR rs n) (i := k) (by rw [assign_len, LR.out]; exact go2)
                have TN := Lib.hid (taken_next (i := i) (z := z) hr2 hc2)
                obtain ⟨b', o', e', hat⟩ := R.out.at hr2
                cases e'
                obtain ⟨b', o', e', hcell⟩ := O.out.cell go2
                cases e'
                rw [hcd2] at hcell
                have z1 := (hat.below BK.out).c1; have z2 := (hat.below BK.out).c2
                have zc := cell_on BK.out hcell
                have x2 := cell_on BK.out HX2.out
                have k3 : (k : Int) < (lo : Int) := by omega
                have k0 : 0 ≤ (k : Int) := by omega
                obtain ⟨pk, hpk⟩ : ∃ p, r2.pin = p := ⟨_, rfl⟩
                obtain ⟨zk, hzk⟩ : ∃ p, r2.last = p := ⟨_, rfl⟩
                rw [hpk] at z1 TN
                rw [hzk] at z2 TN
                clear hr2 hc2 hcd2 hat hcell hpk hzk
                obtain ⟨tb, htb⟩ : ∃ q, takenB rs (assignR rs n) i z k = q := ⟨_, rfl⟩
                rw [htb] at TN ⊢
                clear htb
                cases tb with
                | true =>
                  have NX := Lib.hid (show takenB rs (assignR rs n) i z (k + 1) = true by rw [TN.out]; rfl)
                  go_upto_region 15 with fail
                  go_quiet (fail)
                  go_wp2
                  go_roundw
                  case rel => exact ⟨k + 1, by go_num, by omega, by rw [NX.out], bdN BK.out _⟩
                  case measure => simp [intOf]; omega
                | false =>
                  by_cases e1 : pk = z
                  · have f0 : (pk == z) = true := by simp [e1]
                    have NX := Lib.hid (show takenB rs (assignR rs n) i z (k + 1) = true by rw [TN.out]; simp [e1])
                    clear e1
                    go_upto_region 15 with fail
                    go_quiet (fail)
                    go_wp2
                    go_roundw
                    case rel => exact ⟨k + 1, by go_num, by omega, by rw [NX.out], bdN BK.out _⟩
                    case measure => simp [intOf]; omega
                  · have f0 : (pk == z) = false := by simp [e1]
                    by_cases e2 : k < i
                    · have f1 : decide ((k : Int) < (i : Int)) = true := by simp; omega
                      have g1 : decide (k < i) = true := by simp; omega
                      by_cases e3 : pk < 0
                      · have f2 : decide (pk < 0) = true := by simp; omega
                        by_cases e4 : c2 = z
                        · have f3 : (c2 == z) = true := by simp [e4]
                          by_cases e5 : zk = z
                          · have f4 : (zk == z) = true := by simp [e5]
                            have NX := Lib.hid (show takenB rs (assignR rs n) i z (k + 1) = true by rw [TN.out]; simp [e2, e3, e4, e5])
                            clear e1 e3 e4 e5
                            go_upto_region 15 with fail
                            go_quiet (fail)
                            go_wp2
                            go_roundw
                            case rel => exact ⟨k + 1, by go_num, by omega, by rw [NX.out], bdN BK.out _⟩
                            case measure => simp [intOf]; omega
                          · have f4 : (zk == z) = false := by simp [e5]
                            have NX := Lib.hid (show takenB rs (assignR rs n) i z (k + 1) = false by rw [TN.out]; simp [e1, e2, e3, e4, e5])
                            clear e1 e3 e4 e5
                            go_upto_region 15 with fail
                            go_quiet (fail)
                            go_wp2
                            go_roundw
                            case rel => exact ⟨k + 1, by go_num, by omega, by rw [NX.out], bdN BK.out _⟩
                            case measure => simp [intOf]; omega
                        · have f3 : (c2 == z) = false := by simp [e4]
                          have NX := Lib.hid (show takenB rs (assignR rs n) i z (k + 1) = false by rw [TN.out]; simp [e1, e2, e3, e4])
                          clear e1 e3 e4
                          go_upto_region 15 with fail
                          go_quiet (fail)
                          go_wp2
                          go_roundw
                          case rel => exact ⟨k + 1, by go_num, by omega, by rw [NX.out], bdN BK.out _⟩
                          case measure => simp [intOf]; omega
                      · have f2 : decide (pk < 0) = false := by simp; omega
                        have NX := Lib.hid (show takenB rs (assignR rs n) i z (k + 1) = false by rw [TN.out]; simp [e1, e2, e3])
                        clear e1 e3
                        go_upto_region 15 with fail
                        go_quiet (fail)
                        go_wp2
                        go_roundw
                        case rel => exact ⟨k + 1, by go_num, by omega, by rw [NX.out], bdN BK.out _⟩
                        case measure => simp [intOf]; omega
                    · have f1 : decide ((k : Int) < (i : Int)) = false := by simp; omega
                      have g1 : decide (k < i) = false := by simp; omega
                      have NX := Lib.hid (show takenB rs (assignR rs n) i z (k + 1) = false by rw [TN.out]; simp [e1, e2])
                      clear e1
                      go_upto_region 15 with fail
                      go_quiet (fail)
                      go_wp2
                      go_roundw
                      case rel => exact ⟨k + 1, by go_num, by omega, by rw [NX.out], bdN BK.out _⟩
                      case measure => simp [intOf]; omega
              · have d1 : decide ((k : Int) < (lo : Int)) = false := by simp; omega
                have d1' : decide (k < lo) = false := by simp; omega
                have ke : k = lo := by omega
                have TK : takenB rs (assignR rs n) i z k = true := by rw [ke]; exact TT.out
                rw [TK]
                clear ke TK
                go_wp2
                go_roundw
                case rel => exact ⟨i + 1, by go_num, by omega, BK.out⟩
                case measure => simp [intOf]; omega
    · have b1 : decide ((i : Int) < (lo : Int)) = false := by simp; omega
      have b1' : decide (i < lo) = false := by simp; omega
      go_wp2
      go_ret
      exact ⟨rfl, below_next B.out BI.out⟩
end Go.Proofs.Ytokmkfoofgiddaa
