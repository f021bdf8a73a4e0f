/-
  What package nat's Check, Of and Cmp give back: contracts.
-/
import Derived.Test.YtenibpnifnlfeaaNat2
namespace Go.Proofs.Ytenibpnifnlfeaa
open Go.RowKit

theorem nCheck_any (a : Option Addr) (la ca : Nat) (za : List Int) (w : World) (r : Bool) (ha : Row .u32 w a la ca za) (hr : r = true ↔ Top za) :
    Calls Try.prog 31 #[.slice a la ca] w fun e w' => e = .returned (.bool r) ∧ w = w' := by
  have ⟨c1, c2⟩ := ha.cap_le
  cases la with
  | zero =>
    have E : r = true := hr.mpr (by have := ha.len; rw [List.length_eq_zero_iff.mp this]; simp [Top])
    subst E
    clear hr ha
    go_enter Try.func31, Try.ntmps31
    go_wp2
    go_ret
    exact ⟨rfl, rfl⟩
  | succ m =>
    obtain ⟨b, off, rfl, hc⟩ := ha.cell (show m < m + 1 by omega)
    have ht := top_of ha.len
    obtain ⟨z, hz⟩ : ∃ z, za.getD m 0 = z := ⟨_, rfl⟩
    rw [hz] at hc ht
    have n0 : (((m + 1 : Nat) : Int) == 0) = false := by simp; omega
    have n1 : ((m : Int) + 1 == 0) = false := by simp; omega
    by_cases g : z = 0
    · have E : r = false := by
        rcases r with _ | _
        · rfl
        · exact absurd g (ht.mp (hr.mp rfl))
      subst E
      subst g
      clear hr ha ht hz
      go_enter Try.func31, Try.ntmps31
      go_wp2
      go_ret
      exact ⟨rfl, rfl⟩
    · have E : r = true := hr.mpr (ht.mpr g)
      subst E
      have g1 : (z != 0) = true := by simp [g]
      clear hr ha ht hz g
      go_enter Try.func31, Try.ntmps31
      go_wp2
      go_ret
      exact ⟨rfl, rfl⟩


def sgn (b : Bool) : Int := if b then -1 else 1
theorem sign_any (b : Bool) (w : World) : Calls Try.prog 53 #[.bool b] w fun e w' => e = .returned (.int .i64 (sgn b)) ∧ w = w' := by
  cases b
  · exact sign_no w
  · exact sign_yes w

theorem cmp_len {B : Int} (hB : 1 < B) {za zb : List Int} {m n : Int} (ha : Is B za m) (hb : Is B zb n) (h : za.length ≠ zb.length) : cmpI m n = sgn (decide (za.length < zb.length)) := by
  rcases Nat.lt_or_ge za.length zb.length with g | g
  · rw [cmpI_lt (len_lt hB ha hb g), decide_eq_true g]; rfl
  · rw [cmpI_gt (len_lt hB hb ha (by omega)), decide_eq_false (by omega)]; rfl

theorem nCmp_any (a : Option Addr) (la ca : Nat) (za : List Int) (b : Option Addr) (lb cb : Nat) (zb : List Int) (w : World)
    (ha : Row .u32 w a la ca za) (da : Digs 4294967296 za) (hb : Row .u32 w b lb cb zb) (db : Digs 4294967296 zb) :
    Calls Try.prog 34 #[.slice a la ca, .slice b lb cb] w fun e w' => e = .returned (.int .i64 (cmpI (val 4294967296 za) (val 4294967296 zb))) ∧ ∃ k, w' = w.drewN k := by
  have ⟨c1, c2⟩ := ha.cap_le
  have ⟨c3, c4⟩ := hb.cap_le
  have HA := Lib.hid ha
  have HB := Lib.hid hb
  have DA := Lib.hid da
  have DB := Lib.hid db
  clear ha hb da db
  go_enter Try.func34, Try.ntmps34
  go_wp2_with (first
    | (go_at_call 52; ((with_reducible refine (ncut_any a la ca za _ HA.out DA.out).mono ?_)); rintro e w' ⟨m1, l1, rfl, hr1, hi1, rfl⟩; have HR1 := Lib.hid hr1; have HI1 := Lib.hid hi1; clear hr1 hi1)
    | (go_at_call 52; ((with_reducible refine (ncut_any b lb cb zb _ HB.out DB.out).mono ?_)); rintro e w' ⟨m2, l2, rfl, hr2, hi2, rfl⟩; have HR2 := Lib.hid hr2; have HI2 := Lib.hid hi2; clear hr2 hi2)
    | (go_at_call 53; ((with_reducible refine (sign_any _ _).mono ?_)); rintro e w' ⟨rfl, rfl⟩))
  · have hne : ((m1 : Int) != (m2 : Int)) = true := by assumption
    have hne' : m1 ≠ m2 := by intro e; subst e; simp at hne
    have E := Lib.hid (cmp_len (by omega) HI1.out HI2.out (by rw [HR1.out.len, HR2.out.len]; exact hne'))
    rw [HR1.out.len, HR2.out.len] at E
    go_ret
    exact ⟨ret_one E.out.symm, 0, rfl⟩
  · have heq : ((m1 : Int) != (m2 : Int)) = false := by assumption
    rw [heq]
    obtain rfl : m1 = m2 := by have := heq; simp at this; omega
    clear heq
    have L1 := Lib.hid HR1.out.len
    have L2 := Lib.hid HR2.out.len
    go_loopw [24] (fun v wr => ∃ (j i t : Nat), v = .int .i64 i ∧ j + i = m1 ∧ val 4294967296 ((za.take m1).drop j) = val 4294967296 ((zb.take m1).drop j) ∧ wr = w.drewN t) (fun v _ => m1 - (intOf v).toNat)
    case atStart => exact ⟨m1, 0, 0, rfl, rfl, by rw [List.drop_eq_nil_of_le (by rw [L1.out]; omega), List.drop_eq_nil_of_le (by rw [L2.out]; omega)], rfl⟩
    case round =>
      obtain ⟨j, i, t, rfl, hji, hval, rfl⟩ := hrel
      have HV := Lib.hid hval
      clear hval
      cases j with
      | zero =>
        have e := Lib.hid (cmpI_eq (show val 4294967296 za = val 4294967296 zb by rw [← HI1.out.2.2, ← HI2.out.2.2]; exact HV.out))
        have b1 : decide (i < m1) = false := by simp; omega
        go_wp2
        go_ret
        exact ⟨ret_one e.out.symm, _, rfl⟩
      | succ j =>
        obtain ⟨ba, oa, rfl, hca⟩ := HR1.out.cell (show j < m1 by omega)
        obtain ⟨bb, ob, rfl, hcb⟩ := HR2.out.cell (show j < m1 by omega)
        obtain ⟨x, hx⟩ : ∃ x, (za.take m1).getD j 0 = x := ⟨_, rfl⟩
        obtain ⟨y, hy⟩ : ∃ y, (zb.take m1).getD j 0 = y := ⟨_, rfl⟩
        have b1 : decide (i < m1) = true := by simp; omega
        have j1 : (j : Int) < (m1 : Int) := by omega
        have j2 : 0 ≤ (j : Int) := by omega
        have va := HI1.out.2.2
        have vb := HI2.out.2.2
        obtain rfl : m1 = j + 1 + i := by omega
        clear hji
        have E0 := Lib.hid (show (j : Int) + 1 + (i : Int) - 1 - (i : Int) = j by omega)
        rcases Int.lt_trichotomy x y with g | g | g
        · have e := Lib.hid (cmpI_lt (show val 4294967296 za < val 4294967296 zb by rw [← va, ← vb]; exact dig_lt (by omega) HI1.out.1 HI2.out.1 (by rw [L1.out]; omega) (by rw [L2.out]; omega) HV.out (by rw [hx, hy]; exact g)))
          rw [hx] at hca
          rw [hy] at hcb
          clear hx hy va vb
          have bx : (x != y) = true := by simp; omega
          have bl : decide (x < y) = true := by simp; omega
          go_wp2
          rw [E0.out]
          go_quiet (fail)
          go_wp2
          go_quiet ((go_at_call 53; exact quiet_add_left (sign_any _ _)))
          go_wp2
          go_ret
          refine ⟨ret_one e.out.symm, ?_⟩
          simp only [World.drewN_drewN]
          exact ⟨_, rfl⟩
        · subst g
          have e := Lib.hid (show val 4294967296 ((za.take (j + 1 + i)).drop j) = val 4294967296 ((zb.take (j + 1 + i)).drop j) by rw [val_drop, val_drop 4294967296 (zb.take (j + 1 + i)), hx, hy, HV.out])
          rw [hx] at hca
          rw [hy] at hcb
          clear hx hy va vb
          have bx : (x != x) = false := by simp
          go_wp2
          rw [E0.out]
          go_quiet (fail)
          go_wp2
          go_roundw
          case rel => exact ⟨j, i + 1, _, by go_num, by omega, e.out, rfl⟩
          case measure => simp [intOf] <;> omega
        · have e := Lib.hid (cmpI_gt (show val 4294967296 zb < val 4294967296 za by rw [← va, ← vb]; exact dig_lt (by omega) HI2.out.1 HI1.out.1 (by rw [L2.out]; omega) (by rw [L1.out]; omega) HV.out.symm (by rw [hx, hy]; exact g)))
          rw [hx] at hca
          rw [hy] at hcb
          clear hx hy va vb
          have bx : (x != y) = true := by simp; omega
          have bl : decide (x < y) = false := by simp; omega
          go_wp2
          rw [E0.out]
          go_quiet (fail)
          go_wp2
          go_quiet ((go_at_call 53; exact quiet_add_left (sign_any _ _)))
          go_wp2
          go_ret
          refine ⟨ret_one e.out.symm, ?_⟩
          simp only [World.drewN_drewN]
          exact ⟨_, rfl⟩
end Go.Proofs.Ytenibpnifnlfeaa
