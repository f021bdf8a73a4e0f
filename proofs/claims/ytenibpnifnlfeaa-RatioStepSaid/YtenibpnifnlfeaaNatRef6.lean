/-
  What the document's numbers give back: made (of the laws), Cmp, Add, Mul, Sub: contracts.
-/
import Derived.Test.YtenibpnifnlfeaaNatRef5
namespace Go.Proofs.Ytenibpnifnlfeaa
open Go.RowKit

theorem pow_50 : (4294967296 : Int) ^ 50 ≤ 10 ^ 500 := by decide +kernel
theorem pow_500 : (10 : Int) ^ 500 * 10 ^ 500 = 10 ^ 1000 := by decide +kernel
theorem pow_501 : (10 : Int) ^ 500 + 10 ^ 500 ≤ 10 ^ 501 := by decide +kernel
theorem lim_lt {za : List Int} {m : Int} (ia : Is 4294967296 za m) (hl : za.length ≤ 50) : 0 ≤ m ∧ m < 10 ^ 500 := by
  have h1 := val_lt (by omega) ia.1
  rw [ia.2.2] at h1
  have h2 := ipow_le (B := 4294967296) (by omega) hl
  have h3 := pow_50
  exact ⟨ia.nonneg (by omega), by omega⟩
theorem dig_len {zs : List Int} {m : Int} (h : Is 10 zs m) (hm : m < 10 ^ 500) : zs.length ≤ 500 := h.len_le (by omega) hm
theorem sum_len {zs : List Int} {m n : Int} (h : Is 10 zs (m + n)) (hm : m < 10 ^ 500) (hn : n < 10 ^ 500) : zs.length ≤ 501 :=
  h.len_le (by omega) (by have := pow_501; omega)
theorem mul_len {zs : List Int} {m n : Int} (h : Is 10 zs (m * n)) (hm : 0 ≤ m ∧ m < 10 ^ 500) (hn : 0 ≤ n ∧ n < 10 ^ 500) : zs.length ≤ 1000 := by
  refine h.len_le (by omega) ?_
  have h1 : m * n ≤ m * 10 ^ 500 := Int.mul_le_mul_of_nonneg_left (by omega) hm.1
  have h2 : m * 10 ^ 500 < 10 ^ 500 * 10 ^ 500 := Int.mul_lt_mul_of_pos_right hm.2 (ipow_pos (by omega) 500)
  have h3 := pow_500
  omega

theorem Cmp_any (a : Option Addr) (la ca : Nat) (za : List Int) (m : Int) (b : Option Addr) (lb cb : Nat) (zb : List Int) (n : Int) (w : World)
    (ha : Row .u32 w a la ca za) (ia : Is 4294967296 za m) (hb : Row .u32 w b lb cb zb) (ib : Is 4294967296 zb n) (la5 : la ≤ 50) (lb5 : lb ≤ 50) :
    Calls Try.prog 32 #[.slice a la ca, .slice b lb cb] w fun e w' => e = .returned (.int .i64 (cmpI m n)) ∧ Below w.heap.size w w' := by
  have HA := Lib.hid ha
  have HB := Lib.hid hb
  have IA := Lib.hid ia
  have IB := Lib.hid ib
  clear ha hb ia ib
  go_enter Try.func32, Try.ntmps32
  go_wp2_with fail
  refine (from_any _ _ _ za _ HA.out IA.out.1 (by omega)).mono ?_
  rintro e w1 ⟨a1, l1, k1, z1, rfl, hr1, hi1, hb1, hf1⟩
  have HR1 := Lib.hid hr1; have HI1 := Lib.hid hi1; have HB1 := Lib.hid hb1; have HF1 := Lib.hid hf1
  clear hr1 hi1 hb1 hf1
  go_wp2_with fail
  refine (from_any _ _ _ zb _ (HB.out.below HB1.out) IB.out.1 (by omega)).mono ?_
  rintro e w2 ⟨a2, l2, k2, z2, rfl, hr2, hi2, hb2, hf2⟩
  have HR2 := Lib.hid hr2; have HI2 := Lib.hid hi2; have HB2 := Lib.hid hb2; have HF2 := Lib.hid hf2
  clear hr2 hi2 hb2 hf2
  go_wp2_with fail
  refine (cmp_any _ _ _ z1 _ _ _ _ z2 _ _ (HR1.out.below HB2.out) HI1.out HR2.out HI2.out).mono ?_
  rintro e w3 ⟨rfl, t, rfl⟩
  go_wp2
  go_ret
  exact ⟨ret_one (by rw [IA.out.2.2, IB.out.2.2]), below_drewN (below_next HB1.out HB2.out) _⟩

theorem Add_any (a : Option Addr) (la ca : Nat) (za : List Int) (m : Int) (b : Option Addr) (lb cb : Nat) (zb : List Int) (n : Int) (w : World)
    (ha : Row .u32 w a la ca za) (ia : Is 4294967296 za m) (hb : Row .u32 w b lb cb zb) (ib : Is 4294967296 zb n) (la5 : la ≤ 50) (lb5 : lb ≤ 50) :
    Calls Try.prog 39 #[.slice a la ca, .slice b lb cb] w (Gives .u32 w fun r => Is 4294967296 r (m + n)) := by
  have HA := Lib.hid ha
  have HB := Lib.hid hb
  have IA := Lib.hid ia
  have IB := Lib.hid ib
  have VA := Lib.hid (lim_lt ia (by rw [ha.len]; exact la5))
  have VB := Lib.hid (lim_lt ib (by rw [hb.len]; exact lb5))
  clear ha hb ia ib
  go_enter Try.func39, Try.ntmps39
  go_wp2_with fail
  refine (from_any _ _ _ za _ HA.out IA.out.1 (by omega)).mono ?_
  rintro e w1 ⟨a1, l1, k1, z1, rfl, hr1, hi1, hb1, hf1⟩
  rw [IA.out.2.2] at hi1
  have HL1 := Lib.hid (dig_len hi1 VA.out.2); rw [hr1.len] at HL1
  have HR1 := Lib.hid hr1; have HI1 := Lib.hid hi1; have HB1 := Lib.hid hb1; have HF1 := Lib.hid hf1
  clear hr1 hi1 hb1 hf1
  go_wp2_with fail
  refine (from_any _ _ _ zb _ (HB.out.below HB1.out) IB.out.1 (by omega)).mono ?_
  rintro e w2 ⟨a2, l2, k2, z2, rfl, hr2, hi2, hb2, hf2⟩
  rw [IB.out.2.2] at hi2
  have HL2 := Lib.hid (dig_len hi2 VB.out.2); rw [hr2.len] at HL2
  have HR2 := Lib.hid hr2; have HI2 := Lib.hid hi2; have HB2 := Lib.hid hb2; have HF2 := Lib.hid hf2
  clear hr2 hi2 hb2 hf2
  go_wp2_with fail
  refine (add_any _ _ _ z1 _ _ _ z2 _ (HR1.out.below HB2.out) HI1.out.1 HR2.out HI2.out.1 (by have := HL1.out; omega) (by have := HL2.out; omega)).mono ?_
  rintro e w3 ⟨a3, l3, k3, z3, rfl, hr3, hi3, hb3, hf3⟩
  rw [HI1.out.2.2, HI2.out.2.2] at hi3
  have HL3 := Lib.hid (sum_len hi3 VA.out.2 VB.out.2); rw [hr3.len] at HL3
  have HR3 := Lib.hid hr3; have HI3 := Lib.hid hi3; have HB3 := Lib.hid hb3; have HF3 := Lib.hid hf3
  clear hr3 hi3 hb3 hf3
  go_wp2_with fail
  refine (limbs_any _ _ _ z3 _ _ HR3.out HI3.out (by have := HL3.out; omega)).mono ?_
  rintro e w4 ⟨a4, l4, k4, z4, rfl, hr4, hi4, hb4, hf4⟩
  have HR4 := Lib.hid hr4; have HI4 := Lib.hid hi4; have HB4 := Lib.hid hb4; have HF4 := Lib.hid hf4
  clear hr4 hi4 hb4 hf4
  go_wp2
  go_ret
  exact ⟨_, _, _, _, rfl, HR4.out, HI4.out, below_next (below_next (below_next HB1.out HB2.out) HB3.out) HB4.out, HF4.out.mono (below_next (below_next HB1.out HB2.out) HB3.out).size⟩

theorem Mul_any (a : Option Addr) (la ca : Nat) (za : List Int) (m : Int) (b : Option Addr) (lb cb : Nat) (zb : List Int) (n : Int) (w : World)
    (ha : Row .u32 w a la ca za) (ia : Is 4294967296 za m) (hb : Row .u32 w b lb cb zb) (ib : Is 4294967296 zb n) (la5 : la ≤ 50) (lb5 : lb ≤ 50) :
    Calls Try.prog 33 #[.slice a la ca, .slice b lb cb] w (Gives .u32 w fun r => Is 4294967296 r (m * n)) := by
  have HA := Lib.hid ha
  have HB := Lib.hid hb
  have IA := Lib.hid ia
  have IB := Lib.hid ib
  have VA := Lib.hid (lim_lt ia (by rw [ha.len]; exact la5))
  have VB := Lib.hid (lim_lt ib (by rw [hb.len]; exact lb5))
  clear ha hb ia ib
  go_enter Try.func33, Try.ntmps33
  go_wp2_with fail
  refine (from_any _ _ _ za _ HA.out IA.out.1 (by omega)).mono ?_
  rintro e w1 ⟨a1, l1, k1, z1, rfl, hr1, hi1, hb1, hf1⟩
  rw [IA.out.2.2] at hi1
  have HL1 := Lib.hid (dig_len hi1 VA.out.2); rw [hr1.len] at HL1
  have HR1 := Lib.hid hr1; have HI1 := Lib.hid hi1; have HB1 := Lib.hid hb1; have HF1 := Lib.hid hf1
  clear hr1 hi1 hb1 hf1
  go_wp2_with fail
  refine (from_any _ _ _ zb _ (HB.out.below HB1.out) IB.out.1 (by omega)).mono ?_
  rintro e w2 ⟨a2, l2, k2, z2, rfl, hr2, hi2, hb2, hf2⟩
  rw [IB.out.2.2] at hi2
  have HL2 := Lib.hid (dig_len hi2 VB.out.2); rw [hr2.len] at HL2
  have HR2 := Lib.hid hr2; have HI2 := Lib.hid hi2; have HB2 := Lib.hid hb2; have HF2 := Lib.hid hf2
  clear hr2 hi2 hb2 hf2
  go_wp2_with fail
  refine (mul_any _ _ _ z1 _ _ _ z2 _ (HR1.out.below HB2.out) HI1.out.1 HR2.out HI2.out.1 (by have := HL1.out; omega) (by have := HL2.out; omega)).mono ?_
  rintro e w3 ⟨a3, l3, k3, z3, rfl, hr3, hi3, hb3, hf3⟩
  rw [HI1.out.2.2, HI2.out.2.2] at hi3
  have HL3 := Lib.hid (mul_len hi3 VA.out VB.out); rw [hr3.len] at HL3
  have HR3 := Lib.hid hr3; have HI3 := Lib.hid hi3; have HB3 := Lib.hid hb3; have HF3 := Lib.hid hf3
  clear hr3 hi3 hb3 hf3
  go_wp2_with fail
  refine (limbs_any _ _ _ z3 _ _ HR3.out HI3.out (by have := HL3.out; omega)).mono ?_
  rintro e w4 ⟨a4, l4, k4, z4, rfl, hr4, hi4, hb4, hf4⟩
  have HR4 := Lib.hid hr4; have HI4 := Lib.hid hi4; have HB4 := Lib.hid hb4; have HF4 := Lib.hid hf4
  clear hr4 hi4 hb4 hf4
  go_wp2
  go_ret
  exact ⟨_, _, _, _, rfl, HR4.out, HI4.out, below_next (below_next (below_next HB1.out HB2.out) HB3.out) HB4.out, HF4.out.mono (below_next (below_next HB1.out HB2.out) HB3.out).size⟩
end Go.Proofs.Ytenibpnifnlfeaa
