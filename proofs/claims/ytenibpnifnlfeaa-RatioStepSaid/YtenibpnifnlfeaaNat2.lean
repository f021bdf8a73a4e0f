/-
  What package nat's cut and Check give back: contracts.
-/
import Derived.Test.YtenibpnifnlfeaaNat1
namespace Go.Proofs.Ytenibpnifnlfeaa
open Go.RowKit

/-- the row's beginning, cut with three indices: as much, without noughts at the end -/
def Trims (w : World) (a : Option Addr) (len : Nat) (zs : List Int) (e : Ending) (w' : World) : Prop :=
  ∃ m, m ≤ len ∧ e = .returned (.slice a m m) ∧ Row .u32 w a m m (zs.take m) ∧ Is 4294967296 (zs.take m) (val 4294967296 zs) ∧ w = w'

theorem Row.trim {k : IntKind} {W : World} {a : Option Addr} {len cap m : Nat} {zs : List Int} (h : Row k W a len cap zs) (hm : m ≤ len) : Row k W a m m (zs.take m) := by
  have h1 := h.take hm
  have h2 := h.2.2.1
  have h3 := h.2.1
  refine ⟨h1.1, Nat.le_refl _, by omega, fun e => ?_, h1.2.2.2.2⟩
  have := h.2.2.2.1 e
  omega

theorem ncut_any (a : Option Addr) (len cap : Nat) (zs : List Int) (w : World) (h : Row .u32 w a len cap zs) (hd : Digs 4294967296 zs) :
    Calls Try.prog 52 #[.slice a len cap] w (Trims w a len zs) := by
  have H := Lib.hid h
  have HD := Lib.hid hd
  have HL := Lib.hid h.len
  have ⟨c1, c2⟩ := h.cap_le
  clear h hd
  go_enter Try.func52, Try.ntmps52
  go_wp2
  go_step3
  go_wp2
  go_step3
  go_wp2
  go_loop [3, 9] (fun u v => ∃ m i : Nat, m + i = len ∧ u = .int .i64 m ∧ v = .int .i64 i ∧ val 4294967296 (zs.take m) = val 4294967296 zs) (fun u _ => (intOf u).toNat)
  case atStart => exact ⟨len, 0, rfl, rfl, rfl, by rw [List.take_of_length_le (by rw [HL.out]; exact Nat.le_refl _)]⟩
  case round =>
    obtain ⟨m, i, hmi, rfl, rfl, hv⟩ := hrel
    have HV := Lib.hid hv
    clear hv
    have hm : m ≤ len := by omega
    cases m with
    | zero =>
      obtain rfl : len = i := by omega
      clear hmi
      go_wp2
      try rw [Exit.noGoto_ret]
      go_ret
      exact ⟨0, Nat.zero_le _, rfl, H.out.trim (Nat.zero_le _), ⟨HD.out.take 0, by simp [Top], HV.out⟩, rfl⟩
    | succ m =>
      obtain ⟨b, off, rfl, hc⟩ := H.out.cell (show m < len by omega)
      obtain ⟨z, hz⟩ : ∃ z, zs.getD m 0 = z := ⟨_, rfl⟩
      rw [hz] at hc
      have HZ := Lib.hid hz
      clear hz
      obtain rfl : len = m + 1 + i := by omega
      clear hmi
      have e1 : ((m + 1 + i : Nat) : Int) - 1 - (i : Int) = m := by omega
      by_cases g : z = 0
      · subst g
        go_wp2
        go_round
        case rel => exact ⟨m, i + 1, by omega, by go_num, by go_num, by rw [← HV.out, val_take_zero (by rw [HL.out]; omega) HZ.out]⟩
        case measure => simp [intOf]
      · have g' : (z == 0) = false := by simp [g]
        have g'' : (z != 0) = true := by simp [g]
        go_wp2
        try rw [Exit.noGoto_ret]
        go_ret
        exact ⟨m + 1, hm, rfl, H.out.trim hm, ⟨HD.out.take _, top_take (by rw [HL.out]; omega) (by rw [HZ.out]; exact g), HV.out⟩, rfl⟩
end Go.Proofs.Ytenibpnifnlfeaa
