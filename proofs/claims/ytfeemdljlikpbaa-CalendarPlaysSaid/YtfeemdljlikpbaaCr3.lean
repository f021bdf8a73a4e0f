/-
  The document's own calendar (regattaref08): Same: contract.
-/
import Derived.Test.YtfeemdljlikpbaaCr2
namespace Go.Proofs.Ytfeemdljlikpbaa
open Go.RowKit

set_option maxHeartbeats 2000000 in
/-- of two rows that are the same it tells so -/
theorem r8same_yes (a b : Option Addr) (len ca cb : Nat) (es : List Ev) (w : World) (ha : RowV w a len ca es) (hb : RowV w b len cb es) :
    Calls Try.prog 13 #[.slice a len ca, .slice b len cb] w fun e w' => e = .returned (.bool true) ∧ Below w.heap.size w w' := by
  have HA := Lib.hid ha
  have HB := Lib.hid hb
  have LN := Lib.hid ha.len
  have ⟨c1, c2⟩ := ha.cap_le
  clear ha hb
  go_enter Try.func13, Try.ntmps13
  go_wp2
  go_loopw [5] (fun u wr => ∃ (i : Nat), u = .int .i64 i ∧ i ≤ len ∧ Below w.heap.size w wr) (fun u _ => len - (intOf u).toNat)
  case atStart => exact ⟨0, rfl, by omega, Below.refl _ _⟩
  case round =>
    obtain ⟨i, rfl, il, hbel⟩ := hrel
    have B := Lib.hid hbel
    clear hbel
    by_cases go : i < len
    · have b1 : decide (i < len) = true := by simp; omega
      have b2 : decide ((i : Int) < (len : Int)) = true := by simp; omega
      obtain ⟨x, hx⟩ := getV (es := es) (i := i) (by rw [LN.out]; exact go)
      obtain ⟨bl, ol, rfl, hat⟩ := HA.out.at hx
      obtain ⟨bo, oo, rfl, hbt⟩ := HB.out.at hx
      have XW := Lib.hid hat
      have YW := Lib.hid hbt
      clear hx hat hbt
      have i1 : (i : Int) < (len : Int) := by omega
      have i2 : 0 ≤ (i : Int) := by omega
      go_upto_region 6 with fail
      have KEPT := Lib.hid (show ∀ w' : World, Below w.heap.size w w' → w'.cell? ⟨bl, ol + i * 3, none⟩ = some (.int .i64 x.d) ∧ w'.cell? ⟨bl, ol + i * 3 + 1, none⟩ = some (.int .i64 x.i) ∧ w'.cell? ⟨bl, ol + i * 3 + 2, none⟩ = some (.int .i64 x.k) ∧ w'.cell? ⟨bo, oo + i * 3, none⟩ = some (.int .i64 x.d) ∧ w'.cell? ⟨bo, oo + i * 3 + 1, none⟩ = some (.int .i64 x.i) ∧ w'.cell? ⟨bo, oo + i * 3 + 2, none⟩ = some (.int .i64 x.k) from fun w' h => ⟨(XW.out.below h).c0, (XW.out.below h).c1, (XW.out.below h).c2, (YW.out.below h).c0, (YW.out.below h).c1, (YW.out.below h).c2⟩)
      have BL := Lib.hid B.out.drew
      go_region_held3 (fun w' => w'.cell? ⟨bl, ol + i * 3, none⟩ = some (.int .i64 x.d) ∧ w'.cell? ⟨bl, ol + i * 3 + 1, none⟩ = some (.int .i64 x.i) ∧ w'.cell? ⟨bl, ol + i * 3 + 2, none⟩ = some (.int .i64 x.k) ∧ w'.cell? ⟨bo, oo + i * 3, none⟩ = some (.int .i64 x.d) ∧ w'.cell? ⟨bo, oo + i * 3 + 1, none⟩ = some (.int .i64 x.i) ∧ w'.cell? ⟨bo, oo + i * 3 + 2, none⟩ = some (.int .i64 x.k))
        (exact KEPT.out _ BL.out)
        (fail)
      all_goals
        go_wp2
        go_roundw
        case rel => exact ⟨i + 1, by go_num, by omega, BL.out⟩
        case measure => simp [intOf]; omega
    · have b1 : decide (i < len) = false := by simp; omega
      have b2 : decide ((i : Int) < (len : Int)) = false := by simp; omega
      go_wp2
      go_ret
      exact ⟨rfl, B.out⟩

end Go.Proofs.Ytfeemdljlikpbaa
