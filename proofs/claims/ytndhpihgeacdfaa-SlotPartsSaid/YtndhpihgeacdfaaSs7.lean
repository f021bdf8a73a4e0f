/-
  Two rows that are the same; the document's Same (regattaref16): contract.
-/
import Derived.Test.YtndhpihgeacdfaaSs6
namespace Go.Proofs.Ytndhpihgeacdfaa
open Go.RowKit

set_option maxRecDepth 20000 in
set_option maxHeartbeats 4000000 in
/-- of two rows that are the same it tells so -/
theorem r16same_yes (a b : Option Addr) (len ca cb : Nat) (l : List Sk) (w : World) (ha : RowK w a len ca l) (hb : RowK w b len cb l) :
    Calls Try.prog 15 #[.slice a len ca, .slice b len cb] w fun e w' => e = .returned (.bool true) ∧ Below w.heap.size w w' := by
  have HA := Lib.hid ha
  have HB := Lib.hid hb
  have LN := Lib.hid ha.len
  have ⟨c1, c2⟩ := ha.cap_le
  clear ha hb
  go_enter Try.func15, Try.ntmps15
  go_wp2
  go_loopw [5] (fun u wr => ∃ (i : Nat), u = .int .i64 i ∧ i ≤ len ∧ Below w.heap.size w wr) (fun u _ => len - (intOf u).toNat)
  case atStart => exact ⟨0, rfl, by omega, Below.refl _ _⟩
  case round =>
    obtain ⟨i, rfl, il, hbel⟩ := hrel
    have B := Lib.hid hbel
    clear hbel
    by_cases go : i < len
    · have b1 : decide (i < len) = true := by simp; omega
      have b2 : decide ((i : Int) < (len : Int)) = true := by simp; omega
      obtain ⟨s, hs, _⟩ := get_of (l := l) (i := i) (by rw [LN.out]; exact go)
      obtain ⟨ba, oa, ax, lo, cx, rfl, x0, x1, hu⟩ := HA.out.at hs
      obtain ⟨bb, ob, ay, lp, cy, rfl, y0, y1, hv⟩ := HB.out.at hs
      have el : lp = lo := by rw [← hu.len, ← hv.len]
      subst el
      have HU := Lib.hid hu
      have HV := Lib.hid hv
      have LU := Lib.hid hu.len
      have ⟨e1, e2⟩ := hu.cap_le
      have K0 := Lib.hid x0; have K1 := Lib.hid x1; have M0 := Lib.hid y0; have M1 := Lib.hid y1
      replace x0 := cell_on B.out x0; replace x1 := cell_on B.out x1; replace y0 := cell_on B.out y0; replace y1 := cell_on B.out y1
      obtain ⟨rs, hrs⟩ : ∃ rs, s.runs = rs := ⟨_, rfl⟩
      obtain ⟨tm, htm⟩ : ∃ tm, s.tm = tm := ⟨_, rfl⟩
      rw [hrs] at HU HV LU
      rw [htm] at x0 y0
      clear hs hu hv hrs htm K0 M0
      have i1 : (i : Int) < (len : Int) := by omega
      have i2 : 0 ≤ (i : Int) := by omega
      have t1 : (tm != tm) = false := by simp
      have t2 : ((lp : Int) != (lp : Int)) = false := by simp
      go_upto_region 6 with fail
      go_quiet (fail)
      go_upto_region 9 with fail
      clear b1 b2 t1 t2 x0 x1 y0 y1
      go_loopw [6] (fun u wx => ∃ (k : Nat), u = .int .i64 k ∧ k ≤ lp ∧ Below w.heap.size w wx) (fun u _ => lp - (intOf u).toNat)
      case atStart => exact ⟨0, rfl, by omega, bdN B.out _⟩
      case round =>
        obtain ⟨k, rfl, kl, hbel⟩ := hrel
        have C := Lib.hid hbel
        clear hbel
        have x1 := cell_on C.out K1.out
        have y1 := cell_on C.out M1.out
        by_cases go2 : k < lp
        · have d1 : decide (k < lp) = true := by simp; omega
          have d2 : decide ((k : Int) < (lp : Int)) = true := by simp; omega
          obtain ⟨r, hr, _⟩ := get_of (l := rs) (i := k) (by rw [LU.out]; exact go2)
          obtain ⟨bu, ou, rfl, hat⟩ := HU.out.at hr
          obtain ⟨bv, ov, rfl, hbt⟩ := HV.out.at hr
          have X := Lib.hid (hat.below C.out)
          have Y := Lib.hid (hbt.below C.out)
          have x2 := X.out.c0; have x3 := X.out.c1; have x4 := X.out.c2
          have y2 := Y.out.c0; have y3 := Y.out.c1; have y4 := Y.out.c2
          have k1 : (k : Int) < (lp : Int) := by omega
          have k2 : 0 ≤ (k : Int) := by omega
          clear hr hat hbt
          go_upto_region 11 with fail
          go_quiet (fail)
          go_wp2
          go_roundw
          case rel => exact ⟨k + 1, by go_num, by omega, bdN C.out _⟩
          case measure => simp [intOf]; omega
        · have d1 : decide (k < lp) = false := by simp; omega
          have d2 : decide ((k : Int) < (lp : Int)) = false := by simp; omega
          go_wp2
          go_roundw
          case rel => exact ⟨i + 1, by go_num, by omega, C.out⟩
          case measure => simp [intOf]; omega
    · have b1 : decide (i < len) = false := by simp; omega
      have b2 : decide ((i : Int) < (len : Int)) = false := by simp; omega
      go_wp2
      go_ret
      exact ⟨rfl, B.out⟩
end Go.Proofs.Ytndhpihgeacdfaa
