/-
  What the document's numbers give back: Text, Parse: contracts.
-/
import Derived.Test.YtenibpnifnlfeaaNatRef7
import Derived.Laws.IdiomStrings
namespace Go.Proofs.Ytenibpnifnlfeaa
open Go.RowKit

/-- the digits of a row, the highest first, as bytes -/
def digB (d : Int) : UInt8 := UInt8.ofNat (48 + d).toNat
def textL (zs : List Int) : List UInt8 := if zs = [] then [48] else zs.reverse.map digB

theorem digB_toNat {x : Int} (h0 : 0 ≤ x) (h1 : x < 10) : ((digB x).toNat : Int) = 48 + x := by
  unfold digB
  rw [UInt8.toNat_ofNat']
  omega
theorem conv_digit {w : World} {x : Int} (src e dst : TypeId) (h0 : 0 ≤ x) (h1 : x < 10) (hs : Try.prog.underlying src = some (.slice e)) (he : Try.prog.underlying e = some (.int .u8)) (hd : Try.prog.underlying dst = some .string) :
    (convert src dst (.slice (some ⟨w.heap.size, 0, none⟩) 1 1)).run Try.prog (w.alloc (.cells #[.int .u8 (48 + x)] e)) = .ok (.string ⟨[digB x].toArray⟩) (w.alloc (.cells #[.int .u8 (48 + x)] e)) := by
  refine run_convert_bytes_back (P := Try.prog) _ src dst e ⟨w.heap.size, 0, none⟩ 1 [digB x] hs he hd (fun j hj => ?_)
  match j, hj with
  | 0, _ => simp [Addr.add, digB_toNat h0 h1]

theorem text_snoc {zs : List Int} {i : Nat} {x : Int} (h : i < zs.length) (hx : zs.getD i 0 = x) :
    (⟨((zs.drop (i + 1)).reverse.map digB).toArray⟩ : ByteArray) ++ ⟨[digB x].toArray⟩ = ⟨((zs.drop i).reverse.map digB).toArray⟩ := by
  apply ByteArray.ext
  rw [drop_at h, hx]
  simp [ByteArray.data_append]

theorem Text_any (a : Option Addr) (la ca : Nat) (za : List Int) (m : Int) (ds : List Int) (w : World)
    (ha : Row .u32 w a la ca za) (ia : Is 4294967296 za m) (la5 : la ≤ 50) (id : Is 10 ds m) :
    Calls Try.prog 23 #[.slice a la ca] w fun e w' => e = .returned (.string ⟨(textL ds).toArray⟩) ∧ Below w.heap.size w w' := by
  have HA := Lib.hid ha
  have IA := Lib.hid ia
  have ID := Lib.hid id
  have VA := Lib.hid (lim_lt ia (by rw [ha.len]; exact la5))
  clear ha ia id
  go_enter Try.func23, Try.ntmps23
  go_wp2_with fail
  refine (from_any _ _ _ za _ HA.out IA.out.1 (by omega)).mono ?_
  rintro e w1 ⟨a1, l1, k1, z1, rfl, hr1, hi1, hb1, _⟩
  rw [IA.out.2.2] at hi1
  obtain rfl : z1 = ds := is_unique (by omega) hi1 ID.out
  have HL1 := Lib.hid (dig_len hi1 VA.out.2); rw [hr1.len] at HL1
  have l5 : l1 ≤ 500 := HL1.out
  have HR1 := Lib.hid hr1; have HB1 := Lib.hid hb1
  clear hr1 hi1 hb1
  by_cases h0 : l1 = 0
  · subst h0
    have e0 := Lib.hid (List.length_eq_zero_iff.mp HR1.out.len)
    go_wp2
    go_ret
    exact ⟨by rw [e0.out]; rfl, HB1.out⟩
  · have n0 : ((l1 : Int) == 0) = false := by simp; omega
    go_wp2
    go_loopw [4, 5] (fun s i wr => ∃ (c : Int) (j : Nat), i = .int .i64 c ∧ c = j - 1 ∧ j ≤ l1 ∧ s = .string ⟨((z1.drop j).reverse.map digB).toArray⟩ ∧ Below w1.heap.size w1 wr) (fun _ i _ => (intOf i + 1).toNat)
    case atStart => exact ⟨_, l1, rfl, rfl, Nat.le_refl _, by rw [List.drop_eq_nil_of_le (by rw [HR1.out.len]; omega)]; rfl, Below.refl _ _⟩
    case round =>
      obtain ⟨c, j, rfl, hcj, hj, rfl, hbel⟩ := hrel
      have HW := Lib.hid hbel
      clear hbel
      cases j with
      | zero =>
        obtain rfl : c = -1 := by omega
        clear hcj
        have et := Lib.hid (show textL z1 = z1.reverse.map digB from if_neg (fun e => h0 (by rw [← HR1.out.len, e]; rfl)))
        go_wp2
        go_ret
        exact ⟨by rw [et.out]; rfl, below_next HB1.out HW.out⟩
      | succ i =>
        obtain rfl : c = (i : Int) := by omega
        clear hcj
        obtain ⟨ba, oa, rfl, hca⟩ := (HR1.out.below HW.out).cell (show i < l1 by omega)
        obtain ⟨x1, x2⟩ := ID.out.1.getD (by omega) i
        obtain ⟨x, hx⟩ : ∃ x, z1.getD i 0 = x := ⟨_, rfl⟩
        rw [hx] at hca x1 x2
        have HX := Lib.hid hx
        clear hx
        obtain ⟨S, hS⟩ : ∃ S : ByteArray, (⟨((z1.drop (i + 1)).reverse.map digB).toArray⟩ : ByteArray) = S := ⟨_, rfl⟩
        obtain ⟨D, hD⟩ : ∃ D : ByteArray, (⟨[digB x].toArray⟩ : ByteArray) = D := ⟨_, rfl⟩
        have hcv := conv_digit (w := wr) (x := x) 72 5 9 x1 x2 Try.underlying72 Try.underlying5 Try.underlying9
        rw [hD] at hcv
        have s1 : S.size ≤ 500 := by
          rw [← hS]
          show (((z1.drop (i + 1)).reverse.map digB).toArray).size ≤ 500
          have := HR1.out.len
          simp; omega
        have s2 : D.size ≤ 1 := by rw [← hD]; exact Nat.le_refl _
        have HT := Lib.hid (show S ++ D = ⟨((z1.drop i).reverse.map digB).toArray⟩ by rw [← hS, ← hD]; exact text_snoc (by rw [HR1.out.len]; omega) HX.out)
        rw [hS]
        clear hS hD
        go_wp2
        go_roundw
        case rel => exact ⟨_, i, rfl, rfl, by omega, by rw [HT.out], HW.out.alloc HW.out.size _⟩
        case measure => simp [intOf] <;> omega
end Go.Proofs.Ytenibpnifnlfeaa
