/-
  The walk of NatTurns, over rows that came in.
-/
import Derived.Test.YthelebgalihngaaNat15
namespace Go.Proofs.Ythelebgalihngaa
open Go.RowKit

set_option maxHeartbeats 1600000 in
theorem turns_core (s0x : Option Addr) (len0 cap0 : Nat) (y0 : List Int) (s1x : Option Addr) (len1 cap1 : Nat) (y1 : List Int) (s2x : Option Addr) (len2 cap2 : Nat) (y2 : List Int) (w : World) (h0 : Row .u32 w s0x len0 cap0 y0) (d0 : Digs 4294967296 y0) (h1 : Row .u32 w s1x len1 cap1 y1) (d1 : Digs 4294967296 y1) (h2 : Row .u32 w s2x len2 cap2 y2) (d2 : Digs 4294967296 y2) :
    Calls Try.prog 5 #[.slice s0x len0 cap0, .slice s1x len1 cap1, .slice s2x len2 cap2] w fun e w' => e = .returned (.bool true) ∧ Below w.heap.size w w' := by
  have Q0 := Lib.hid h0
  have D0 := Lib.hid d0
  clear h0 d0
  have Q1 := Lib.hid h1
  have D1 := Lib.hid d1
  clear h1 d1
  have Q2 := Lib.hid h2
  have D2 := Lib.hid d2
  clear h2 d2
  go_enter Try.func5, Try.ntmps5
  go_wp2_with fail
  refine (awake_any _).mono ?_
  rintro e w1 ⟨rfl, hb⟩
  have H1 := Lib.hid hb
  clear hb
  go_wp2_with fail
  refine (made_is s0x len0 cap0 y0 _ (Q0.out.below H1.out) D0.out).mono ?_
  rintro e w' ⟨la, za, m, h6a, rfl, hr, hi, rfl⟩
  have Ra := Lib.hid hr
  have Ia := Lib.hid hi
  clear hr hi
  go_wp2_with fail
  refine (made_is s1x len1 cap1 y1 _ (Q1.out.below H1.out) D1.out).mono ?_
  rintro e w' ⟨lb, zb, n, h6b, rfl, hr, hi, rfl⟩
  have Rb := Lib.hid hr
  have Ib := Lib.hid hi
  clear hr hi
  go_wp2_with fail
  refine (made_is s2x len2 cap2 y2 _ (Q2.out.below H1.out) D2.out).mono ?_
  rintro e w' ⟨lc, zc, p, h6c, rfl, hr, hi, rfl⟩
  have Rc := Lib.hid hr
  have Ic := Lib.hid hi
  clear hr hi
  go_wp2_with fail
  refine (nAdd_is 6 s0x la cap0 za (m) s1x lb cap1 zb (n) _ Ra.out Ia.out Rb.out Ib.out (by omega) (by omega) (by omega)).mono ?_
  rintro e w2 ⟨a2, l2, c2, z2, rfl, hr, hi, hl2, hb⟩
  have R2 := Lib.hid hr
  have I2 := Lib.hid hi
  have H2 := Lib.hid hb
  clear hr hi hb
  go_wp2_with fail
  refine (nMul_is 6 6 s0x la cap0 za (m) s1x lb cap1 zb (n) _ (Ra.out.below H2.out) Ia.out (Rb.out.below H2.out) Ib.out (by omega) (by omega) (by omega) (by omega)).mono ?_
  rintro e w3 ⟨a3, l3, c3, z3, rfl, hr, hi, hl3, hb⟩
  have R3 := Lib.hid hr
  have I3 := Lib.hid hi
  have H3 := Lib.hid hb
  clear hr hi hb
  go_wp2_with fail
  refine (nAdd_is 6 s1x lb cap1 zb (n) s0x la cap0 za (m) _ ((Rb.out.below H2.out).below H3.out) Ib.out ((Ra.out.below H2.out).below H3.out) Ia.out (by omega) (by omega) (by omega)).mono ?_
  rintro e w4 ⟨a4, l4, c4, z4, rfl, hr, hi, hl4, hb⟩
  have R4 := Lib.hid hr
  have I4 := Lib.hid hi
  have H4 := Lib.hid hb
  clear hr hi hb
  go_wp2_with fail
  refine (same_yes a2 l2 c2 z2 (m + n) a4 l4 c4 z4 (n + m) _ ((R2.out.below H3.out).below H4.out) I2.out R4.out I4.out (Int.add_comm _ _)).mono ?_
  rintro e w5 ⟨rfl, hb⟩
  have H5 := Lib.hid hb
  clear hb
  go_wp2_with fail
  refine (nMul_is 6 6 s1x lb cap1 zb (n) s0x la cap0 za (m) _ ((((Rb.out.below H2.out).below H3.out).below H4.out).below H5.out) Ib.out ((((Ra.out.below H2.out).below H3.out).below H4.out).below H5.out) Ia.out (by omega) (by omega) (by omega) (by omega)).mono ?_
  rintro e w6 ⟨a6, l6, c6, z6, rfl, hr, hi, hl6, hb⟩
  have R6 := Lib.hid hr
  have I6 := Lib.hid hi
  have H6 := Lib.hid hb
  clear hr hi hb
  go_wp2_with fail
  refine (same_yes a3 l3 c3 z3 ((m) * (n)) a6 l6 c6 z6 ((n) * (m)) _ (((R3.out.below H4.out).below H5.out).below H6.out) I3.out R6.out I6.out (Int.mul_comm _ _)).mono ?_
  rintro e w7 ⟨rfl, hb⟩
  have H7 := Lib.hid hb
  clear hb
  go_wp2_with fail
  refine (nAdd_is 6 s0x la cap0 za (m) s1x lb cap1 zb (n) _ ((((((Ra.out.below H2.out).below H3.out).below H4.out).below H5.out).below H6.out).below H7.out) Ia.out ((((((Rb.out.below H2.out).below H3.out).below H4.out).below H5.out).below H6.out).below H7.out) Ib.out (by omega) (by omega) (by omega)).mono ?_
  rintro e w8 ⟨a8, l8, c8, z8, rfl, hr, hi, hl8, hb⟩
  have R8 := Lib.hid hr
  have I8 := Lib.hid hi
  have H8 := Lib.hid hb
  clear hr hi hb
  go_wp2_with fail
  refine (nMul_is 7 6 a8 l8 c8 z8 (m + n) s2x lc cap2 zc (p) _ R8.out I8.out (((((((Rc.out.below H2.out).below H3.out).below H4.out).below H5.out).below H6.out).below H7.out).below H8.out) Ic.out (by omega) (by omega) (by omega) (by omega)).mono ?_
  rintro e w9 ⟨a9, l9, c9, z9, rfl, hr, hi, hl9, hb⟩
  have R9 := Lib.hid hr
  have I9 := Lib.hid hi
  have H9 := Lib.hid hb
  clear hr hi hb
  go_wp2_with fail
  refine (nMul_is 6 6 s0x la cap0 za (m) s2x lc cap2 zc (p) _ ((((((((Ra.out.below H2.out).below H3.out).below H4.out).below H5.out).below H6.out).below H7.out).below H8.out).below H9.out) Ia.out ((((((((Rc.out.below H2.out).below H3.out).below H4.out).below H5.out).below H6.out).below H7.out).below H8.out).below H9.out) Ic.out (by omega) (by omega) (by omega) (by omega)).mono ?_
  rintro e w10 ⟨a10, l10, c10, z10, rfl, hr, hi, hl10, hb⟩
  have R10 := Lib.hid hr
  have I10 := Lib.hid hi
  have H10 := Lib.hid hb
  clear hr hi hb
  go_wp2_with fail
  refine (nMul_is 6 6 s1x lb cap1 zb (n) s2x lc cap2 zc (p) _ (((((((((Rb.out.below H2.out).below H3.out).below H4.out).below H5.out).below H6.out).below H7.out).below H8.out).below H9.out).below H10.out) Ib.out (((((((((Rc.out.below H2.out).below H3.out).below H4.out).below H5.out).below H6.out).below H7.out).below H8.out).below H9.out).below H10.out) Ic.out (by omega) (by omega) (by omega) (by omega)).mono ?_
  rintro e w11 ⟨a11, l11, c11, z11, rfl, hr, hi, hl11, hb⟩
  have R11 := Lib.hid hr
  have I11 := Lib.hid hi
  have H11 := Lib.hid hb
  clear hr hi hb
  go_wp2_with fail
  refine (nAdd_is 12 a10 l10 c10 z10 ((m) * (p)) a11 l11 c11 z11 ((n) * (p)) _ (R10.out.below H11.out) I10.out R11.out I11.out (by omega) (by omega) (by omega)).mono ?_
  rintro e w12 ⟨a12, l12, c12, z12, rfl, hr, hi, hl12, hb⟩
  have R12 := Lib.hid hr
  have I12 := Lib.hid hi
  have H12 := Lib.hid hb
  clear hr hi hb
  go_wp2_with fail
  refine (same_yes a9 l9 c9 z9 ((m + n) * (p)) a12 l12 c12 z12 ((m) * (p) + (n) * (p)) _ (((R9.out.below H10.out).below H11.out).below H12.out) I9.out R12.out I12.out (Int.add_mul _ _ _)).mono ?_
  rintro e w13 ⟨rfl, hb⟩
  have H13 := Lib.hid hb
  clear hb
  go_wp2_with fail
  refine (nMul_is 12 6 a3 l3 c3 z3 ((m) * (n)) s2x lc cap2 zc (p) _ ((((((((((R3.out.below H4.out).below H5.out).below H6.out).below H7.out).below H8.out).below H9.out).below H10.out).below H11.out).below H12.out).below H13.out) I3.out ((((((((((((Rc.out.below H2.out).below H3.out).below H4.out).below H5.out).below H6.out).below H7.out).below H8.out).below H9.out).below H10.out).below H11.out).below H12.out).below H13.out) Ic.out (by omega) (by omega) (by omega) (by omega)).mono ?_
  rintro e w14 ⟨a14, l14, c14, z14, rfl, hr, hi, hl14, hb⟩
  have R14 := Lib.hid hr
  have I14 := Lib.hid hi
  have H14 := Lib.hid hb
  clear hr hi hb
  go_wp2_with fail
  refine (nMul_is 6 6 s1x lb cap1 zb (n) s2x lc cap2 zc (p) _ (((((((((((((Rb.out.below H2.out).below H3.out).below H4.out).below H5.out).below H6.out).below H7.out).below H8.out).below H9.out).below H10.out).below H11.out).below H12.out).below H13.out).below H14.out) Ib.out (((((((((((((Rc.out.below H2.out).below H3.out).below H4.out).below H5.out).below H6.out).below H7.out).below H8.out).below H9.out).below H10.out).below H11.out).below H12.out).below H13.out).below H14.out) Ic.out (by omega) (by omega) (by omega) (by omega)).mono ?_
  rintro e w15 ⟨a15, l15, c15, z15, rfl, hr, hi, hl15, hb⟩
  have R15 := Lib.hid hr
  have I15 := Lib.hid hi
  have H15 := Lib.hid hb
  clear hr hi hb
  go_wp2_with fail
  refine (nMul_is 6 12 s0x la cap0 za (m) a15 l15 c15 z15 ((n) * (p)) _ ((((((((((((((Ra.out.below H2.out).below H3.out).below H4.out).below H5.out).below H6.out).below H7.out).below H8.out).below H9.out).below H10.out).below H11.out).below H12.out).below H13.out).below H14.out).below H15.out) Ia.out R15.out I15.out (by omega) (by omega) (by omega) (by omega)).mono ?_
  rintro e w16 ⟨a16, l16, c16, z16, rfl, hr, hi, hl16, hb⟩
  have R16 := Lib.hid hr
  have I16 := Lib.hid hi
  have H16 := Lib.hid hb
  clear hr hi hb
  go_wp2_with fail
  refine (same_yes a14 l14 c14 z14 (((m) * (n)) * (p)) a16 l16 c16 z16 ((m) * ((n) * (p))) _ ((R14.out.below H15.out).below H16.out) I14.out R16.out I16.out (Int.mul_assoc _ _ _)).mono ?_
  rintro e w17 ⟨rfl, hb⟩
  have H17 := Lib.hid hb
  clear hb
  go_wp2_with fail
  refine (nCheck_yes a2 l2 c2 z2 (m + n) _ (((((((((((((((R2.out.below H3.out).below H4.out).below H5.out).below H6.out).below H7.out).below H8.out).below H9.out).below H10.out).below H11.out).below H12.out).below H13.out).below H14.out).below H15.out).below H16.out).below H17.out) I2.out).mono ?_
  rintro e w' ⟨rfl, rfl⟩
  go_wp2_with fail
  refine (nCheck_yes a3 l3 c3 z3 ((m) * (n)) _ ((((((((((((((R3.out.below H4.out).below H5.out).below H6.out).below H7.out).below H8.out).below H9.out).below H10.out).below H11.out).below H12.out).below H13.out).below H14.out).below H15.out).below H16.out).below H17.out) I3.out).mono ?_
  rintro e w' ⟨rfl, rfl⟩
  go_wp2
  go_ret
  exact ⟨rfl, (below_next (below_next (below_next (below_next (below_next (below_next (below_next (below_next (below_next (below_next (below_next (below_next (below_next (below_next (below_next (below_next H1.out H2.out) H3.out) H4.out) H5.out) H6.out) H7.out) H8.out) H9.out) H10.out) H11.out) H12.out) H13.out) H14.out) H15.out) H16.out) H17.out)⟩
end Go.Proofs.Ythelebgalihngaa
