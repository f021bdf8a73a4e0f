/-
  The walk of NatOrder, over rows that came in.
-/
import Derived.Test.YthelebgalihngaaNat15
namespace Go.Proofs.Ythelebgalihngaa
open Go.RowKit

set_option maxHeartbeats 1600000 in
theorem order_core (s0x : Option Addr) (len0 cap0 : Nat) (y0 : List Int) (s1x : Option Addr) (len1 cap1 : Nat) (y1 : List Int) (s2x : Option Addr) (len2 cap2 : Nat) (y2 : List Int) (w : World) (h0 : Row .u32 w s0x len0 cap0 y0) (d0 : Digs 4294967296 y0) (h1 : Row .u32 w s1x len1 cap1 y1) (d1 : Digs 4294967296 y1) (h2 : Row .u32 w s2x len2 cap2 y2) (d2 : Digs 4294967296 y2) :
    Calls Try.prog 8 #[.slice s0x len0 cap0, .slice s1x len1 cap1, .slice s2x len2 cap2] w fun e w' => e = .returned (.bool true) ∧ Below w.heap.size w w' := by
  have Q0 := Lib.hid h0
  have D0 := Lib.hid d0
  clear h0 d0
  have Q1 := Lib.hid h1
  have D1 := Lib.hid d1
  clear h1 d1
  have Q2 := Lib.hid h2
  have D2 := Lib.hid d2
  clear h2 d2
  go_enter Try.func8, Try.ntmps8
  go_wp2_with fail
  refine (awake_any _).mono ?_
  rintro e w1 ⟨rfl, hb⟩
  have H1 := Lib.hid hb
  clear hb
  go_wp2_with fail
  refine (made_is s0x len0 cap0 y0 _ (Q0.out.below H1.out) D0.out).mono ?_
  rintro e w' ⟨la, za, m, h6a, rfl, hr, hi, rfl⟩
  have Ra := Lib.hid hr
  have Ia := Lib.hid hi
  clear hr hi
  go_wp2_with fail
  refine (made_is s1x len1 cap1 y1 _ (Q1.out.below H1.out) D1.out).mono ?_
  rintro e w' ⟨lb, zb, n, h6b, rfl, hr, hi, rfl⟩
  have Rb := Lib.hid hr
  have Ib := Lib.hid hi
  clear hr hi
  go_wp2_with fail
  refine (made_is s2x len2 cap2 y2 _ (Q2.out.below H1.out) D2.out).mono ?_
  rintro e w' ⟨lc, zc, p, h6c, rfl, hr, hi, rfl⟩
  have Rc := Lib.hid hr
  have Ic := Lib.hid hi
  clear hr hi
  obtain ⟨k, hk⟩ : ∃ k, cmpI m n = k := ⟨_, rfl⟩
  have ⟨k1, k2⟩ := cmpI_bd m n
  rw [hk] at k1 k2
  have KZ := Lib.hid (show (k == 0) = true ↔ m = n by rw [beq_iff_eq, ← hk]; exact cmpI_zero)
  have HK := Lib.hid hk
  clear hk
  have ONE := Lib.hid is_one
  have HP := Lib.hid Ic.out
  go_wp2_with fail
  refine (nCmp_is s0x la cap0 za (m) s1x lb cap1 zb (n) _ Ra.out Ia.out Rb.out Ib.out (k) HK.out).mono ?_
  rintro e w2 ⟨rfl, hb⟩
  have H2 := Lib.hid hb
  clear hb
  go_wp2_with fail
  refine (same_is s0x la cap0 za (m) s1x lb cap1 zb (n) _ (k == 0) (Ra.out.below H2.out) Ia.out (Rb.out.below H2.out) Ib.out KZ.out).mono ?_
  rintro e w3 ⟨rfl, hb⟩
  have H3 := Lib.hid hb
  clear hb
  go_wp2_with fail
  refine (nCmp_is s1x lb cap1 zb (n) s0x la cap0 za (m) _ ((Rb.out.below H2.out).below H3.out) Ib.out ((Ra.out.below H2.out).below H3.out) Ia.out (-k) (by rw [cmpI_neg, HK.out])).mono ?_
  rintro e w4 ⟨rfl, hb⟩
  have H4 := Lib.hid hb
  clear hb
  go_wp2_with fail
  refine (nAdd_is 6 s0x la cap0 za (m) s2x lc cap2 zc (p) _ (((Ra.out.below H2.out).below H3.out).below H4.out) Ia.out (((Rc.out.below H2.out).below H3.out).below H4.out) Ic.out (by omega) (by omega) (by omega)).mono ?_
  rintro e w5 ⟨a5, l5, c5, z5, rfl, hr, hi, hl5, hb⟩
  have R5 := Lib.hid hr
  have I5 := Lib.hid hi
  have H5 := Lib.hid hb
  clear hr hi hb
  go_wp2_with fail
  refine (nAdd_is 6 s1x lb cap1 zb (n) s2x lc cap2 zc (p) _ ((((Rb.out.below H2.out).below H3.out).below H4.out).below H5.out) Ib.out ((((Rc.out.below H2.out).below H3.out).below H4.out).below H5.out) Ic.out (by omega) (by omega) (by omega)).mono ?_
  rintro e w6 ⟨a6, l6, c6, z6, rfl, hr, hi, hl6, hb⟩
  have R6 := Lib.hid hr
  have I6 := Lib.hid hi
  have H6 := Lib.hid hb
  clear hr hi hb
  go_wp2_with fail
  refine (nCmp_is a5 l5 c5 z5 (m + p) a6 l6 c6 z6 (n + p) _ (R5.out.below H6.out) I5.out R6.out I6.out (k) (by rw [cmpI_add, HK.out])).mono ?_
  rintro e w7 ⟨rfl, hb⟩
  have H7 := Lib.hid hb
  clear hb
  go_wp2_with fail
  obtain ⟨w8, hw⟩ : ∃ W, w7.alloc (.cells #[.int .u32 1] 23) = W := ⟨_, rfl⟩
  have R8 := Lib.hid (lit_one w7)
  have H8 := Lib.hid (below_lit w7 (.cells #[.int .u32 1] 23))
  rw [hw] at R8 H8 ⊢
  clear hw
  refine (nAdd_is 6 s0x la cap0 za (m) (some ⟨w7.heap.size, 0, none⟩) 1 1 [1] (1) _ (((((((Ra.out.below H2.out).below H3.out).below H4.out).below H5.out).below H6.out).below H7.out).below H8.out) Ia.out R8.out ONE.out (by omega) (by omega) (by omega)).mono ?_
  rintro e w9 ⟨a9, l9, c9, z9, rfl, hr, hi, hl9, hb⟩
  have R9 := Lib.hid hr
  have I9 := Lib.hid hi
  have H9 := Lib.hid hb
  clear hr hi hb
  go_wp2_with fail
  refine (nCmp_is a9 l9 c9 z9 (m + 1) s0x la cap0 za (m) _ R9.out I9.out ((((((((Ra.out.below H2.out).below H3.out).below H4.out).below H5.out).below H6.out).below H7.out).below H8.out).below H9.out) Ia.out (1) (cmpI_gt (by omega))).mono ?_
  rintro e w10 ⟨rfl, hb⟩
  have H10 := Lib.hid hb
  clear hb
  by_cases hc : lc = 0
  · subst hc
    go_wp2
    go_ret
    exact ⟨rfl, (below_next (below_next (below_next (below_next (below_next (below_next (below_next (below_next (below_next H1.out H2.out) H3.out) H4.out) H5.out) H6.out) H7.out) H8.out) H9.out) H10.out)⟩
  · have nc : ((lc : Int) == 0) = false := by simp; omega
    have CP := Lib.hid (Ic.out.pos (by omega) (by rw [Rc.out.len]; omega))
    go_wp2_with fail
    refine (nMul_is 6 6 s0x la cap0 za (m) s2x lc cap2 zc (p) _ (((((((((Ra.out.below H2.out).below H3.out).below H4.out).below H5.out).below H6.out).below H7.out).below H8.out).below H9.out).below H10.out) Ia.out (((((((((Rc.out.below H2.out).below H3.out).below H4.out).below H5.out).below H6.out).below H7.out).below H8.out).below H9.out).below H10.out) Ic.out (by omega) (by omega) (by omega) (by omega)).mono ?_
    rintro e w11 ⟨a11, l11, c11, z11, rfl, hr, hi, hl11, hb⟩
    have R11 := Lib.hid hr
    have I11 := Lib.hid hi
    have H11 := Lib.hid hb
    clear hr hi hb
    go_wp2_with fail
    refine (nMul_is 6 6 s1x lb cap1 zb (n) s2x lc cap2 zc (p) _ ((((((((((Rb.out.below H2.out).below H3.out).below H4.out).below H5.out).below H6.out).below H7.out).below H8.out).below H9.out).below H10.out).below H11.out) Ib.out ((((((((((Rc.out.below H2.out).below H3.out).below H4.out).below H5.out).below H6.out).below H7.out).below H8.out).below H9.out).below H10.out).below H11.out) Ic.out (by omega) (by omega) (by omega) (by omega)).mono ?_
    rintro e w12 ⟨a12, l12, c12, z12, rfl, hr, hi, hl12, hb⟩
    have R12 := Lib.hid hr
    have I12 := Lib.hid hi
    have H12 := Lib.hid hb
    clear hr hi hb
    go_wp2_with fail
    refine (nCmp_is a11 l11 c11 z11 ((m) * (p)) a12 l12 c12 z12 ((n) * (p)) _ (R11.out.below H12.out) I11.out R12.out I12.out (k) (by rw [cmpI_mul _ _ CP.out, HK.out])).mono ?_
    rintro e w13 ⟨rfl, hb⟩
    have H13 := Lib.hid hb
    clear hb
    go_wp2
    go_ret
    exact ⟨rfl, (below_next (below_next (below_next (below_next (below_next (below_next (below_next (below_next (below_next (below_next (below_next (below_next H1.out H2.out) H3.out) H4.out) H5.out) H6.out) H7.out) H8.out) H9.out) H10.out) H11.out) H12.out) H13.out)⟩
end Go.Proofs.Ythelebgalihngaa
