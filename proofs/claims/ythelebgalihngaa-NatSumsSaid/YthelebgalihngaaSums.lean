/-
  The walk of NatSums, over rows that came in.
-/
import Derived.Test.YthelebgalihngaaNat16
namespace Go.Proofs.Ythelebgalihngaa
open Go.RowKit

set_option maxHeartbeats 1600000 in
theorem sums_core (s0x : Option Addr) (len0 cap0 : Nat) (y0 : List Int) (s1x : Option Addr) (len1 cap1 : Nat) (y1 : List Int) (d : Int) (w : World) (h0 : Row .u32 w s0x len0 cap0 y0) (d0 : Digs 4294967296 y0) (h1 : Row .u32 w s1x len1 cap1 y1) (d1 : Digs 4294967296 y1) (e0 : 0 ≤ d) (e1 : d < 4294967296) :
    Calls Try.prog 3 #[.slice s0x len0 cap0, .slice s1x len1 cap1, .int .u32 d] w fun e w' => e = .returned (.bool true) ∧ Below w.heap.size w w' := by
  have Q0 := Lib.hid h0
  have D0 := Lib.hid d0
  clear h0 d0
  have Q1 := Lib.hid h1
  have D1 := Lib.hid d1
  clear h1 d1
  go_enter Try.func3, Try.ntmps3
  go_wp2_with fail
  refine (awake_any _).mono ?_
  rintro e w1 ⟨rfl, hb⟩
  have H1 := Lib.hid hb
  clear hb
  go_wp2_with fail
  refine (made_is s0x len0 cap0 y0 _ (Q0.out.below H1.out) D0.out).mono ?_
  rintro e w' ⟨la, za, m, h6a, rfl, hr, hi, rfl⟩
  have Ra := Lib.hid hr
  have Ia := Lib.hid hi
  clear hr hi
  go_wp2_with fail
  refine (made_is s1x len1 cap1 y1 _ (Q1.out.below H1.out) D1.out).mono ?_
  rintro e w' ⟨lb, zb, n, h6b, rfl, hr, hi, rfl⟩
  have Rb := Lib.hid hr
  have Ib := Lib.hid hi
  clear hr hi
  obtain ⟨t, er, hs⟩ := subs_ex m n
  have HS := Lib.hid hs
  clear hs
  obtain ⟨q, r, ed, hd⟩ := divs_ex m e0
  have HD := Lib.hid hd
  clear hd
  obtain ⟨k, hk⟩ : ∃ k, cmpI m n = k := ⟨_, rfl⟩
  have HK := Lib.hid hk
  clear hk
  go_wp2_with fail
  refine (nSub_is s0x la cap0 za (m) s1x lb cap1 zb (n) _ Ra.out Ia.out Rb.out Ib.out (by omega) t er HS.out).mono ?_
  rintro e w2 ⟨a2, l2, c2, z2, rfl, hr, hi, hb⟩
  have R2 := Lib.hid hr
  have I2 := Lib.hid hi
  have H2 := Lib.hid hb
  clear hr hi hb
  go_wp2_with fail
  refine (Sub_is s0x la cap0 za (m) s1x lb cap1 zb (n) _ (Ra.out.below H2.out) Ia.out (Rb.out.below H2.out) Ib.out (by omega) (by omega) t er HS.out).mono ?_
  rintro e w3 ⟨a3, l3, c3, z3, rfl, hr, hi, hb⟩
  have R3 := Lib.hid hr
  have I3 := Lib.hid hi
  have H3 := Lib.hid hb
  clear hr hi hb
  go_wp2_with fail
  refine (nDiv_is s0x la cap0 za (m) d _ ((Ra.out.below H2.out).below H3.out) Ia.out (by omega) e1 q r ed HD.out).mono ?_
  rintro e w4 ⟨a4, l4, c4, z4, rfl, hr, hi, hb⟩
  have R4 := Lib.hid hr
  have I4 := Lib.hid hi
  have H4 := Lib.hid hb
  clear hr hi hb
  go_wp2_with fail
  refine (Div_is s0x la cap0 za (m) d _ (((Ra.out.below H2.out).below H3.out).below H4.out) Ia.out (by omega) e1 q r ed HD.out).mono ?_
  rintro e w5 ⟨a5, l5, c5, z5, rfl, hr, hi, hb, _⟩
  have R5 := Lib.hid hr
  have I5 := Lib.hid hi
  have H5 := Lib.hid hb
  clear hr hi hb
  go_wp2_with fail
  obtain ⟨w6, hw⟩ : ∃ W, w5.alloc (.cells #[.slice a5 l5 c5, .int .u32 r, .int .i64 ed] 32) = W := ⟨_, rfl⟩
  have H6 := Lib.hid (below_lit w5 (.cells #[.slice a5 l5 c5, .int .u32 r, .int .i64 ed] 32))
  have LT := Lib.hid (show w5.heap.size < (w5.alloc (.cells #[.slice a5 l5 c5, .int .u32 r, .int .i64 ed] 32)).heap.size by simp)
  have F0 := Lib.hid (show (w5.alloc (.cells #[.slice a5 l5 c5, .int .u32 r, .int .i64 ed] 32)).cell? ⟨w5.heap.size, 0, none⟩ = some (.slice a5 l5 c5) from World.cell?_alloc_at _ _ _ _ rfl)
  have F1 := Lib.hid (show (w5.alloc (.cells #[.slice a5 l5 c5, .int .u32 r, .int .i64 ed] 32)).cell? ⟨w5.heap.size, 1, none⟩ = some (.int .u32 r) from World.cell?_alloc_at _ _ _ _ rfl)
  have F2 := Lib.hid (show (w5.alloc (.cells #[.slice a5 l5 c5, .int .u32 r, .int .i64 ed] 32)).cell? ⟨w5.heap.size, 2, none⟩ = some (.int .i64 ed) from World.cell?_alloc_at _ _ _ _ rfl)
  rw [hw] at H6 LT F0 F1 F2 ⊢
  clear hw
  refine (nAdd_is 6 s0x la cap0 za (m) s1x lb cap1 zb (n) _ (((((Ra.out.below H2.out).below H3.out).below H4.out).below H5.out).below H6.out) Ia.out (((((Rb.out.below H2.out).below H3.out).below H4.out).below H5.out).below H6.out) Ib.out (by omega) (by omega) (by omega)).mono ?_
  rintro e w7 ⟨a7, l7, c7, z7, rfl, hr, hi, hl7, hb⟩
  have R7 := Lib.hid hr
  have I7 := Lib.hid hi
  have H7 := Lib.hid hb
  clear hr hi hb
  go_wp2_with fail
  refine (Add_is s0x la cap0 za (m) s1x lb cap1 zb (n) _ ((((((Ra.out.below H2.out).below H3.out).below H4.out).below H5.out).below H6.out).below H7.out) Ia.out ((((((Rb.out.below H2.out).below H3.out).below H4.out).below H5.out).below H6.out).below H7.out) Ib.out (by omega) (by omega)).mono ?_
  rintro e w8 ⟨a8, l8, c8, z8, rfl, hr, hi, hl8, hb⟩
  have R8 := Lib.hid hr
  have I8 := Lib.hid hi
  have H8 := Lib.hid hb
  clear hr hi hb
  go_wp2_with fail
  refine (same_yes a7 l7 c7 z7 (m + n) a8 l8 c8 z8 (m + n) _ (R7.out.below H8.out) I7.out R8.out I8.out rfl).mono ?_
  rintro e w9 ⟨rfl, hb⟩
  have H9 := Lib.hid hb
  clear hb
  go_wp2_with fail
  refine (nMul_is 6 6 s0x la cap0 za (m) s1x lb cap1 zb (n) _ ((((((((Ra.out.below H2.out).below H3.out).below H4.out).below H5.out).below H6.out).below H7.out).below H8.out).below H9.out) Ia.out ((((((((Rb.out.below H2.out).below H3.out).below H4.out).below H5.out).below H6.out).below H7.out).below H8.out).below H9.out) Ib.out (by omega) (by omega) (by omega) (by omega)).mono ?_
  rintro e w10 ⟨a10, l10, c10, z10, rfl, hr, hi, hl10, hb⟩
  have R10 := Lib.hid hr
  have I10 := Lib.hid hi
  have H10 := Lib.hid hb
  clear hr hi hb
  go_wp2_with fail
  refine (Mul_is s0x la cap0 za (m) s1x lb cap1 zb (n) _ (((((((((Ra.out.below H2.out).below H3.out).below H4.out).below H5.out).below H6.out).below H7.out).below H8.out).below H9.out).below H10.out) Ia.out (((((((((Rb.out.below H2.out).below H3.out).below H4.out).below H5.out).below H6.out).below H7.out).below H8.out).below H9.out).below H10.out) Ib.out (by omega) (by omega)).mono ?_
  rintro e w11 ⟨a11, l11, c11, z11, rfl, hr, hi, hl11, hb⟩
  have R11 := Lib.hid hr
  have I11 := Lib.hid hi
  have H11 := Lib.hid hb
  clear hr hi hb
  go_wp2_with fail
  refine (same_yes a10 l10 c10 z10 ((m) * (n)) a11 l11 c11 z11 (m * n) _ (R10.out.below H11.out) I10.out R11.out I11.out rfl).mono ?_
  rintro e w12 ⟨rfl, hb⟩
  have H12 := Lib.hid hb
  clear hb
  go_wp2_with fail
  refine (same_yes a2 l2 c2 z2 (t) a3 l3 c3 z3 (t) _ ((((((((((R2.out.below H3.out).below H4.out).below H5.out).below H6.out).below H7.out).below H8.out).below H9.out).below H10.out).below H11.out).below H12.out) I2.out (((((((((R3.out.below H4.out).below H5.out).below H6.out).below H7.out).below H8.out).below H9.out).below H10.out).below H11.out).below H12.out) I3.out rfl).mono ?_
  rintro e w13 ⟨rfl, hb⟩
  have H13 := Lib.hid hb
  clear hb
  have g0 := ((below_next (below_next (below_next (below_next (below_next (below_next (below_next (Below.refl w6.heap.size w6) H7.out) H8.out) H9.out) H10.out) H11.out) H12.out) H13.out).cell (p := ⟨w5.heap.size, 0, none⟩) LT.out).trans F0.out
  go_wp2_with fail
  refine (same_yes a4 l4 c4 z4 (q) a5 l5 c5 z5 (q) _ (((((((((R4.out.below H5.out).below H6.out).below H7.out).below H8.out).below H9.out).below H10.out).below H11.out).below H12.out).below H13.out) I4.out ((((((((R5.out.below H6.out).below H7.out).below H8.out).below H9.out).below H10.out).below H11.out).below H12.out).below H13.out) I5.out rfl).mono ?_
  rintro e w14 ⟨rfl, hb⟩
  have H14 := Lib.hid hb
  clear hb
  clear g0
  have g1 := ((below_next (below_next (below_next (below_next (below_next (below_next (below_next (below_next (Below.refl w6.heap.size w6) H7.out) H8.out) H9.out) H10.out) H11.out) H12.out) H13.out) H14.out).cell (p := ⟨w5.heap.size, 1, none⟩) LT.out).trans F1.out
  have g2 := ((below_next (below_next (below_next (below_next (below_next (below_next (below_next (below_next (Below.refl w6.heap.size w6) H7.out) H8.out) H9.out) H10.out) H11.out) H12.out) H13.out) H14.out).cell (p := ⟨w5.heap.size, 2, none⟩) LT.out).trans F2.out
  go_wp2_with fail
  refine (nCmp_is s0x la cap0 za (m) s1x lb cap1 zb (n) _ (((((((((((((Ra.out.below H2.out).below H3.out).below H4.out).below H5.out).below H6.out).below H7.out).below H8.out).below H9.out).below H10.out).below H11.out).below H12.out).below H13.out).below H14.out) Ia.out (((((((((((((Rb.out.below H2.out).below H3.out).below H4.out).below H5.out).below H6.out).below H7.out).below H8.out).below H9.out).below H10.out).below H11.out).below H12.out).below H13.out).below H14.out) Ib.out (k) HK.out).mono ?_
  rintro e w15 ⟨rfl, hb⟩
  have H15 := Lib.hid hb
  clear hb
  clear g1 g2
  go_wp2_with fail
  refine (Cmp_any s0x la cap0 za (m) s1x lb cap1 zb (n) _ ((((((((((((((Ra.out.below H2.out).below H3.out).below H4.out).below H5.out).below H6.out).below H7.out).below H8.out).below H9.out).below H10.out).below H11.out).below H12.out).below H13.out).below H14.out).below H15.out) Ia.out ((((((((((((((Rb.out.below H2.out).below H3.out).below H4.out).below H5.out).below H6.out).below H7.out).below H8.out).below H9.out).below H10.out).below H11.out).below H12.out).below H13.out).below H14.out).below H15.out) Ib.out (by omega) (by omega)).mono ?_
  rintro e w16 ⟨rfl, hb⟩
  rw [HK.out]
  have H16 := Lib.hid hb
  clear hb
  go_wp2
  go_ret
  exact ⟨rfl, (below_next (below_next (below_next (below_next (below_next (below_next (below_next (below_next (below_next (below_next (below_next (below_next (below_next (below_next (below_next H1.out H2.out) H3.out) H4.out) H5.out) H6.out) H7.out) H8.out) H9.out) H10.out) H11.out) H12.out) H13.out) H14.out) H15.out) H16.out)⟩
end Go.Proofs.Ythelebgalihngaa
