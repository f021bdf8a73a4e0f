/-
  The walk of NatBack, over rows that came in.
-/
import Derived.Test.YthelebgalihngaaNat17
namespace Go.Proofs.Ythelebgalihngaa
open Go.RowKit

theorem divs_back {m d r : Int} (hd : 0 < d) (r0 : 0 ≤ r) (r1 : r < d) : (m * d + r) / d = m := by
  rw [Int.add_comm, Int.add_mul_ediv_right _ _ (by omega), Int.ediv_eq_zero_of_lt r0 r1, Int.zero_add]
theorem rem_back {m d r : Int} (r0 : 0 ≤ r) (r1 : r < d) : (m * d + r) % d = r := by
  rw [Int.add_comm, Int.add_mul_emod_self_right, Int.emod_eq_of_lt r0 r1]
set_option maxHeartbeats 1600000 in
theorem back_core (s0x : Option Addr) (len0 cap0 : Nat) (y0 : List Int) (s1x : Option Addr) (len1 cap1 : Nat) (y1 : List Int) (xx yy : Int) (w : World) (h0 : Row .u32 w s0x len0 cap0 y0) (d0 : Digs 4294967296 y0) (h1 : Row .u32 w s1x len1 cap1 y1) (d1 : Digs 4294967296 y1) (x0 : 0 ≤ xx) (x1 : xx < 4294967296) (yy0 : 0 ≤ yy) (yy1 : yy < 4294967296) :
    Calls Try.prog 6 #[.slice s0x len0 cap0, .slice s1x len1 cap1, .agg #[.int .u32 xx, .int .u32 yy]] w fun e w' => e = .returned (.bool true) ∧ Below w.heap.size w w' := by
  have Q0 := Lib.hid h0
  have D0 := Lib.hid d0
  clear h0 d0
  have Q1 := Lib.hid h1
  have D1 := Lib.hid d1
  clear h1 d1
  by_cases hx : xx = 0
  · subst hx
    go_enter Try.func6, Try.ntmps6
    go_wp2_with fail
    obtain ⟨w1, hw⟩ : ∃ W, w.alloc (.cells #[.int .u32 0, .int .u32 yy] 45) = W := ⟨_, rfl⟩
    have H1 := Lib.hid (below_lit w (.cells #[.int .u32 0, .int .u32 yy] 45))
    have LT := Lib.hid (show w.heap.size < (w.alloc (.cells #[.int .u32 0, .int .u32 yy] 45)).heap.size by simp)
    have F0 := Lib.hid (show (w.alloc (.cells #[.int .u32 0, .int .u32 yy] 45)).cell? ⟨w.heap.size, 0, none⟩ = some (.int .u32 0) from World.cell?_alloc_at _ _ _ _ rfl)
    have F1 := Lib.hid (show (w.alloc (.cells #[.int .u32 0, .int .u32 yy] 45)).cell? ⟨w.heap.size, 1, none⟩ = some (.int .u32 yy) from World.cell?_alloc_at _ _ _ _ rfl)
    rw [hw] at H1 LT F0 F1 ⊢
    clear hw
    refine (awake_any _).mono ?_
    rintro e w2 ⟨rfl, hb⟩
    have H2 := Lib.hid hb
    clear hb
    go_wp2_with fail
    refine (made_is s0x len0 cap0 y0 _ ((Q0.out.below H1.out).below H2.out) D0.out).mono ?_
    rintro e w' ⟨la, za, m, h6a, rfl, hr, hi, rfl⟩
    have Ra := Lib.hid hr
    have Ia := Lib.hid hi
    clear hr hi
    go_wp2_with fail
    refine (made_is s1x len1 cap1 y1 _ ((Q1.out.below H1.out).below H2.out) D1.out).mono ?_
    rintro e w' ⟨lb, zb, n, h6b, rfl, hr, hi, rfl⟩
    have Rb := Lib.hid hr
    have Ib := Lib.hid hi
    clear hr hi
    have ONE := Lib.hid is_one
    have M0 := Lib.hid (Ia.out.nonneg (by omega))
    go_wp2_with fail
    refine (nAdd_is 6 s0x la cap0 za (m) s1x lb cap1 zb (n) _ Ra.out Ia.out Rb.out Ib.out (by omega) (by omega) (by omega)).mono ?_
    rintro e w3 ⟨a3, l3, c3, z3, rfl, hr, hi, hl3, hb⟩
    have R3 := Lib.hid hr
    have I3 := Lib.hid hi
    have H3 := Lib.hid hb
    clear hr hi hb
    go_wp2_with fail
    refine (nSub_is a3 l3 c3 z3 (m + n) s1x lb cap1 zb (n) _ R3.out I3.out (Rb.out.below H3.out) Ib.out (by omega) m 0 (.inr ⟨by have := M0.out; omega, by omega, rfl⟩)).mono ?_
    rintro e w4 ⟨a4, l4, c4, z4, rfl, hr, hi, hb⟩
    have R4 := Lib.hid hr
    have I4 := Lib.hid hi
    have H4 := Lib.hid hb
    clear hr hi hb
    go_wp2_with fail
    refine (same_yes a4 l4 c4 z4 (m) s0x la cap0 za (m) _ R4.out I4.out ((Ra.out.below H3.out).below H4.out) Ia.out rfl).mono ?_
    rintro e w5 ⟨rfl, hb⟩
    have H5 := Lib.hid hb
    clear hb
    have g0 := ((below_next (below_next (below_next (below_next (Below.refl w1.heap.size w1) H2.out) H3.out) H4.out) H5.out).cell (p := ⟨w.heap.size, 0, none⟩) LT.out).trans F0.out
    have g1 := ((below_next (below_next (below_next (below_next (Below.refl w1.heap.size w1) H2.out) H3.out) H4.out) H5.out).cell (p := ⟨w.heap.size, 1, none⟩) LT.out).trans F1.out
    go_wp2_with fail
    refine (nOf_is 1 _ (by omega) (by omega)).mono ?_
    rintro e w6 ⟨a6, l6, c6, z6, rfl, hr, hi, hl6, hb⟩
    have R6 := Lib.hid hr
    have I6 := Lib.hid hi
    have H6 := Lib.hid hb
    clear hr hi hb
    clear g0 g1
    go_wp2_with fail
    refine (nMul_is 6 2 s0x la cap0 za (m) a6 l6 c6 z6 (1) _ ((((Ra.out.below H3.out).below H4.out).below H5.out).below H6.out) Ia.out R6.out I6.out (by omega) (by omega) (by omega) (by omega)).mono ?_
    rintro e w7 ⟨a7, l7, c7, z7, rfl, hr, hi, hl7, hb⟩
    have R7 := Lib.hid hr
    have I7 := Lib.hid hi
    have H7 := Lib.hid hb
    clear hr hi hb
    go_wp2_with fail
    refine (nOf_is 0 _ (by omega) (by omega)).mono ?_
    rintro e w8 ⟨a8, l8, c8, z8, rfl, hr, hi, hl8, hb⟩
    have R8 := Lib.hid hr
    have I8 := Lib.hid hi
    have H8 := Lib.hid hb
    clear hr hi hb
    go_wp2_with fail
    refine (nAdd_is 8 a7 l7 c7 z7 ((m) * (1)) a8 l8 c8 z8 (0) _ (R7.out.below H8.out) I7.out R8.out I8.out (by omega) (by omega) (by omega)).mono ?_
    rintro e w9 ⟨a9, l9, c9, z9, rfl, hr, hi, hl9, hb⟩
    have R9 := Lib.hid hr
    have I9 := Lib.hid hi
    have H9 := Lib.hid hb
    clear hr hi hb
    have DV := Lib.hid (show Divs ((m) * (1) + 0) (1) m 0 0 from .inr ⟨by omega, (divs_back (by omega) (by omega) (by omega)).symm, (rem_back (by omega) (by omega)).symm, rfl⟩)
    go_wp2_with fail
    refine (nDiv_is a9 l9 c9 z9 ((m) * (1) + 0) 1 _ R9.out I9.out (by omega) (by omega) m 0 0 DV.out).mono ?_
    rintro e w10 ⟨a10, l10, c10, z10, rfl, hr, hi, hb⟩
    have R10 := Lib.hid hr
    have I10 := Lib.hid hi
    have H10 := Lib.hid hb
    clear hr hi hb
    go_wp2_with fail
    refine (same_yes a10 l10 c10 z10 (m) s0x la cap0 za (m) _ R10.out I10.out ((((((((Ra.out.below H3.out).below H4.out).below H5.out).below H6.out).below H7.out).below H8.out).below H9.out).below H10.out) Ia.out rfl).mono ?_
    rintro e w11 ⟨rfl, hb⟩
    have H11 := Lib.hid hb
    clear hb
    go_wp2_with fail
    obtain ⟨w12, hw⟩ : ∃ W, w11.alloc (.cells #[.int .u32 1] 23) = W := ⟨_, rfl⟩
    have R12 := Lib.hid (lit_one w11)
    have H12 := Lib.hid (below_lit w11 (.cells #[.int .u32 1] 23))
    rw [hw] at R12 H12 ⊢
    clear hw
    refine (nAdd_is 6 s0x la cap0 za (m) (some ⟨w11.heap.size, 0, none⟩) 1 1 [1] (1) _ ((((((((((Ra.out.below H3.out).below H4.out).below H5.out).below H6.out).below H7.out).below H8.out).below H9.out).below H10.out).below H11.out).below H12.out) Ia.out R12.out ONE.out (by omega) (by omega) (by omega)).mono ?_
    rintro e w13 ⟨a13, l13, c13, z13, rfl, hr, hi, hl13, hb⟩
    have R13 := Lib.hid hr
    have I13 := Lib.hid hi
    have H13 := Lib.hid hb
    clear hr hi hb
    go_wp2_with fail
    refine (nSub_is s0x la cap0 za (m) a13 l13 c13 z13 (m + 1) _ (((((((((((Ra.out.below H3.out).below H4.out).below H5.out).below H6.out).below H7.out).below H8.out).below H9.out).below H10.out).below H11.out).below H12.out).below H13.out) Ia.out R13.out I13.out (by omega) 0 16 (.inl ⟨by omega, rfl, rfl⟩)).mono ?_
    rintro e w14 ⟨a14, l14, c14, z14, rfl, hr, hi, hb⟩
    have R14 := Lib.hid hr
    have I14 := Lib.hid hi
    have H14 := Lib.hid hb
    clear hr hi hb
    go_wp2
    go_ret
    exact ⟨rfl, (below_next (below_next (below_next (below_next (below_next (below_next (below_next (below_next (below_next (below_next (below_next (below_next (below_next H1.out H2.out) H3.out) H4.out) H5.out) H6.out) H7.out) H8.out) H9.out) H10.out) H11.out) H12.out) H13.out) H14.out)⟩
  · have bx : (xx == 0) = false := by simp; omega
    go_enter Try.func6, Try.ntmps6
    go_wp2_with fail
    obtain ⟨w1, hw⟩ : ∃ W, w.alloc (.cells #[.int .u32 xx, .int .u32 yy] 45) = W := ⟨_, rfl⟩
    have H1 := Lib.hid (below_lit w (.cells #[.int .u32 xx, .int .u32 yy] 45))
    have LT := Lib.hid (show w.heap.size < (w.alloc (.cells #[.int .u32 xx, .int .u32 yy] 45)).heap.size by simp)
    have F0 := Lib.hid (show (w.alloc (.cells #[.int .u32 xx, .int .u32 yy] 45)).cell? ⟨w.heap.size, 0, none⟩ = some (.int .u32 xx) from World.cell?_alloc_at _ _ _ _ rfl)
    have F1 := Lib.hid (show (w.alloc (.cells #[.int .u32 xx, .int .u32 yy] 45)).cell? ⟨w.heap.size, 1, none⟩ = some (.int .u32 yy) from World.cell?_alloc_at _ _ _ _ rfl)
    rw [hw] at H1 LT F0 F1 ⊢
    clear hw
    refine (awake_any _).mono ?_
    rintro e w2 ⟨rfl, hb⟩
    have H2 := Lib.hid hb
    clear hb
    go_wp2_with fail
    refine (made_is s0x len0 cap0 y0 _ ((Q0.out.below H1.out).below H2.out) D0.out).mono ?_
    rintro e w' ⟨la, za, m, h6a, rfl, hr, hi, rfl⟩
    have Ra := Lib.hid hr
    have Ia := Lib.hid hi
    clear hr hi
    go_wp2_with fail
    refine (made_is s1x len1 cap1 y1 _ ((Q1.out.below H1.out).below H2.out) D1.out).mono ?_
    rintro e w' ⟨lb, zb, n, h6b, rfl, hr, hi, rfl⟩
    have Rb := Lib.hid hr
    have Ib := Lib.hid hi
    clear hr hi
    have ONE := Lib.hid is_one
    have M0 := Lib.hid (Ia.out.nonneg (by omega))
    go_wp2_with fail
    refine (nAdd_is 6 s0x la cap0 za (m) s1x lb cap1 zb (n) _ Ra.out Ia.out Rb.out Ib.out (by omega) (by omega) (by omega)).mono ?_
    rintro e w3 ⟨a3, l3, c3, z3, rfl, hr, hi, hl3, hb⟩
    have R3 := Lib.hid hr
    have I3 := Lib.hid hi
    have H3 := Lib.hid hb
    clear hr hi hb
    go_wp2_with fail
    refine (nSub_is a3 l3 c3 z3 (m + n) s1x lb cap1 zb (n) _ R3.out I3.out (Rb.out.below H3.out) Ib.out (by omega) m 0 (.inr ⟨by have := M0.out; omega, by omega, rfl⟩)).mono ?_
    rintro e w4 ⟨a4, l4, c4, z4, rfl, hr, hi, hb⟩
    have R4 := Lib.hid hr
    have I4 := Lib.hid hi
    have H4 := Lib.hid hb
    clear hr hi hb
    go_wp2_with fail
    refine (same_yes a4 l4 c4 z4 (m) s0x la cap0 za (m) _ R4.out I4.out ((Ra.out.below H3.out).below H4.out) Ia.out rfl).mono ?_
    rintro e w5 ⟨rfl, hb⟩
    have H5 := Lib.hid hb
    clear hb
    have g0 := ((below_next (below_next (below_next (below_next (Below.refl w1.heap.size w1) H2.out) H3.out) H4.out) H5.out).cell (p := ⟨w.heap.size, 0, none⟩) LT.out).trans F0.out
    have g1 := ((below_next (below_next (below_next (below_next (Below.refl w1.heap.size w1) H2.out) H3.out) H4.out) H5.out).cell (p := ⟨w.heap.size, 1, none⟩) LT.out).trans F1.out
    go_wp2_with fail
    refine (nOf_is xx _ (by omega) (by omega)).mono ?_
    rintro e w6 ⟨a6, l6, c6, z6, rfl, hr, hi, hl6, hb⟩
    have R6 := Lib.hid hr
    have I6 := Lib.hid hi
    have H6 := Lib.hid hb
    clear hr hi hb
    clear g0 g1
    go_wp2_with fail
    refine (nMul_is 6 2 s0x la cap0 za (m) a6 l6 c6 z6 (xx) _ ((((Ra.out.below H3.out).below H4.out).below H5.out).below H6.out) Ia.out R6.out I6.out (by omega) (by omega) (by omega) (by omega)).mono ?_
    rintro e w7 ⟨a7, l7, c7, z7, rfl, hr, hi, hl7, hb⟩
    have R7 := Lib.hid hr
    have I7 := Lib.hid hi
    have H7 := Lib.hid hb
    clear hr hi hb
    obtain ⟨rr, hrr⟩ : ∃ rr, yy % xx = rr := ⟨_, rfl⟩
    have rr1 : 0 ≤ rr ∧ rr < xx := by rw [← hrr]; exact ⟨Int.emod_nonneg _ (by omega), Int.emod_lt_of_pos _ (by omega)⟩
    obtain ⟨rr1, rr2⟩ := rr1
    try rw [hrr]
    have HRR := Lib.hid hrr
    go_wp2_with fail
    refine (nOf_is rr _ (by omega) (by omega)).mono ?_
    rintro e w8 ⟨a8, l8, c8, z8, rfl, hr, hi, hl8, hb⟩
    have R8 := Lib.hid hr
    have I8 := Lib.hid hi
    have H8 := Lib.hid hb
    clear hr hi hb
    clear hrr
    go_wp2_with fail
    refine (nAdd_is 8 a7 l7 c7 z7 ((m) * (xx)) a8 l8 c8 z8 (rr) _ (R7.out.below H8.out) I7.out R8.out I8.out (by omega) (by omega) (by omega)).mono ?_
    rintro e w9 ⟨a9, l9, c9, z9, rfl, hr, hi, hl9, hb⟩
    have R9 := Lib.hid hr
    have I9 := Lib.hid hi
    have H9 := Lib.hid hb
    clear hr hi hb
    have DV := Lib.hid (show Divs ((m) * (xx) + rr) (xx) m rr 0 from .inr ⟨by omega, (divs_back (by omega) (by omega) (by omega)).symm, (rem_back (by omega) (by omega)).symm, rfl⟩)
    go_wp2_with fail
    refine (nDiv_is a9 l9 c9 z9 ((m) * (xx) + rr) xx _ R9.out I9.out (by omega) (by omega) m rr 0 DV.out).mono ?_
    rintro e w10 ⟨a10, l10, c10, z10, rfl, hr, hi, hb⟩
    have R10 := Lib.hid hr
    have I10 := Lib.hid hi
    have H10 := Lib.hid hb
    clear hr hi hb
    go_wp2_with fail
    refine (same_yes a10 l10 c10 z10 (m) s0x la cap0 za (m) _ R10.out I10.out ((((((((Ra.out.below H3.out).below H4.out).below H5.out).below H6.out).below H7.out).below H8.out).below H9.out).below H10.out) Ia.out rfl).mono ?_
    rintro e w11 ⟨rfl, hb⟩
    have H11 := Lib.hid hb
    clear hb
    go_wp2_with fail
    obtain ⟨w12, hw⟩ : ∃ W, w11.alloc (.cells #[.int .u32 1] 23) = W := ⟨_, rfl⟩
    have R12 := Lib.hid (lit_one w11)
    have H12 := Lib.hid (below_lit w11 (.cells #[.int .u32 1] 23))
    rw [hw] at R12 H12 ⊢
    clear hw
    refine (nAdd_is 6 s0x la cap0 za (m) (some ⟨w11.heap.size, 0, none⟩) 1 1 [1] (1) _ ((((((((((Ra.out.below H3.out).below H4.out).below H5.out).below H6.out).below H7.out).below H8.out).below H9.out).below H10.out).below H11.out).below H12.out) Ia.out R12.out ONE.out (by omega) (by omega) (by omega)).mono ?_
    rintro e w13 ⟨a13, l13, c13, z13, rfl, hr, hi, hl13, hb⟩
    have R13 := Lib.hid hr
    have I13 := Lib.hid hi
    have H13 := Lib.hid hb
    clear hr hi hb
    go_wp2_with fail
    refine (nSub_is s0x la cap0 za (m) a13 l13 c13 z13 (m + 1) _ (((((((((((Ra.out.below H3.out).below H4.out).below H5.out).below H6.out).below H7.out).below H8.out).below H9.out).below H10.out).below H11.out).below H12.out).below H13.out) Ia.out R13.out I13.out (by omega) 0 16 (.inl ⟨by omega, rfl, rfl⟩)).mono ?_
    rintro e w14 ⟨a14, l14, c14, z14, rfl, hr, hi, hb⟩
    have R14 := Lib.hid hr
    have I14 := Lib.hid hi
    have H14 := Lib.hid hb
    clear hr hi hb
    go_wp2
    go_ret
    exact ⟨rfl, (below_next (below_next (below_next (below_next (below_next (below_next (below_next (below_next (below_next (below_next (below_next (below_next (below_next H1.out H2.out) H3.out) H4.out) H5.out) H6.out) H7.out) H8.out) H9.out) H10.out) H11.out) H12.out) H13.out) H14.out)⟩
end Go.Proofs.Ythelebgalihngaa
