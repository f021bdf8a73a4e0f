/-
  The walk of NatTexts, over rows that came in.
-/
import Derived.Test.YthelebgalihngaaNat17
namespace Go.Proofs.Ythelebgalihngaa
open Go.RowKit

set_option maxHeartbeats 1600000 in
theorem texts_core (s0x : Option Addr) (len0 cap0 : Nat) (y0 : List Int) (s : ByteArray) (u : Int) (w : World) (h0 : Row .u32 w s0x len0 cap0 y0) (d0 : Digs 4294967296 y0) (hs : s.size ≤ maxLen) (e0 : 0 ≤ u) (e1 : u ≤ 18446744073709551615) :
    Calls Try.prog 4 #[.slice s0x len0 cap0, .string s, .int .u64 u] w fun e w' => e = .returned (.bool true) ∧ Below w.heap.size w w' := by
  unfold maxLen at hs
  have ⟨cl1, cl2⟩ := h0.cap_le
  have Q0 := Lib.hid h0
  have D0 := Lib.hid d0
  clear h0 d0
  go_enter Try.func4, Try.ntmps4
  go_wp2_with fail
  refine (awake_any _).mono ?_
  rintro e w1 ⟨rfl, hb⟩
  have H1 := Lib.hid hb
  clear hb
  go_wp2_with fail
  refine (made_is s0x len0 cap0 y0 _ (Q0.out.below H1.out) D0.out).mono ?_
  rintro e w' ⟨la, za, m, h6a, rfl, hr, hi, rfl⟩
  have Ra := Lib.hid hr
  have Ia := Lib.hid hi
  clear hr hi
  obtain ⟨dd, hdd⟩ := dec_of (Ia.out.nonneg (by omega))
  have DD := Lib.hid hdd
  clear hdd
  by_cases h60 : 60 < s.size
  · go_wp2_with fail
    obtain ⟨t, ht⟩ : ∃ t, s.extract 0 60 = t := ⟨_, rfl⟩
    have t60 : t.size ≤ 60 := by rw [← ht]; simp; omega
    rw [ht]
    clear ht
    obtain ⟨v, er, hv⟩ := reads_ex t.data.toList
    have HV := Lib.hid hv
    clear hv
    refine (nParse_is t _ (by omega) v er HV.out).mono ?_
    rintro e w2 ⟨a2, l2, c2, z2, rfl, hr, hi, hb⟩
    have R2 := Lib.hid hr
    have I2 := Lib.hid hi
    have H2 := Lib.hid hb
    clear hr hi hb
    go_wp2_with fail
    refine (Parse_is t _ t60 v er HV.out).mono ?_
    rintro e w3 ⟨a3, l3, c3, z3, rfl, hr, hi, hb⟩
    have R3 := Lib.hid hr
    have I3 := Lib.hid hi
    have H3 := Lib.hid hb
    clear hr hi hb
    go_wp2_with fail
    refine (same_yes a2 l2 c2 z2 (v) a3 l3 c3 z3 (v) _ (R2.out.below H3.out) I2.out R3.out I3.out rfl).mono ?_
    rintro e w4 ⟨rfl, hb⟩
    have H4 := Lib.hid hb
    clear hb
    go_wp2_with fail
    refine (nOf_is u _ e0 e1).mono ?_
    rintro e w5 ⟨a5, l5, c5, z5, rfl, hr, hi, hl5, hb⟩
    have R5 := Lib.hid hr
    have I5 := Lib.hid hi
    have H5 := Lib.hid hb
    clear hr hi hb
    go_wp2_with fail
    refine (Of_is u _ e0 e1).mono ?_
    rintro e w6 ⟨a6, l6, c6, z6, rfl, hr, hi, hl6, hb⟩
    have R6 := Lib.hid hr
    have I6 := Lib.hid hi
    have H6 := Lib.hid hb
    clear hr hi hb
    go_wp2_with fail
    refine (same_yes a5 l5 c5 z5 (u) a6 l6 c6 z6 (u) _ (R5.out.below H6.out) I5.out R6.out I6.out rfl).mono ?_
    rintro e w7 ⟨rfl, hb⟩
    have H7 := Lib.hid hb
    clear hb
    by_cases h8 : 8 < len0
    · have Q8 := Lib.hid (Q0.out.take (show 8 ≤ len0 by omega))
      obtain ⟨b0, o0, he, _⟩ := Q0.out.cell (show 0 < len0 by omega)
      subst he
      have cl := Q0.out.cap_le
      obtain ⟨r, hr⟩ := bool_ex (Top (y0.take 8))
      have HRr := Lib.hid hr
      clear hr
      go_wp2_with fail
      refine (nText_any (some ⟨b0, o0, none⟩) la cap0 za m dd _ ((((((Ra.out.below H2.out).below H3.out).below H4.out).below H5.out).below H6.out).below H7.out) Ia.out (by omega) DD.out).mono ?_
      rintro e w8 ⟨rfl, hb⟩
      have H8 := Lib.hid hb
      clear hb
      go_wp2_with fail
      refine (Text_any (some ⟨b0, o0, none⟩) la cap0 za m dd _ (((((((Ra.out.below H2.out).below H3.out).below H4.out).below H5.out).below H6.out).below H7.out).below H8.out) Ia.out (by omega) DD.out).mono ?_
      rintro e w9 ⟨rfl, hb⟩
      have H9 := Lib.hid hb
      clear hb
      go_wp2_with fail
      refine (nCheck_any (some ⟨b0, o0, none⟩) 8 cap0 (y0.take 8) _ r (((((((((Q8.out.below H1.out).below H2.out).below H3.out).below H4.out).below H5.out).below H6.out).below H7.out).below H8.out).below H9.out) HRr.out).mono ?_
      rintro e w' ⟨rfl, rfl⟩
      go_wp2_with fail
      refine (check_any (some ⟨b0, o0, none⟩) 8 cap0 (y0.take 8) _ r (((((((((Q8.out.below H1.out).below H2.out).below H3.out).below H4.out).below H5.out).below H6.out).below H7.out).below H8.out).below H9.out) HRr.out).mono ?_
      rintro e w' ⟨rfl, rfl⟩
      go_wp2
      go_ret
      exact ⟨rfl, (below_next (below_next (below_next (below_next (below_next (below_next (below_next (below_next H1.out H2.out) H3.out) H4.out) H5.out) H6.out) H7.out) H8.out) H9.out)⟩
    · have b8 : decide (8 < (len0 : Int)) = false := by simp; omega
      obtain ⟨r, hr⟩ := bool_ex (Top (y0))
      have HRr := Lib.hid hr
      clear hr
      go_wp2_with fail
      refine (nText_any s0x la cap0 za m dd _ ((((((Ra.out.below H2.out).below H3.out).below H4.out).below H5.out).below H6.out).below H7.out) Ia.out (by omega) DD.out).mono ?_
      rintro e w8 ⟨rfl, hb⟩
      have H8 := Lib.hid hb
      clear hb
      go_wp2_with fail
      refine (Text_any s0x la cap0 za m dd _ (((((((Ra.out.below H2.out).below H3.out).below H4.out).below H5.out).below H6.out).below H7.out).below H8.out) Ia.out (by omega) DD.out).mono ?_
      rintro e w9 ⟨rfl, hb⟩
      have H9 := Lib.hid hb
      clear hb
      go_wp2_with fail
      refine (nCheck_any s0x len0 cap0 (y0) _ r (((((((((Q0.out.below H1.out).below H2.out).below H3.out).below H4.out).below H5.out).below H6.out).below H7.out).below H8.out).below H9.out) HRr.out).mono ?_
      rintro e w' ⟨rfl, rfl⟩
      go_wp2_with fail
      refine (check_any s0x len0 cap0 (y0) _ r (((((((((Q0.out.below H1.out).below H2.out).below H3.out).below H4.out).below H5.out).below H6.out).below H7.out).below H8.out).below H9.out) HRr.out).mono ?_
      rintro e w' ⟨rfl, rfl⟩
      go_wp2
      go_ret
      exact ⟨rfl, (below_next (below_next (below_next (below_next (below_next (below_next (below_next (below_next H1.out H2.out) H3.out) H4.out) H5.out) H6.out) H7.out) H8.out) H9.out)⟩
  · have b60 : decide (60 < (s.size : Int)) = false := by simp; omega
    have t60 : s.size ≤ 60 := by omega
    obtain ⟨v, er, hv⟩ := reads_ex s.data.toList
    have HV := Lib.hid hv
    clear hv
    go_wp2_with fail
    refine (nParse_is s _ (by omega) v er HV.out).mono ?_
    rintro e w2 ⟨a2, l2, c2, z2, rfl, hr, hi, hb⟩
    have R2 := Lib.hid hr
    have I2 := Lib.hid hi
    have H2 := Lib.hid hb
    clear hr hi hb
    go_wp2_with fail
    refine (Parse_is s _ t60 v er HV.out).mono ?_
    rintro e w3 ⟨a3, l3, c3, z3, rfl, hr, hi, hb⟩
    have R3 := Lib.hid hr
    have I3 := Lib.hid hi
    have H3 := Lib.hid hb
    clear hr hi hb
    go_wp2_with fail
    refine (same_yes a2 l2 c2 z2 (v) a3 l3 c3 z3 (v) _ (R2.out.below H3.out) I2.out R3.out I3.out rfl).mono ?_
    rintro e w4 ⟨rfl, hb⟩
    have H4 := Lib.hid hb
    clear hb
    go_wp2_with fail
    refine (nOf_is u _ e0 e1).mono ?_
    rintro e w5 ⟨a5, l5, c5, z5, rfl, hr, hi, hl5, hb⟩
    have R5 := Lib.hid hr
    have I5 := Lib.hid hi
    have H5 := Lib.hid hb
    clear hr hi hb
    go_wp2_with fail
    refine (Of_is u _ e0 e1).mono ?_
    rintro e w6 ⟨a6, l6, c6, z6, rfl, hr, hi, hl6, hb⟩
    have R6 := Lib.hid hr
    have I6 := Lib.hid hi
    have H6 := Lib.hid hb
    clear hr hi hb
    go_wp2_with fail
    refine (same_yes a5 l5 c5 z5 (u) a6 l6 c6 z6 (u) _ (R5.out.below H6.out) I5.out R6.out I6.out rfl).mono ?_
    rintro e w7 ⟨rfl, hb⟩
    have H7 := Lib.hid hb
    clear hb
    by_cases h8 : 8 < len0
    · have Q8 := Lib.hid (Q0.out.take (show 8 ≤ len0 by omega))
      obtain ⟨b0, o0, he, _⟩ := Q0.out.cell (show 0 < len0 by omega)
      subst he
      have cl := Q0.out.cap_le
      obtain ⟨r, hr⟩ := bool_ex (Top (y0.take 8))
      have HRr := Lib.hid hr
      clear hr
      go_wp2_with fail
      refine (nText_any (some ⟨b0, o0, none⟩) la cap0 za m dd _ ((((((Ra.out.below H2.out).below H3.out).below H4.out).below H5.out).below H6.out).below H7.out) Ia.out (by omega) DD.out).mono ?_
      rintro e w8 ⟨rfl, hb⟩
      have H8 := Lib.hid hb
      clear hb
      go_wp2_with fail
      refine (Text_any (some ⟨b0, o0, none⟩) la cap0 za m dd _ (((((((Ra.out.below H2.out).below H3.out).below H4.out).below H5.out).below H6.out).below H7.out).below H8.out) Ia.out (by omega) DD.out).mono ?_
      rintro e w9 ⟨rfl, hb⟩
      have H9 := Lib.hid hb
      clear hb
      go_wp2_with fail
      refine (nCheck_any (some ⟨b0, o0, none⟩) 8 cap0 (y0.take 8) _ r (((((((((Q8.out.below H1.out).below H2.out).below H3.out).below H4.out).below H5.out).below H6.out).below H7.out).below H8.out).below H9.out) HRr.out).mono ?_
      rintro e w' ⟨rfl, rfl⟩
      go_wp2_with fail
      refine (check_any (some ⟨b0, o0, none⟩) 8 cap0 (y0.take 8) _ r (((((((((Q8.out.below H1.out).below H2.out).below H3.out).below H4.out).below H5.out).below H6.out).below H7.out).below H8.out).below H9.out) HRr.out).mono ?_
      rintro e w' ⟨rfl, rfl⟩
      go_wp2
      go_ret
      exact ⟨rfl, (below_next (below_next (below_next (below_next (below_next (below_next (below_next (below_next H1.out H2.out) H3.out) H4.out) H5.out) H6.out) H7.out) H8.out) H9.out)⟩
    · have b8 : decide (8 < (len0 : Int)) = false := by simp; omega
      obtain ⟨r, hr⟩ := bool_ex (Top (y0))
      have HRr := Lib.hid hr
      clear hr
      go_wp2_with fail
      refine (nText_any s0x la cap0 za m dd _ ((((((Ra.out.below H2.out).below H3.out).below H4.out).below H5.out).below H6.out).below H7.out) Ia.out (by omega) DD.out).mono ?_
      rintro e w8 ⟨rfl, hb⟩
      have H8 := Lib.hid hb
      clear hb
      go_wp2_with fail
      refine (Text_any s0x la cap0 za m dd _ (((((((Ra.out.below H2.out).below H3.out).below H4.out).below H5.out).below H6.out).below H7.out).below H8.out) Ia.out (by omega) DD.out).mono ?_
      rintro e w9 ⟨rfl, hb⟩
      have H9 := Lib.hid hb
      clear hb
      go_wp2_with fail
      refine (nCheck_any s0x len0 cap0 (y0) _ r (((((((((Q0.out.below H1.out).below H2.out).below H3.out).below H4.out).below H5.out).below H6.out).below H7.out).below H8.out).below H9.out) HRr.out).mono ?_
      rintro e w' ⟨rfl, rfl⟩
      go_wp2_with fail
      refine (check_any s0x len0 cap0 (y0) _ r (((((((((Q0.out.below H1.out).below H2.out).below H3.out).below H4.out).below H5.out).below H6.out).below H7.out).below H8.out).below H9.out) HRr.out).mono ?_
      rintro e w' ⟨rfl, rfl⟩
      go_wp2
      go_ret
      exact ⟨rfl, (below_next (below_next (below_next (below_next (below_next (below_next (below_next (below_next H1.out H2.out) H3.out) H4.out) H5.out) H6.out) H7.out) H8.out) H9.out)⟩
end Go.Proofs.Ythelebgalihngaa
