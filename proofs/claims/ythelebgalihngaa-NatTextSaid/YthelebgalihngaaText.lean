/-
  The walk of NatText, over rows that came in.
-/
import Derived.Test.YthelebgalihngaaNat19
namespace Go.Proofs.Ythelebgalihngaa
open Go.RowKit

set_option maxHeartbeats 1600000 in
theorem text_core (s0x : Option Addr) (len0 cap0 : Nat) (y0 : List Int) (s1x : Option Addr) (len1 cap1 : Nat) (y1 : List Int) (w : World) (h0 : Row .u32 w s0x len0 cap0 y0) (d0 : Digs 4294967296 y0) (h1 : Row .u32 w s1x len1 cap1 y1) (d1 : Digs 4294967296 y1) :
    Calls Try.prog 7 #[.slice s0x len0 cap0, .slice s1x len1 cap1] w fun e w' => e = .returned (.bool true) ∧ Below w.heap.size w w' := by
  have Q0 := Lib.hid h0
  have D0 := Lib.hid d0
  clear h0 d0
  have Q1 := Lib.hid h1
  have D1 := Lib.hid d1
  clear h1 d1
  go_enter Try.func7, Try.ntmps7
  go_wp2_with fail
  refine (awake_any _).mono ?_
  rintro e w1 ⟨rfl, hb⟩
  have H1 := Lib.hid hb
  clear hb
  go_wp2_with fail
  refine (made_is s0x len0 cap0 y0 _ (Q0.out.below H1.out) D0.out).mono ?_
  rintro e w' ⟨la, za, m, h6a, rfl, hr, hi, rfl⟩
  have Ra := Lib.hid hr
  have Ia := Lib.hid hi
  clear hr hi
  go_wp2_with fail
  refine (made_is s1x len1 cap1 y1 _ (Q1.out.below H1.out) D1.out).mono ?_
  rintro e w' ⟨lb, zb, n, h6b, rfl, hr, hi, rfl⟩
  have Rb := Lib.hid hr
  have Ib := Lib.hid hi
  clear hr hi
  obtain ⟨da, hda⟩ := dec_of (Ia.out.nonneg (by omega))
  have Da := Lib.hid hda
  clear hda
  obtain ⟨db, hdb⟩ := dec_of (Ib.out.nonneg (by omega))
  have Db := Lib.hid hdb
  clear hdb
  go_wp2_with fail
  refine (nText_any s0x la cap0 za m da _ Ra.out Ia.out (by omega) Da.out).mono ?_
  rintro e w2 ⟨rfl, hb⟩
  have H2 := Lib.hid hb
  clear hb
  go_wp2_with fail
  refine (nText_any s1x lb cap1 zb n db _ (Rb.out.below H2.out) Ib.out (by omega) Db.out).mono ?_
  rintro e w3 ⟨rfl, hb⟩
  have H3 := Lib.hid hb
  clear hb
  obtain ⟨S, hS⟩ : ∃ S : ByteArray, (⟨(textL da).toArray⟩ : ByteArray) = S := ⟨_, rfl⟩
  obtain ⟨T, hT⟩ : ∃ T : ByteArray, (⟨(textL db).toArray⟩ : ByteArray) = T := ⟨_, rfl⟩
  have LS := Lib.hid (show S.data.toList = textL da by rw [← hS])
  have LT := Lib.hid (show T.data.toList = textL db by rw [← hT])
  have s6 := str_short LS.out Da.out (is_lt Ia.out (p := 6) (by rw [Ra.out.len]; exact h6a)).2
  have t6 := str_short LT.out Db.out (is_lt Ib.out (p := 6) (by rw [Rb.out.len]; exact h6b)).2
  rw [hS, hT]
  clear hS hT
  go_wp2_with fail
  refine (nParse_is S _ (by omega) m 0 (.inl ⟨by rw [LS.out]; exact text_good Da.out, by rw [LS.out, text_val Da.out], rfl⟩)).mono ?_
  rintro e w4 ⟨a4, l4, c4, z4, rfl, hr, hi, hb⟩
  have R4 := Lib.hid hr
  have I4 := Lib.hid hi
  have H4 := Lib.hid hb
  clear hr hi hb
  go_wp2_with fail
  refine (same_yes a4 l4 c4 z4 (m) s0x la cap0 za (m) _ R4.out I4.out (((Ra.out.below H2.out).below H3.out).below H4.out) Ia.out rfl).mono ?_
  rintro e w5 ⟨rfl, hb⟩
  have H5 := Lib.hid hb
  clear hb
  go_wp2_with fail
  obtain ⟨U, hU⟩ : ∃ U : ByteArray, (⟨#[48]⟩ : ByteArray) ++ S = U := ⟨_, rfl⟩
  have LU := Lib.hid (show U.data.toList = 48 :: textL da by rw [← hU, ByteArray.data_append, Array.toList_append, LS.out]; rfl)
  have u6 : U.size ≤ 1000 := by rw [← hU, ByteArray.size_append]; show 1 + S.size ≤ 1000; omega
  rw [hU]
  clear hU
  refine (nParse_no U _ u6 (by rw [LU.out]; exact zero_bad _ (text_good Da.out).1)).mono ?_
  rintro e w' ⟨rfl, rfl⟩
  go_wp2_with fail
  refine (nParse_no ⟨#[]⟩ _ (by decide) nil_bad).mono ?_
  rintro e w' ⟨rfl, rfl⟩
  have TL := Lib.hid (ByteArray.toList_eq S)
  have TL2 := Lib.hid (ByteArray.toList_eq T)
  have ZS := Lib.hid (show S.size = (textL da).length by rw [← LS.out]; simp)
  have ZT := Lib.hid (show T.size = (textL db).length by rw [← LT.out]; simp)
  rcases Int.lt_trichotomy m n with g | g | g
  · have E := Lib.hid (cmpI_lt g)
    by_cases h : S.size = T.size
    · have b1 : ((S.size : Int) == (T.size : Int)) = true := by simp; omega
      have b0 : decide (S.size < T.size) = false := by simp; omega
      have b2 : Op.bytesLess S.toList T.toList = true := by rw [TL.out, TL2.out, LS.out, LT.out, text_lex Da.out Db.out (by rw [← ZS.out, ← ZT.out]; exact h)]; simpa using g
      clear g h
      go_wp2_with fail
      refine (nCmp_is s0x la cap0 za (m) s1x lb cap1 zb (n) _ ((((Ra.out.below H2.out).below H3.out).below H4.out).below H5.out) Ia.out ((((Rb.out.below H2.out).below H3.out).below H4.out).below H5.out) Ib.out (-1) E.out).mono ?_
      rintro e w6 ⟨rfl, hb⟩
      have H6 := Lib.hid hb
      clear hb
      go_wp2
      go_ret
      exact ⟨rfl, (below_next (below_next (below_next (below_next (below_next H1.out H2.out) H3.out) H4.out) H5.out) H6.out)⟩
    · have b3 : S.size < T.size := by
        rcases Nat.lt_trichotomy S.size T.size with k | k | k
        · exact k
        · exact absurd k h
        · have := text_longer Db.out Da.out (by rw [← ZS.out, ← ZT.out]; exact k); omega
      clear g h
      go_wp2_with fail
      refine (nCmp_is s0x la cap0 za (m) s1x lb cap1 zb (n) _ ((((Ra.out.below H2.out).below H3.out).below H4.out).below H5.out) Ia.out ((((Rb.out.below H2.out).below H3.out).below H4.out).below H5.out) Ib.out (-1) E.out).mono ?_
      rintro e w6 ⟨rfl, hb⟩
      have H6 := Lib.hid hb
      clear hb
      go_wp2
      go_ret
      exact ⟨rfl, (below_next (below_next (below_next (below_next (below_next H1.out H2.out) H3.out) H4.out) H5.out) H6.out)⟩
  · have E := Lib.hid (cmpI_eq g)
    obtain rfl : T = S := by
      apply ByteArray.ext
      apply Array.toList_inj.mp
      rw [LS.out, LT.out]
      subst g
      exact (text_same Da.out Db.out).symm
    have b2 : Op.bytesLess T.toList T.toList = false := by rw [TL.out, LS.out, text_lex Da.out Da.out rfl]; simp
    clear g
    go_wp2_with fail
    refine (nCmp_is s0x la cap0 za (m) s1x lb cap1 zb (n) _ ((((Ra.out.below H2.out).below H3.out).below H4.out).below H5.out) Ia.out ((((Rb.out.below H2.out).below H3.out).below H4.out).below H5.out) Ib.out (0) E.out).mono ?_
    rintro e w6 ⟨rfl, hb⟩
    have H6 := Lib.hid hb
    clear hb
    go_wp2
    go_ret
    exact ⟨rfl, (below_next (below_next (below_next (below_next (below_next H1.out H2.out) H3.out) H4.out) H5.out) H6.out)⟩
  · have E := Lib.hid (cmpI_gt g)
    have b4 : (S.toList == T.toList) = false := by rw [beq_eq_false_iff_ne, TL.out, TL2.out, LS.out, LT.out]; exact text_other Da.out Db.out (by omega)
    by_cases h : S.size = T.size
    · have b1 : ((S.size : Int) == (T.size : Int)) = true := by simp; omega
      have b0 : decide (S.size < T.size) = false := by simp; omega
      have b2 : Op.bytesLess S.toList T.toList = false := by rw [TL.out, TL2.out, LS.out, LT.out, text_lex Da.out Db.out (by rw [← ZS.out, ← ZT.out]; exact h)]; simp; omega
      clear g h
      go_wp2_with fail
      refine (nCmp_is s0x la cap0 za (m) s1x lb cap1 zb (n) _ ((((Ra.out.below H2.out).below H3.out).below H4.out).below H5.out) Ia.out ((((Rb.out.below H2.out).below H3.out).below H4.out).below H5.out) Ib.out (1) E.out).mono ?_
      rintro e w6 ⟨rfl, hb⟩
      have H6 := Lib.hid hb
      clear hb
      go_wp2
      go_ret
      exact ⟨rfl, (below_next (below_next (below_next (below_next (below_next H1.out H2.out) H3.out) H4.out) H5.out) H6.out)⟩
    · have b1 : ((S.size : Int) == (T.size : Int)) = false := by simp; omega
      have b3 : T.size < S.size := by
        rcases Nat.lt_trichotomy S.size T.size with k | k | k
        · have := text_longer Da.out Db.out (by rw [← ZS.out, ← ZT.out]; exact k); omega
        · exact absurd k h
        · exact k
      clear g h
      go_wp2_with fail
      refine (nCmp_is s0x la cap0 za (m) s1x lb cap1 zb (n) _ ((((Ra.out.below H2.out).below H3.out).below H4.out).below H5.out) Ia.out ((((Rb.out.below H2.out).below H3.out).below H4.out).below H5.out) Ib.out (1) E.out).mono ?_
      rintro e w6 ⟨rfl, hb⟩
      have H6 := Lib.hid hb
      clear hb
      go_wp2
      go_ret
      exact ⟨rfl, (below_next (below_next (below_next (below_next (below_next H1.out H2.out) H3.out) H4.out) H5.out) H6.out)⟩
end Go.Proofs.Ythelebgalihngaa
