/-
  The walk of SuperTells: it answers true, and writes nothing that was there.
-/
import Derived.Test.YtnlgophgglgneaaSl1
import Derived.Test.YtnlgophgglgneaaSrA
namespace Go.Proofs.Ytnlgophgglgneaa
open Go.RowKit

theorem lo_den {W : World} {base L : Nat} {v : Value} {n d : Int} (h : Rat W base L v n d) (hd : 0 < d) : ∃ an ln cn ad ld cd, v = .agg #[.slice an ln cn, .slice ad ld cd] ∧ 0 < ld := by
  obtain ⟨an, ln, cn, zn, ad, ld, cd, zd, rfl, _, _, h3, h4, _⟩ := h
  refine ⟨an, ln, cn, ad, ld, cd, rfl, ?_⟩
  rcases Nat.eq_zero_or_pos ld with e | e
  · exfalso
    subst e
    have h5 : zd = [] := List.length_eq_zero_iff.mp h3.len
    subst h5
    have h6 := h4.2.2
    simp [val] at h6
    omega
  · exact e
set_option maxRecDepth 20000 in
set_option maxHeartbeats 8000000 in
theorem tells14_any (a : Option Addr) (len cap : Nat) (ps : List (Int × Int)) (w : World) (h : RowP w a len cap ps) :
    Calls Try.prog 11 #[.slice a len cap] w fun e w' => e = .returned (.bool true) ∧ Below w.heap.size w w' := by
  have H := Lib.hid h
  obtain ⟨E, P, er, hv⟩ : ∃ E P er, wgtV ps = (E, P, er) := ⟨_, _, _, rfl⟩
  have HV := Lib.hid hv
  obtain ⟨b, hb⟩ : ∃ b : Bool, b = true ↔ MayP ps := by
    by_cases hM : MayP ps
    · exact ⟨true, fun _ => hM, fun _ => rfl⟩
    · exact ⟨false, (fun h => by cases h), fun h => absurd h hM⟩
  have HB := Lib.hid hb
  clear h hv hb
  go_enter Try.func11, Try.ntmps11
  go_wp2_with fail
  refine (sweight_any a len cap ps w H.out E P er HV.out).mono ?_
  rintro e w1 ⟨rfl, hb1⟩
  obtain ⟨W2, hW2⟩ : ∃ W2, w1.alloc (.cells #[.int .i64 E, .int .i64 P] 32) = W2 := ⟨_, rfl⟩
  have X2 := Lib.hid (show Blk W2 32 w1.heap.size #[.int .i64 E, .int .i64 P] by rw [← hW2]; exact Blk.new _ _ _)
  have B2 := Lib.hid (show Below w.heap.size w W2 by rw [← hW2]; exact below_next hb1 (wbox _ _))
  go_wp2_with fail
  clear hW2 hb1
  refine (r14weight_any a len cap ps W2 (H.out.below B2.out) E P er HV.out).mono ?_
  rintro e w3 ⟨rfl, hb3⟩
  obtain ⟨W4, hW4⟩ : ∃ W4, w3.alloc (.cells #[.int .i64 E, .int .i64 P] 32) = W4 := ⟨_, rfl⟩
  have X4 := Lib.hid (show Blk W4 32 w1.heap.size #[.int .i64 E, .int .i64 P] by rw [← hW4]; exact (X2.out.below hb3).alloc _)
  have Y4 := Lib.hid (show Blk W4 32 w3.heap.size #[.int .i64 E, .int .i64 P] by rw [← hW4]; exact Blk.new _ _ _)
  have B4 := Lib.hid (show Below w.heap.size w W4 by rw [← hW4]; exact below_next (below_next B2.out hb3) (wbox _ _))
  go_wp2_with fail
  clear hW4 hb3
  refine (suse_any a len cap ps W4 (H.out.below B4.out)).mono ?_
  rintro z w5 ⟨v, n, d, rfl, hr, hlo, heq, hb5⟩
  obtain ⟨an, ln, cn, ad, ld, cd, rfl, hld⟩ := lo_den hr hlo.2.1
  obtain ⟨W6, hW6⟩ : ∃ W6, w5.alloc (.cells #[.slice an ln cn, .slice ad ld cd] 58) = W6 := ⟨_, rfl⟩
  have BX := Lib.hid (show Below W4.heap.size W4 W6 by rw [← hW6]; exact below_next hb5 (wbox _ _))
  have X6 := Lib.hid (X4.out.below BX.out)
  have Y6 := Lib.hid (Y4.out.below BX.out)
  have Z6 := Lib.hid (show Blk W6 58 w5.heap.size #[.slice an ln cn, .slice ad ld cd] by rw [← hW6]; exact Blk.new _ _ _)
  have B6 := Lib.hid (below_next B4.out BX.out)
  have U6 := Lib.hid (show Rat W6 0 20 (.agg #[.slice an ln cn, .slice ad ld cd]) n d by rw [← hW6]; exact hr.below (wbox _ _))
  have EQ := Lib.hid heq
  have H6 := Lib.hid (H.out.below B6.out)
  obtain ⟨g1, hg1⟩ : ∃ g, w1.heap.size = g := ⟨_, rfl⟩
  obtain ⟨g2, hg2⟩ : ∃ g, w3.heap.size = g := ⟨_, rfl⟩
  have z1 := Z6.out.cell 1
  simp at z1
  go_upto_if 23 with fail
  clear z1
  obtain ⟨g3, hg3⟩ : ∃ g, w5.heap.size = g := ⟨_, rfl⟩
  rw [hg1] at X6
  rw [hg2] at Y6
  rw [hg3] at Z6 ⊢
  clear hW6 hb5 hr hlo heq hg1 hg2 hg3
  have t1 : ((ld : Int) == 0) = false := by simp; omega
  have t2 : (ld == 0) = false := by simp; omega
  go_upto_region 6 with fail
  have SA := Lib.hid (show ∀ W, Below W6.heap.size W6 W → W.cell? ⟨g1, 0, none⟩ = some (.int .i64 E) ∧ W.cell? ⟨g1, 1, none⟩ = some (.int .i64 P) ∧ W.cell? ⟨g2, 0, none⟩ = some (.int .i64 E) ∧ W.cell? ⟨g2, 1, none⟩ = some (.int .i64 P) ∧ W.cell? ⟨g3, 0, none⟩ = some (.slice an ln cn) ∧ W.cell? ⟨g3, 1, none⟩ = some (.slice ad ld cd) from fun W hb => ⟨(X6.out.below hb).cell 0, (X6.out.below hb).cell 1, (Y6.out.below hb).cell 0, (Y6.out.below hb).cell 1, (Z6.out.below hb).cell 0, (Z6.out.below hb).cell 1⟩)
  have BL := Lib.hid (show Below W6.heap.size W6 W6.drew from (Below.refl _ _).drew)
  have e1 : (E == E) = true := by simp
  have e2 : (P == P) = true := by simp
  have e3 : (er == er) = true := by simp
  have e4 : (b == b) = true := by simp
  go_region_held3 (fun W => W.cell? ⟨g1, 0, none⟩ = some (.int .i64 E) ∧ W.cell? ⟨g1, 1, none⟩ = some (.int .i64 P) ∧ W.cell? ⟨g2, 0, none⟩ = some (.int .i64 E) ∧ W.cell? ⟨g2, 1, none⟩ = some (.int .i64 P) ∧ W.cell? ⟨g3, 0, none⟩ = some (.slice an ln cn) ∧ W.cell? ⟨g3, 1, none⟩ = some (.slice ad ld cd))
    (exact SA.out _ BL.out)
    (first
      | (go_at_call 33; ((with_reducible refine (scheck_any a len cap ps _ (H6.out.below BL.out) b HB.out).mono ?_)); rintro e w7 ⟨rfl, hb⟩; have BL := Lib.hid (below_next BL.out hb); clear hb)
      | (go_at_call 35; ((with_reducible refine (r14check_any a len cap ps _ (H6.out.below BL.out) b HB.out).mono ?_)); rintro e w8 ⟨rfl, hb⟩; have BL := Lib.hid (below_next BL.out hb); clear hb)
      | (go_at_call 27; ((with_reducible refine (r14use_any a len cap ps _ (H6.out.below BL.out)).mono ?_)); rintro e w9 ⟨v9, rfl, hr9, hb⟩; have BL := Lib.hid (below_next BL.out hb); have R9 := Lib.hid hr9; clear hb hr9)
      | (go_at_call 29; ((with_reducible refine (rcmp_any _ v9 n d _ _ 0 0 20 20 _ (U6.out.below BL.out) R9.out (by omega)).mono ?_)); rintro e w10 ⟨rfl, hb⟩; have BL := Lib.hid (below_next BL.out hb); clear hb; rw [EQ.out, cmpI_eq rfl]))
  all_goals
    go_wp2
    go_ret
    exact ⟨rfl, below_next B6.out BL.out⟩
theorem RowP.take {W : World} {a : Option Addr} {len cap m : Nat} {ps : List (Int × Int)} (h : RowP W a len cap ps) (hm : m ≤ len) : RowP W a m cap (ps.take m) := by
  refine ⟨by rw [List.length_take, h.1]; omega, by have := h.2.1; omega, h.2.2.1, h.2.2.2.1, fun i hi => ?_⟩
  obtain ⟨b, off, ha, h1, h2⟩ := h.2.2.2.2 i (by omega)
  refine ⟨b, off, ha, ?_⟩
  rw [List.getD_eq_getElem?_getD, List.getElem?_take_of_lt hi, ← List.getD_eq_getElem?_getD]
  exact ⟨h1, h2⟩
set_option maxHeartbeats 2000000 in
theorem stells_walk (a : Option Addr) (len cap : Nat) (ps : List (Int × Int)) (a1 : Option Addr) (len1 cap1 : Nat) (qs : List (Int × Int)) (w : World) (h : RowP w a len cap ps) (g : RowP w a1 len1 cap1 qs) :
    Calls Try.prog 3 #[.slice a len cap, .slice a1 len1 cap1] w fun e w' => e = .returned (.bool true) ∧ Below w.heap.size w w' := by
  have H := Lib.hid h
  have G := Lib.hid g
  have ⟨k1, k2⟩ := g.cap_le
  clear h g
  by_cases hl : 9 < len1
  · have t1 : decide (9 < len1) = true := by simp; omega
    have t2 : decide (9 < (len1 : Int)) = true := by simp; omega
    have t3 : (9 : Int) ≤ (cap1 : Int) := by omega
    have t4 : 9 ≤ cap1 := by omega
    have G9 := Lib.hid (G.out.take (m := 9) (by omega))
    go_enter Try.func3, Try.ntmps3
    go_wp2_with fail
    refine (awake14_any w).mono ?_
    rintro e w1 ⟨rfl, hb⟩
    have B1 := Lib.hid hb
    clear hb
    go_wp2_with fail
    refine (made14_any a len cap ps w1 (H.out.below B1.out)).mono ?_
    rintro e w2 ⟨am, lm, cm, rfl, hr, hb, _⟩
    have RM := Lib.hid hr
    have B2 := Lib.hid (below_next B1.out hb)
    clear hb hr
    go_wp2_with fail
    refine (tells14_any am lm cm _ w2 RM.out).mono ?_
    rintro e w3 ⟨rfl, hb⟩
    have B3 := Lib.hid (below_next B2.out hb)
    clear hb
    go_wp2_with fail
    refine (tells14_any a1 9 cap1 _ w3 (G9.out.below B3.out)).mono ?_
    rintro e w4 ⟨rfl, hb⟩
    have B4 := Lib.hid (below_next B3.out hb)
    clear hb
    go_wp2
    go_ret
    exact ⟨rfl, B4.out⟩
  · have t1 : decide (9 < len1) = false := by simp; omega
    have t2 : decide (9 < (len1 : Int)) = false := by simp; omega
    go_enter Try.func3, Try.ntmps3
    go_wp2_with fail
    refine (awake14_any w).mono ?_
    rintro e w1 ⟨rfl, hb⟩
    have B1 := Lib.hid hb
    clear hb
    go_wp2_with fail
    refine (made14_any a len cap ps w1 (H.out.below B1.out)).mono ?_
    rintro e w2 ⟨am, lm, cm, rfl, hr, hb, _⟩
    have RM := Lib.hid hr
    have B2 := Lib.hid (below_next B1.out hb)
    clear hb hr
    go_wp2_with fail
    refine (tells14_any am lm cm _ w2 RM.out).mono ?_
    rintro e w3 ⟨rfl, hb⟩
    have B3 := Lib.hid (below_next B2.out hb)
    clear hb
    go_wp2_with fail
    refine (tells14_any a1 len1 cap1 _ w3 (G.out.below B3.out)).mono ?_
    rintro e w4 ⟨rfl, hb⟩
    have B4 := Lib.hid (below_next B3.out hb)
    clear hb
    go_wp2
    go_ret
    exact ⟨rfl, B4.out⟩
end Go.Proofs.Ytnlgophgglgneaa
