/-
  The walk of HoldNil, for a package hold that is as P12.1 to P12.3 say. (Written by wip/tools/gen_hn.py.)
-/
import Derived.Test.YtphlkpkbdnddlaaHj1
import Derived.Deep.CutBlock
namespace Go.Proofs.Ytphlkpkbdnddlaa
open Go.RowKit

theorem is_top {zs : List Int} (h : Digs 4294967296 zs) (ht : Top zs) : Is 4294967296 zs (val 4294967296 zs) := ⟨h, ht, rfl⟩
theorem top_pos {zs : List Int} (h : Digs 4294967296 zs) (ht : Top zs) (hn : zs ≠ []) : 0 < val 4294967296 zs := by
  have h0 := val_nonneg (B := 4294967296) (by omega) h
  rcases Int.lt_or_eq_of_le h0 with q | q
  · exact q
  · exact absurd (top_zero (by omega) h ht q.symm) hn
theorem nil_told {w w' : World} {e : Ending} (h : GivesLo w 2 0 1 e w') : ∃ an ln cn ad ld cd d, e = .returned (.agg #[.slice an ln cn, .slice ad ld cd]) ∧ Rat w' 0 2 (.agg #[.slice an ln cn, .slice ad ld cd]) 0 d ∧ ¬ ld = 0 ∧ Below w.heap.size w w' := by
  obtain ⟨v, n, d, rfl, hr, hlo, he, hb⟩ := h
  have n0 : n = 0 := by omega
  subst n0
  obtain ⟨an, ln, cn, zn, ad, ld, cd, zd, rfl, h1, h2, h3, h4, h5⟩ := id hr
  refine ⟨an, ln, cn, ad, ld, cd, d, rfl, hr, fun e => ?_, hb⟩
  have := is_some h4 hlo.2.1
  exact this (List.length_eq_zero_iff.mp (by rw [h3.len]; exact e))
theorem ratio_run (a b : Value) (w : World) : (Instr.field 27 (.agg #[a, b]) 1).run Try.prog w = .ok b w := by kernel_rfl
section
variable {Hp : World → Nat → (Nat → Prop) → (Nat → Prop) → Int → Int → List Hd → Prop}
set_option maxRecDepth 20000 in
set_option maxHeartbeats 8000000 in
theorem hnil_walk (ok : HoldOk Hp) (a0 : Option Addr) (len0 cap0 : Nat) (z0 : List Int) (a1 : Option Addr) (len1 cap1 : Nat) (z1 : List Int) (w : World) (h0 : Row .u32 w a0 len0 cap0 z0) (d0 : Digs 4294967296 z0) (h1 : Row .u32 w a1 len1 cap1 z1) (d1 : Digs 4294967296 z1) :
    Calls Try.prog 7 #[.slice a0 len0 cap0, .slice a1 len1 cap1] w fun e w' => e = .returned (.bool true) ∧ Below w.heap.size w w' := by
  have OK := Lib.hid ok
  have H0 := Lib.hid h0; have H1 := Lib.hid h1
  have D0 := Lib.hid d0; have D1 := Lib.hid d1
  have ⟨c1, c2⟩ := h0.cap_le
  have ⟨c3, c4⟩ := h1.cap_le
  clear h0 h1 d0 d1 ok
  have hfr := ratio_run
  go_enter Try.func7, Try.ntmps7
  go_upto_if 14 with fail
  go_cut [0] (fun s0 wx => ∃ (l0 : Nat) (y0 : List Int), s0 = .slice a0 l0 cap0 ∧ Row .u32 wx a0 l0 cap0 y0 ∧ Digs 4294967296 y0 ∧ l0 ≤ 3 ∧ l0 ≤ cap0 ∧ Below w.heap.size w wx)
  case first =>
    by_cases g : 3 < len0
    · have g1 : decide ((3 : Int) < (len0 : Int)) = true := by simp; omega
      have g2 : decide (3 < len0) = true := by simp; omega
      go_wp2
      go_meet
      exact ⟨3, _, rfl, H0.out.take (by omega), D0.out.take 3, by omega, by omega, Below.refl _ _⟩
    · have g1 : decide ((3 : Int) < (len0 : Int)) = false := by simp; omega
      have g2 : decide (3 < len0) = false := by simp; omega
      go_wp2
      go_meet
      exact ⟨len0, _, rfl, H0.out, D0.out, by omega, by omega, Below.refl _ _⟩
  case rest =>
    obtain ⟨l0, ya, rfl, hy0, hd0, l03, l0c, hbw⟩ := hcut
    have BW := Lib.hid hbw
    have H1 := Lib.hid (H1.out.below hbw)
    clear hbw
    have R0 := Lib.hid hy0; have E0 := Lib.hid hd0
    clear hy0 hd0 H0 D0
    go_upto_if 19 with fail
    go_cut [1] (fun s1 wx => ∃ (l1 : Nat) (y1 : List Int), s1 = .slice a1 l1 cap1 ∧ Row .u32 wx a1 l1 cap1 y1 ∧ Digs 4294967296 y1 ∧ l1 ≤ 3 ∧ l1 ≤ cap1 ∧ Row .u32 wx a0 l0 cap0 ya ∧ Below w.heap.size w wx)
    case first =>
      by_cases g : 3 < len1
      · have g1 : decide ((3 : Int) < (len1 : Int)) = true := by simp; omega
        have g2 : decide (3 < len1) = true := by simp; omega
        go_wp2
        go_meet
        exact ⟨3, _, rfl, H1.out.take (by omega), D1.out.take 3, by omega, by omega, R0.out, BW.out⟩
      · have g1 : decide ((3 : Int) < (len1 : Int)) = false := by simp; omega
        have g2 : decide (3 < len1) = false := by simp; omega
        go_wp2
        go_meet
        exact ⟨len1, _, rfl, H1.out, D1.out, by omega, by omega, R0.out, BW.out⟩
    case rest =>
      obtain ⟨l1, yb, rfl, hy1, hd1, l13, l1c, hy0, hbw⟩ := hcut
      have R0 := Lib.hid hy0; have R1 := Lib.hid hy1; have E1 := Lib.hid hd1
      have BW := Lib.hid hbw
      clear hy0 hy1 hd1 hbw H1 D1
      have BW0 := Lib.hid BW.out
      clear BW
      obtain ⟨w5, hw5⟩ : ∃ w5, wc.alloc (.cells #[.slice a0 l0 cap0, .slice a1 l1 cap1] 27) = w5 := ⟨_, rfl⟩
      obtain ⟨g5, hg5⟩ : ∃ g, wc.heap.size = g := ⟨_, rfl⟩
      have B := Lib.hid (show Below wc.heap.size wc w5 by rw [← hw5]; exact wbox _ _)
      have K5 := Lib.hid (show Blk w5 27 g5 #[.slice a0 l0 cap0, .slice a1 l1 cap1] by rw [← hw5, ← hg5]; exact Blk.new _ _ _)
      have x0 := K5.out.cell 0
      have x1 := K5.out.cell 1
      simp at x0 x1
      go_wp2_with fail
      (try rw [hw5]); (try rw [hg5])
      clear hw5
      by_cases hT : Top ya ∧ Top yb ∧ yb ≠ []
      · have HT := Lib.hid hT
        have RT := Lib.hid (show Rat w5 0 3 (.agg #[.slice a0 l0 cap0, .slice a1 l1 cap1]) (val 4294967296 ya) (val 4294967296 yb) from ⟨a0, l0, cap0, ya, a1, l1, cap1, yb, rfl, R0.out.below B.out, is_top E0.out hT.1, R1.out.below B.out, is_top E1.out hT.2.1, l03, l13, fresh0 _, fresh0 _⟩)
        have PD := Lib.hid (top_pos E1.out hT.2.1 hT.2.2)
        clear hT
        refine (hnew OK.out _ _ _ 3 0 _ RT.out (by omega) PD.out).mono ?_
        rintro e w6 ⟨g, rfl, hm⟩
        have hb := hm.below
        have K5 := Lib.hid (K5.out.below hb)
        have B := Lib.hid (below_next B.out hb)
        clear hb hm x0 x1
        have K8 := Lib.hid (Blk.new w6 39 #[.int .i64 1, .int .i64 2])
        have B := Lib.hid (below_next B.out (wbox w6 (.cells #[.int .i64 1, .int .i64 2] 39)))
        have K5 := Lib.hid (K5.out.alloc (.cells #[.int .i64 1, .int .i64 2] 39))
        go_wp2_with fail
        refine (OK.out.of__nil 1 _).mono ?_
        rintro e w7 ⟨rfl, hb⟩
        have A9 := Lib.hid (wbox2 w7 (.cells #[.int .i64 0, .int .i64 0] 39) (.cells #[.int .i64 0, .int .i64 0] 39))
        have B := Lib.hid (below_next (below_next B.out hb) A9.out)
        have K5 := Lib.hid ((K5.out.below hb).below A9.out)
        have K8 := Lib.hid ((K8.out.below hb).below A9.out)
        clear hb A9
        obtain ⟨g8, hg8⟩ : ∃ g, w6.heap.size = g := ⟨_, rfl⟩
        rw [hg8] at K8
        go_wp2_with fail
        try rw [hg8]
        refine (OK.out.held_nil _).mono ?_
        intro e wn hq
        obtain ⟨an, ln, cn, ad, ld, cd, d, rfl, hr, hl0, hb⟩ := nil_told hq
        have hl1 : ¬ (ld : Int) = 0 := by omega
        have hl2 : decide (ld = 0) = false := decide_eq_false hl0
        have hl3 : decide ((ld : Int) = 0) = false := decide_eq_false hl1
        have hl4 : ((ld : Int) == 0) = false := by simp; omega
        have hl5 : (ld == 0) = false := by simp; omega
        have RN := Lib.hid hr
        have B := Lib.hid (below_next B.out hb)
        have K5 := Lib.hid (K5.out.below hb)
        have K8 := Lib.hid (K8.out.below hb)
        clear hb hq hr
        have hk1 := hl1; have hk2 := hl2; have hk3 := hl3; have hk4 := hl4; have hk5 := hl5; have hk0 := hl0
        go_wp2_with fail
        try rw [hg8]
        refine (OK.out.left_nil _).mono ?_
        intro e wn hq
        obtain ⟨an, ln, cn, ad, ld, cd, d, rfl, hr, hl0, hb⟩ := nil_told hq
        have hl1 : ¬ (ld : Int) = 0 := by omega
        have hl2 : decide (ld = 0) = false := decide_eq_false hl0
        have hl3 : decide ((ld : Int) = 0) = false := decide_eq_false hl1
        have hl4 : ((ld : Int) == 0) = false := by simp; omega
        have hl5 : (ld == 0) = false := by simp; omega
        have RN := Lib.hid hr
        have B := Lib.hid (below_next B.out hb)
        have K5 := Lib.hid (K5.out.below hb)
        have K8 := Lib.hid (K8.out.below hb)
        clear hb hq hr
        have x0 := K5.out.cell 0
        have x1 := K5.out.cell 1
        simp at x0 x1
        have y0 := K8.out.cell 0
        have y1 := K8.out.cell 1
        simp at y0 y1
        go_wp2_with fail
        refine (awake12_any OK.out _).mono ?_
        rintro e wn ⟨rfl, hb⟩
        have B := Lib.hid (below_next B.out hb)
        have K5 := Lib.hid (K5.out.below hb)
        have K8 := Lib.hid (K8.out.below hb)
        clear hb x0 x1 y0 y1
        have x0 := K5.out.cell 0
        have x1 := K5.out.cell 1
        simp at x0 x1
        have y0 := K8.out.cell 0
        have y1 := K8.out.cell 1
        simp at y0 y1
        go_wp2_with fail
        refine (rcheck_any a0 l0 cap0 ya a1 l1 cap1 yb _ (R0.out.below B.out) (R1.out.below B.out) true ⟨fun _ => HT.out, fun _ => rfl⟩).mono ?_
        rintro e wn ⟨rfl, hb⟩
        have B := Lib.hid (below_next B.out hb)
        have K5 := Lib.hid (K5.out.below hb)
        have K8 := Lib.hid (K8.out.below hb)
        clear hb x0 x1 y0 y1
        have x0 := K5.out.cell 0
        have x1 := K5.out.cell 1
        simp at x0 x1
        have y0 := K8.out.cell 0
        have y1 := K8.out.cell 1
        simp at y0 y1
        go_wp2_with fail
        refine (OK.out.join_nil 1 1 2 _).mono ?_
        rintro e wn ⟨rfl, hb⟩
        have B := Lib.hid (below_next B.out hb)
        have K5 := Lib.hid (K5.out.below hb)
        have K8 := Lib.hid (K8.out.below hb)
        clear hb x0 x1 y0 y1
        have x0 := K5.out.cell 0
        have x1 := K5.out.cell 1
        simp at x0 x1
        have y0 := K8.out.cell 0
        have y1 := K8.out.cell 1
        simp at y0 y1
        go_wp2_with fail
        refine (OK.out.ask_nil 1 1 2 _).mono ?_
        rintro e wn ⟨rfl, hb⟩
        have B := Lib.hid (below_next B.out hb)
        have K5 := Lib.hid (K5.out.below hb)
        have K8 := Lib.hid (K8.out.below hb)
        clear hb x0 x1 y0 y1
        have x0 := K5.out.cell 0
        have x1 := K5.out.cell 1
        simp at x0 x1
        have y0 := K8.out.cell 0
        have y1 := K8.out.cell 1
        simp at y0 y1
        go_wp2_with fail
        refine (OK.out.settle_nil 1 _).mono ?_
        rintro e wn ⟨rfl, hb⟩
        have B := Lib.hid (below_next B.out hb)
        have K5 := Lib.hid (K5.out.below hb)
        have K8 := Lib.hid (K8.out.below hb)
        clear hb x0 x1 y0 y1
        have x0 := K5.out.cell 0
        have x1 := K5.out.cell 1
        simp at x0 x1
        have y0 := K8.out.cell 0
        have y1 := K8.out.cell 1
        simp at y0 y1
        go_wp2_with fail
        refine (OK.out.free_nil 1 _).mono ?_
        rintro e wn ⟨rfl, hb⟩
        have B := Lib.hid (below_next B.out hb)
        have K5 := Lib.hid (K5.out.below hb)
        have K8 := Lib.hid (K8.out.below hb)
        clear hb x0 x1 y0 y1
        have x0 := K5.out.cell 0
        have x1 := K5.out.cell 1
        simp at x0 x1
        have y0 := K8.out.cell 0
        have y1 := K8.out.cell 1
        simp at y0 y1
        go_wp2_with fail
        refine (OK.out.fits_nil 1 2 1 2 _).mono ?_
        rintro e wn ⟨rfl, hb⟩
        have B := Lib.hid (below_next B.out hb)
        have K5 := Lib.hid (K5.out.below hb)
        have K8 := Lib.hid (K8.out.below hb)
        clear hb x0 x1 y0 y1
        have x0 := K5.out.cell 0
        have x1 := K5.out.cell 1
        simp at x0 x1
        have y0 := K8.out.cell 0
        have y1 := K8.out.cell 1
        simp at y0 y1
        go_wp2_with fail
        refine (OK.out.len_nil _).mono ?_
        rintro e wn ⟨rfl, hb⟩
        have B := Lib.hid (below_next B.out hb)
        have K5 := Lib.hid (K5.out.below hb)
        have K8 := Lib.hid (K8.out.below hb)
        clear hb x0 x1 y0 y1
        have x0 := K5.out.cell 0
        have x1 := K5.out.cell 1
        simp at x0 x1
        have y0 := K8.out.cell 0
        have y1 := K8.out.cell 1
        simp at y0 y1
        go_wp2_with fail
        refine (OK.out.held_nil _).mono ?_
        intro e wn hq
        obtain ⟨an, ln, cn, ad, ld, cd, d, rfl, hr, hl0, hb⟩ := nil_told hq
        have RN := Lib.hid hr
        clear hr hq hl0
        have B := Lib.hid (below_next B.out hb)
        have K5 := Lib.hid (K5.out.below hb)
        have K8 := Lib.hid (K8.out.below hb)
        clear hb x0 x1 y0 y1
        have x0 := K5.out.cell 0
        have x1 := K5.out.cell 1
        simp at x0 x1
        have y0 := K8.out.cell 0
        have y1 := K8.out.cell 1
        simp at y0 y1
        go_wp2_with fail
        refine (one_any 0 1 _ (by omega) (by omega) (by omega) (by omega)).mono ?_
        rintro e wn ⟨v1, rfl, hr, hb⟩
        have R1_ := Lib.hid hr
        have RN := Lib.hid (RN.out.below hb)
        clear hr
        have B := Lib.hid (below_next B.out hb)
        have K5 := Lib.hid (K5.out.below hb)
        have K8 := Lib.hid (K8.out.below hb)
        clear hb x0 x1 y0 y1
        have x0 := K5.out.cell 0
        have x1 := K5.out.cell 1
        simp at x0 x1
        have y0 := K8.out.cell 0
        have y1 := K8.out.cell 1
        simp at y0 y1
        go_wp2_with fail
        refine (rcmp_any _ _ 0 d 0 1 0 _ 2 1 _ RN.out R1_.out (by omega)).mono ?_
        rintro e wn ⟨rfl, hb⟩
        rw [show cmpI (0 * 1) (0 * d) = 0 by unfold cmpI; rw [if_neg (by omega), if_neg (by omega)]]
        have B := Lib.hid (below_next B.out hb)
        have K5 := Lib.hid (K5.out.below hb)
        have K8 := Lib.hid (K8.out.below hb)
        clear hb x0 x1 y0 y1
        have x0 := K5.out.cell 0
        have x1 := K5.out.cell 1
        simp at x0 x1
        have y0 := K8.out.cell 0
        have y1 := K8.out.cell 1
        simp at y0 y1
        go_wp2_with fail
        refine (OK.out.left_nil _).mono ?_
        intro e wn hq
        obtain ⟨an, ln, cn, ad, ld, cd, d, rfl, hr, hl0, hb⟩ := nil_told hq
        have RN := Lib.hid hr
        clear hr hq hl0
        have B := Lib.hid (below_next B.out hb)
        have K5 := Lib.hid (K5.out.below hb)
        have K8 := Lib.hid (K8.out.below hb)
        clear hb x0 x1 y0 y1
        have x0 := K5.out.cell 0
        have x1 := K5.out.cell 1
        simp at x0 x1
        have y0 := K8.out.cell 0
        have y1 := K8.out.cell 1
        simp at y0 y1
        go_wp2_with fail
        refine (one_any 0 1 _ (by omega) (by omega) (by omega) (by omega)).mono ?_
        rintro e wn ⟨v1, rfl, hr, hb⟩
        have R1_ := Lib.hid hr
        have RN := Lib.hid (RN.out.below hb)
        clear hr
        have B := Lib.hid (below_next B.out hb)
        have K5 := Lib.hid (K5.out.below hb)
        have K8 := Lib.hid (K8.out.below hb)
        clear hb x0 x1 y0 y1
        have x0 := K5.out.cell 0
        have x1 := K5.out.cell 1
        simp at x0 x1
        have y0 := K8.out.cell 0
        have y1 := K8.out.cell 1
        simp at y0 y1
        go_wp2_with fail
        refine (rcmp_any _ _ 0 d 0 1 0 _ 2 1 _ RN.out R1_.out (by omega)).mono ?_
        rintro e wn ⟨rfl, hb⟩
        rw [show cmpI (0 * 1) (0 * d) = 0 by unfold cmpI; rw [if_neg (by omega), if_neg (by omega)]]
        have B := Lib.hid (below_next B.out hb)
        have K5 := Lib.hid (K5.out.below hb)
        have K8 := Lib.hid (K8.out.below hb)
        clear hb x0 x1 y0 y1
        have x0 := K5.out.cell 0
        have x1 := K5.out.cell 1
        simp at x0 x1
        have y0 := K8.out.cell 0
        have y1 := K8.out.cell 1
        simp at y0 y1
        go_wp2
        go_ret
        exact ⟨rfl, below_next BW0.out B.out⟩
      · have HT := Lib.hid hT
        refine (OK.out.new_no a0 l0 cap0 ya a1 l1 cap1 yb _ (R0.out.below B.out) (R1.out.below B.out) hT).mono ?_
        rintro e w6 ⟨rfl, hb⟩
        have K5 := Lib.hid (K5.out.below hb)
        have B := Lib.hid (below_next B.out hb)
        clear hb x0 x1 hT
        have K8 := Lib.hid (Blk.new w6 39 #[.int .i64 1, .int .i64 2])
        have B := Lib.hid (below_next B.out (wbox w6 (.cells #[.int .i64 1, .int .i64 2] 39)))
        have K5 := Lib.hid (K5.out.alloc (.cells #[.int .i64 1, .int .i64 2] 39))
        go_wp2_with fail
        refine (OK.out.of__nil 1 _).mono ?_
        rintro e w7 ⟨rfl, hb⟩
        have A9 := Lib.hid (wbox2 w7 (.cells #[.int .i64 0, .int .i64 0] 39) (.cells #[.int .i64 0, .int .i64 0] 39))
        have B := Lib.hid (below_next (below_next B.out hb) A9.out)
        have K5 := Lib.hid ((K5.out.below hb).below A9.out)
        have K8 := Lib.hid ((K8.out.below hb).below A9.out)
        clear hb A9
        obtain ⟨g8, hg8⟩ : ∃ g, w6.heap.size = g := ⟨_, rfl⟩
        rw [hg8] at K8
        go_wp2_with fail
        try rw [hg8]
        refine (OK.out.held_nil _).mono ?_
        intro e wn hq
        obtain ⟨an, ln, cn, ad, ld, cd, d, rfl, hr, hl0, hb⟩ := nil_told hq
        have hl1 : ¬ (ld : Int) = 0 := by omega
        have hl2 : decide (ld = 0) = false := decide_eq_false hl0
        have hl3 : decide ((ld : Int) = 0) = false := decide_eq_false hl1
        have hl4 : ((ld : Int) == 0) = false := by simp; omega
        have hl5 : (ld == 0) = false := by simp; omega
        have RN := Lib.hid hr
        have B := Lib.hid (below_next B.out hb)
        have K5 := Lib.hid (K5.out.below hb)
        have K8 := Lib.hid (K8.out.below hb)
        clear hb hq hr
        have hk1 := hl1; have hk2 := hl2; have hk3 := hl3; have hk4 := hl4; have hk5 := hl5; have hk0 := hl0
        go_wp2_with fail
        try rw [hg8]
        refine (OK.out.left_nil _).mono ?_
        intro e wn hq
        obtain ⟨an, ln, cn, ad, ld, cd, d, rfl, hr, hl0, hb⟩ := nil_told hq
        have hl1 : ¬ (ld : Int) = 0 := by omega
        have hl2 : decide (ld = 0) = false := decide_eq_false hl0
        have hl3 : decide ((ld : Int) = 0) = false := decide_eq_false hl1
        have hl4 : ((ld : Int) == 0) = false := by simp; omega
        have hl5 : (ld == 0) = false := by simp; omega
        have RN := Lib.hid hr
        have B := Lib.hid (below_next B.out hb)
        have K5 := Lib.hid (K5.out.below hb)
        have K8 := Lib.hid (K8.out.below hb)
        clear hb hq hr
        have x0 := K5.out.cell 0
        have x1 := K5.out.cell 1
        simp at x0 x1
        have y0 := K8.out.cell 0
        have y1 := K8.out.cell 1
        simp at y0 y1
        go_wp2_with fail
        refine (awake12_any OK.out _).mono ?_
        rintro e wn ⟨rfl, hb⟩
        have B := Lib.hid (below_next B.out hb)
        have K5 := Lib.hid (K5.out.below hb)
        have K8 := Lib.hid (K8.out.below hb)
        clear hb x0 x1 y0 y1
        have x0 := K5.out.cell 0
        have x1 := K5.out.cell 1
        simp at x0 x1
        have y0 := K8.out.cell 0
        have y1 := K8.out.cell 1
        simp at y0 y1
        go_wp2_with fail
        refine (rcheck_any a0 l0 cap0 ya a1 l1 cap1 yb _ (R0.out.below B.out) (R1.out.below B.out) false ⟨(fun h => by cases h), fun h => absurd h HT.out⟩).mono ?_
        rintro e wn ⟨rfl, hb⟩
        have B := Lib.hid (below_next B.out hb)
        have K5 := Lib.hid (K5.out.below hb)
        have K8 := Lib.hid (K8.out.below hb)
        clear hb x0 x1 y0 y1
        have x0 := K5.out.cell 0
        have x1 := K5.out.cell 1
        simp at x0 x1
        have y0 := K8.out.cell 0
        have y1 := K8.out.cell 1
        simp at y0 y1
        go_wp2_with fail
        refine (OK.out.join_nil 1 1 2 _).mono ?_
        rintro e wn ⟨rfl, hb⟩
        have B := Lib.hid (below_next B.out hb)
        have K5 := Lib.hid (K5.out.below hb)
        have K8 := Lib.hid (K8.out.below hb)
        clear hb x0 x1 y0 y1
        have x0 := K5.out.cell 0
        have x1 := K5.out.cell 1
        simp at x0 x1
        have y0 := K8.out.cell 0
        have y1 := K8.out.cell 1
        simp at y0 y1
        go_wp2_with fail
        refine (OK.out.ask_nil 1 1 2 _).mono ?_
        rintro e wn ⟨rfl, hb⟩
        have B := Lib.hid (below_next B.out hb)
        have K5 := Lib.hid (K5.out.below hb)
        have K8 := Lib.hid (K8.out.below hb)
        clear hb x0 x1 y0 y1
        have x0 := K5.out.cell 0
        have x1 := K5.out.cell 1
        simp at x0 x1
        have y0 := K8.out.cell 0
        have y1 := K8.out.cell 1
        simp at y0 y1
        go_wp2_with fail
        refine (OK.out.settle_nil 1 _).mono ?_
        rintro e wn ⟨rfl, hb⟩
        have B := Lib.hid (below_next B.out hb)
        have K5 := Lib.hid (K5.out.below hb)
        have K8 := Lib.hid (K8.out.below hb)
        clear hb x0 x1 y0 y1
        have x0 := K5.out.cell 0
        have x1 := K5.out.cell 1
        simp at x0 x1
        have y0 := K8.out.cell 0
        have y1 := K8.out.cell 1
        simp at y0 y1
        go_wp2_with fail
        refine (OK.out.free_nil 1 _).mono ?_
        rintro e wn ⟨rfl, hb⟩
        have B := Lib.hid (below_next B.out hb)
        have K5 := Lib.hid (K5.out.below hb)
        have K8 := Lib.hid (K8.out.below hb)
        clear hb x0 x1 y0 y1
        have x0 := K5.out.cell 0
        have x1 := K5.out.cell 1
        simp at x0 x1
        have y0 := K8.out.cell 0
        have y1 := K8.out.cell 1
        simp at y0 y1
        go_wp2_with fail
        refine (OK.out.fits_nil 1 2 1 2 _).mono ?_
        rintro e wn ⟨rfl, hb⟩
        have B := Lib.hid (below_next B.out hb)
        have K5 := Lib.hid (K5.out.below hb)
        have K8 := Lib.hid (K8.out.below hb)
        clear hb x0 x1 y0 y1
        have x0 := K5.out.cell 0
        have x1 := K5.out.cell 1
        simp at x0 x1
        have y0 := K8.out.cell 0
        have y1 := K8.out.cell 1
        simp at y0 y1
        go_wp2_with fail
        refine (OK.out.len_nil _).mono ?_
        rintro e wn ⟨rfl, hb⟩
        have B := Lib.hid (below_next B.out hb)
        have K5 := Lib.hid (K5.out.below hb)
        have K8 := Lib.hid (K8.out.below hb)
        clear hb x0 x1 y0 y1
        have x0 := K5.out.cell 0
        have x1 := K5.out.cell 1
        simp at x0 x1
        have y0 := K8.out.cell 0
        have y1 := K8.out.cell 1
        simp at y0 y1
        go_wp2_with fail
        refine (OK.out.held_nil _).mono ?_
        intro e wn hq
        obtain ⟨an, ln, cn, ad, ld, cd, d, rfl, hr, hl0, hb⟩ := nil_told hq
        have RN := Lib.hid hr
        clear hr hq hl0
        have B := Lib.hid (below_next B.out hb)
        have K5 := Lib.hid (K5.out.below hb)
        have K8 := Lib.hid (K8.out.below hb)
        clear hb x0 x1 y0 y1
        have x0 := K5.out.cell 0
        have x1 := K5.out.cell 1
        simp at x0 x1
        have y0 := K8.out.cell 0
        have y1 := K8.out.cell 1
        simp at y0 y1
        go_wp2_with fail
        refine (one_any 0 1 _ (by omega) (by omega) (by omega) (by omega)).mono ?_
        rintro e wn ⟨v1, rfl, hr, hb⟩
        have R1_ := Lib.hid hr
        have RN := Lib.hid (RN.out.below hb)
        clear hr
        have B := Lib.hid (below_next B.out hb)
        have K5 := Lib.hid (K5.out.below hb)
        have K8 := Lib.hid (K8.out.below hb)
        clear hb x0 x1 y0 y1
        have x0 := K5.out.cell 0
        have x1 := K5.out.cell 1
        simp at x0 x1
        have y0 := K8.out.cell 0
        have y1 := K8.out.cell 1
        simp at y0 y1
        go_wp2_with fail
        refine (rcmp_any _ _ 0 d 0 1 0 _ 2 1 _ RN.out R1_.out (by omega)).mono ?_
        rintro e wn ⟨rfl, hb⟩
        rw [show cmpI (0 * 1) (0 * d) = 0 by unfold cmpI; rw [if_neg (by omega), if_neg (by omega)]]
        have B := Lib.hid (below_next B.out hb)
        have K5 := Lib.hid (K5.out.below hb)
        have K8 := Lib.hid (K8.out.below hb)
        clear hb x0 x1 y0 y1
        have x0 := K5.out.cell 0
        have x1 := K5.out.cell 1
        simp at x0 x1
        have y0 := K8.out.cell 0
        have y1 := K8.out.cell 1
        simp at y0 y1
        go_wp2_with fail
        refine (OK.out.left_nil _).mono ?_
        intro e wn hq
        obtain ⟨an, ln, cn, ad, ld, cd, d, rfl, hr, hl0, hb⟩ := nil_told hq
        have RN := Lib.hid hr
        clear hr hq hl0
        have B := Lib.hid (below_next B.out hb)
        have K5 := Lib.hid (K5.out.below hb)
        have K8 := Lib.hid (K8.out.below hb)
        clear hb x0 x1 y0 y1
        have x0 := K5.out.cell 0
        have x1 := K5.out.cell 1
        simp at x0 x1
        have y0 := K8.out.cell 0
        have y1 := K8.out.cell 1
        simp at y0 y1
        go_wp2_with fail
        refine (one_any 0 1 _ (by omega) (by omega) (by omega) (by omega)).mono ?_
        rintro e wn ⟨v1, rfl, hr, hb⟩
        have R1_ := Lib.hid hr
        have RN := Lib.hid (RN.out.below hb)
        clear hr
        have B := Lib.hid (below_next B.out hb)
        have K5 := Lib.hid (K5.out.below hb)
        have K8 := Lib.hid (K8.out.below hb)
        clear hb x0 x1 y0 y1
        have x0 := K5.out.cell 0
        have x1 := K5.out.cell 1
        simp at x0 x1
        have y0 := K8.out.cell 0
        have y1 := K8.out.cell 1
        simp at y0 y1
        go_wp2_with fail
        refine (rcmp_any _ _ 0 d 0 1 0 _ 2 1 _ RN.out R1_.out (by omega)).mono ?_
        rintro e wn ⟨rfl, hb⟩
        rw [show cmpI (0 * 1) (0 * d) = 0 by unfold cmpI; rw [if_neg (by omega), if_neg (by omega)]]
        have B := Lib.hid (below_next B.out hb)
        have K5 := Lib.hid (K5.out.below hb)
        have K8 := Lib.hid (K8.out.below hb)
        clear hb x0 x1 y0 y1
        have x0 := K5.out.cell 0
        have x1 := K5.out.cell 1
        simp at x0 x1
        have y0 := K8.out.cell 0
        have y1 := K8.out.cell 1
        simp at y0 y1
        go_wp2
        go_ret
        exact ⟨rfl, below_next BW0.out B.out⟩
end
end Go.Proofs.Ytphlkpkbdnddlaa
