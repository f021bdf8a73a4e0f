/-
  Package prio: what overlaps and Less give back: contracts.
-/
import Derived.Test.YtkiolkceaibmgaaEn4
import Derived.Deep.DeepCutAuto
import Derived.Deep.RegionHeld3
namespace Go.Proofs.Ytkiolkceaibmgaa
open Go.RowKit

theorem pover_at (i r d b g : Int) (q : Bool) (w : World) (h : (b == 1) = q) : Calls Try.prog 27 #[.agg #[.int .i64 i, .int .i64 r, .int .i64 d, .int .i64 b, .int .i64 g]] w fun e w' => e = .returned (.bool q) ∧ Below w.heap.size w w' := by
  subst h
  have B2 := Lib.hid (wbox w (Obj.cells #[.int .i64 i, .int .i64 r, .int .i64 d, .int .i64 b, .int .i64 g] 25))
  go_enter Try.func27, Try.ntmps27
  go_wp2
  go_ret
  exact ⟨rfl, B2.out⟩
/-- two subtasks, each in a box of its own, beside the boxes of two entries -/
def Boxes (w : World) (a b : Ent) (s t : Value) (W : World) : Prop := ∃ g h, s = .pointer (some ⟨g, 0, none⟩) ∧ t = .pointer (some ⟨h, 0, none⟩) ∧ Blk W 25 g #[.int .i64 a.idx, .int .i64 a.rel, .int .i64 a.dl, .int .i64 a.bit, .int .i64 a.grp] ∧ Blk W 25 h #[.int .i64 b.idx, .int .i64 b.rel, .int .i64 b.dl, .int .i64 b.bit, .int .i64 b.grp] ∧ Blk W 27 w.heap.size #[.int .i64 a.id, .int .i64 a.idx, .int .i64 a.rel, .int .i64 a.dl, .int .i64 a.bit, .int .i64 a.grp] ∧ Blk W 27 (w.heap.size + 1) #[.int .i64 b.id, .int .i64 b.idx, .int .i64 b.rel, .int .i64 b.dl, .int .i64 b.bit, .int .i64 b.grp] ∧ Below w.heap.size w W
theorem Blk.by {W : World} {T : TypeId} {n : Nat} {cs : Array Value} (h : W.heap.size = n) : Blk (W.alloc (.cells cs T)) T n cs := h ▸ Blk.new W T cs
theorem boxes_one (w : World) (a b : Ent) : Boxes w a b (.pointer (some ⟨w.heap.size + 1 + 1, 0, none⟩)) (.pointer (some ⟨w.heap.size + 1 + 1 + 1, 0, none⟩)) ((((w.alloc (.cells #[.int .i64 a.id, .int .i64 a.idx, .int .i64 a.rel, .int .i64 a.dl, .int .i64 a.bit, .int .i64 a.grp] 27)).alloc (.cells #[.int .i64 b.id, .int .i64 b.idx, .int .i64 b.rel, .int .i64 b.dl, .int .i64 b.bit, .int .i64 b.grp] 27)).alloc (.cells #[.int .i64 a.idx, .int .i64 a.rel, .int .i64 a.dl, .int .i64 a.bit, .int .i64 a.grp] 25)).alloc (.cells #[.int .i64 b.idx, .int .i64 b.rel, .int .i64 b.dl, .int .i64 b.bit, .int .i64 b.grp] 25)).drew :=
  ⟨_, _, rfl, rfl, ((Blk.by (by simp)).alloc _).drew, (Blk.by (by simp)).drew, ((((Blk.new w _ _).alloc _).alloc _).alloc _).drew, (((Blk.new2 w _ _ _).alloc _).alloc _).drew, (below_next (wbox2 _ _ _) (wbox2 _ _ _)).drew⟩
theorem boxes_two (w : World) (a b : Ent) : Boxes w a b (.pointer (some ⟨w.heap.size + 1 + 1 + 1, 0, none⟩)) (.pointer (some ⟨w.heap.size + 1 + 1, 0, none⟩)) ((((w.alloc (.cells #[.int .i64 a.id, .int .i64 a.idx, .int .i64 a.rel, .int .i64 a.dl, .int .i64 a.bit, .int .i64 a.grp] 27)).alloc (.cells #[.int .i64 b.id, .int .i64 b.idx, .int .i64 b.rel, .int .i64 b.dl, .int .i64 b.bit, .int .i64 b.grp] 27)).alloc (.cells #[.int .i64 b.idx, .int .i64 b.rel, .int .i64 b.dl, .int .i64 b.bit, .int .i64 b.grp] 25)).alloc (.cells #[.int .i64 a.idx, .int .i64 a.rel, .int .i64 a.dl, .int .i64 a.bit, .int .i64 a.grp] 25)).drew :=
  ⟨_, _, rfl, rfl, (Blk.by (by simp)).drew, ((Blk.by (by simp)).alloc _).drew, ((((Blk.new w _ _).alloc _).alloc _).alloc _).drew, (((Blk.new2 w _ _ _).alloc _).alloc _).drew, (below_next (wbox2 _ _ _) (wbox2 _ _ _)).drew⟩
set_option maxHeartbeats 4000000 in
theorem pless_any (a b : Ent) (w : World) : Calls Try.prog 18 #[.agg #[.int .i64 a.id, .int .i64 a.idx, .int .i64 a.rel, .int .i64 a.dl, .int .i64 a.bit, .int .i64 a.grp], .agg #[.int .i64 b.id, .int .i64 b.idx, .int .i64 b.rel, .int .i64 b.dl, .int .i64 b.bit, .int .i64 b.grp]] w fun e w' => e = .returned (.bool (lessB a b)) ∧ Below w.heap.size w w' := by
  have B2 := Lib.hid (below_next (wbox w (Obj.cells #[.int .i64 a.id, .int .i64 a.idx, .int .i64 a.rel, .int .i64 a.dl, .int .i64 a.bit, .int .i64 a.grp] 27)) (wbox _ (Obj.cells #[.int .i64 b.id, .int .i64 b.idx, .int .i64 b.rel, .int .i64 b.dl, .int .i64 b.bit, .int .i64 b.grp] 27)))
  go_enter Try.func18, Try.ntmps18
  go_upto_region 1 with fail
  go_cut [5, 6] (fun s5 s6 wx => Boxes w a b s5 s6 wx)
  case first =>
    go_region_held3 (fun w' => w'.cell? ⟨w.heap.size, 0, none⟩ = some (.int .i64 a.id) ∧ w'.cell? ⟨w.heap.size, 1, none⟩ = some (.int .i64 a.idx) ∧ w'.cell? ⟨w.heap.size, 2, none⟩ = some (.int .i64 a.rel) ∧ w'.cell? ⟨w.heap.size, 3, none⟩ = some (.int .i64 a.dl) ∧ w'.cell? ⟨w.heap.size, 4, none⟩ = some (.int .i64 a.bit) ∧ w'.cell? ⟨w.heap.size, 5, none⟩ = some (.int .i64 a.grp) ∧ w'.cell? ⟨w.heap.size + 1, 0, none⟩ = some (.int .i64 b.id) ∧ w'.cell? ⟨w.heap.size + 1, 1, none⟩ = some (.int .i64 b.idx) ∧ w'.cell? ⟨w.heap.size + 1, 2, none⟩ = some (.int .i64 b.rel) ∧ w'.cell? ⟨w.heap.size + 1, 3, none⟩ = some (.int .i64 b.dl) ∧ w'.cell? ⟨w.heap.size + 1, 4, none⟩ = some (.int .i64 b.bit) ∧ w'.cell? ⟨w.heap.size + 1, 5, none⟩ = some (.int .i64 b.grp))
      (go_keep)
      (fail)
    all_goals
      go_wp2_with fail
      go_meet
    · exact boxes_one w a b
    · exact boxes_two w a b
  case rest =>
    obtain ⟨g, h, rfl, rfl, hg, hh, ha, hb, hB⟩ := hcut
    have G := Lib.hid hg
    have H := Lib.hid hh
    have A := Lib.hid ha
    have B := Lib.hid hb
    have BB := Lib.hid hB
    clear hg hh ha hb hB B2
    by_cases e1 : a.dl = b.dl
    · have t1 : (a.dl != b.dl) = false := by simp [e1]
      obtain ⟨x, hx⟩ : ∃ x, (a.bit == 1) = x := ⟨_, rfl⟩
      obtain ⟨y, hy⟩ : ∃ y, (b.bit == 1) = y := ⟨_, rfl⟩
      have X := Lib.hid hx
      have Y := Lib.hid hy
      have E1 := Lib.hid e1
      clear hx hy e1
      have g0 : _ = some _ := G.out.cell 0
      have g1 : _ = some _ := G.out.cell 1
      have g2 : _ = some _ := G.out.cell 2
      have g3 : _ = some _ := G.out.cell 3
      have g4 : _ = some _ := G.out.cell 4
      have h0 : _ = some _ := H.out.cell 0
      have h1 : _ = some _ := H.out.cell 1
      have h2 : _ = some _ := H.out.cell 2
      have h3 : _ = some _ := H.out.cell 3
      have h4 : _ = some _ := H.out.cell 4
      have a0 : _ = some _ := A.out.cell 0
      have b0 : _ = some _ := B.out.cell 0
      go_wp2_with fail
      clear g0 h0 g1 h1 g2 h2 g3 h3 g4 h4 a0 b0
      have G := Lib.hid G.out.drew
      have H := Lib.hid H.out.drew
      have A := Lib.hid A.out.drew
      have B := Lib.hid B.out.drew
      have BB := Lib.hid BB.out.drew
      go_region_held3 (fun W => W.cell? ⟨g, 0, none⟩ = some (.int .i64 a.idx) ∧ W.cell? ⟨g, 1, none⟩ = some (.int .i64 a.rel) ∧ W.cell? ⟨g, 2, none⟩ = some (.int .i64 a.dl) ∧ W.cell? ⟨g, 3, none⟩ = some (.int .i64 a.bit) ∧ W.cell? ⟨g, 4, none⟩ = some (.int .i64 a.grp) ∧ W.cell? ⟨h, 0, none⟩ = some (.int .i64 b.idx) ∧ W.cell? ⟨h, 1, none⟩ = some (.int .i64 b.rel) ∧ W.cell? ⟨h, 2, none⟩ = some (.int .i64 b.dl) ∧ W.cell? ⟨h, 3, none⟩ = some (.int .i64 b.bit) ∧ W.cell? ⟨h, 4, none⟩ = some (.int .i64 b.grp))
        (exact ⟨G.out.cell 0, G.out.cell 1, G.out.cell 2, G.out.cell 3, G.out.cell 4, H.out.cell 0, H.out.cell 1, H.out.cell 2, H.out.cell 3, H.out.cell 4⟩)
        (first | (go_at_call 27; (with_reducible refine (pover_at a.idx a.rel a.dl a.bit a.grp x _ X.out).mono ?_); rintro e w4 ⟨rfl, hb⟩; have G := Lib.hid (G.out.below hb); have H := Lib.hid (H.out.below hb); have A := Lib.hid (A.out.below hb); have B := Lib.hid (B.out.below hb); have BB := Lib.hid (below_next BB.out hb); clear hb) | (go_at_call 27; (with_reducible refine (pover_at b.idx b.rel b.dl b.bit b.grp y _ Y.out).mono ?_); rintro e w4 ⟨rfl, hb⟩; have G := Lib.hid (G.out.below hb); have H := Lib.hid (H.out.below hb); have A := Lib.hid (A.out.below hb); have B := Lib.hid (B.out.below hb); have BB := Lib.hid (below_next BB.out hb); clear hb))
      all_goals
        have g0 : _ = some _ := G.out.cell 0
        have g1 : _ = some _ := G.out.cell 1
        have g2 : _ = some _ := G.out.cell 2
        have g3 : _ = some _ := G.out.cell 3
        have g4 : _ = some _ := G.out.cell 4
        have h0 : _ = some _ := H.out.cell 0
        have h1 : _ = some _ := H.out.cell 1
        have h2 : _ = some _ := H.out.cell 2
        have h3 : _ = some _ := H.out.cell 3
        have h4 : _ = some _ := H.out.cell 4
        have a0 : _ = some _ := A.out.cell 0
        have b0 : _ = some _ := B.out.cell 0
        cases x with
        | false =>
          cases y with
          | false =>
            have V := Lib.hid (show decide (a.id < b.id) = lessB a b by have := X.out; have := Y.out; have := E1.out; simp at *; unfold lessB Ahead k1 k2; simp [*])
            go_wp2_with ((go_at_call 27; (with_reducible refine (pover_at a.idx a.rel a.dl a.bit a.grp false _ X.out).mono ?_); rintro e w4 ⟨rfl, hb⟩; have G := Lib.hid (G.out.below hb); have H := Lib.hid (H.out.below hb); have A := Lib.hid (A.out.below hb); have B := Lib.hid (B.out.below hb); have BB := Lib.hid (below_next BB.out hb); clear hb; have g4 : _ = some _ := G.out.cell 4; have h4 : _ = some _ := H.out.cell 4; have a0 : _ = some _ := A.out.cell 0; have b0 : _ = some _ := B.out.cell 0))
            go_ret
            exact ⟨ret_b V.out, BB.out⟩
          | true =>
            have V := Lib.hid (show false = lessB a b by have := X.out; have := Y.out; have := E1.out; simp at *; unfold lessB Ahead k1 k2; simp [*])
            go_wp2_with ((go_at_call 27; (with_reducible refine (pover_at a.idx a.rel a.dl a.bit a.grp false _ X.out).mono ?_); rintro e w4 ⟨rfl, hb⟩; have G := Lib.hid (G.out.below hb); have H := Lib.hid (H.out.below hb); have A := Lib.hid (A.out.below hb); have B := Lib.hid (B.out.below hb); have BB := Lib.hid (below_next BB.out hb); clear hb; have g4 : _ = some _ := G.out.cell 4; have h4 : _ = some _ := H.out.cell 4; have a0 : _ = some _ := A.out.cell 0; have b0 : _ = some _ := B.out.cell 0))
            go_ret
            exact ⟨ret_b V.out, BB.out⟩
        | true =>
          cases y with
          | false =>
            have V := Lib.hid (show true = lessB a b by have := X.out; have := Y.out; have := E1.out; simp at *; unfold lessB Ahead k1 k2; simp [*])
            go_wp2_with ((go_at_call 27; (with_reducible refine (pover_at a.idx a.rel a.dl a.bit a.grp true _ X.out).mono ?_); rintro e w4 ⟨rfl, hb⟩; have G := Lib.hid (G.out.below hb); have H := Lib.hid (H.out.below hb); have A := Lib.hid (A.out.below hb); have B := Lib.hid (B.out.below hb); have BB := Lib.hid (below_next BB.out hb); clear hb; have g4 : _ = some _ := G.out.cell 4; have h4 : _ = some _ := H.out.cell 4; have a0 : _ = some _ := A.out.cell 0; have b0 : _ = some _ := B.out.cell 0))
            go_ret
            exact ⟨ret_b V.out, BB.out⟩
          | true =>
            by_cases e4 : a.grp = b.grp
            · have t4 : (a.grp != b.grp) = false := by simp [e4]
              have V := Lib.hid (show decide (a.id < b.id) = lessB a b by have := X.out; have := Y.out; have := E1.out; clear t4; simp at *; unfold lessB Ahead k1 k2; simp [*])
              clear e4
              go_wp2_with ((go_at_call 27; (with_reducible refine (pover_at a.idx a.rel a.dl a.bit a.grp true _ X.out).mono ?_); rintro e w4 ⟨rfl, hb⟩; have G := Lib.hid (G.out.below hb); have H := Lib.hid (H.out.below hb); have A := Lib.hid (A.out.below hb); have B := Lib.hid (B.out.below hb); have BB := Lib.hid (below_next BB.out hb); clear hb; have g4 : _ = some _ := G.out.cell 4; have h4 : _ = some _ := H.out.cell 4; have a0 : _ = some _ := A.out.cell 0; have b0 : _ = some _ := B.out.cell 0))
              go_ret
              exact ⟨ret_b V.out, BB.out⟩
            · have t4 : (a.grp != b.grp) = true := by simp [e4]
              have V := Lib.hid (show decide (b.grp < a.grp) = lessB a b by have h2 := X.out; have h3 := Y.out; have h1 := E1.out; simp at h2 h3; unfold lessB Ahead k1 k2; simp only [h1, h2, h3, if_pos]; simp; omega)
              clear e4
              go_wp2_with ((go_at_call 27; (with_reducible refine (pover_at a.idx a.rel a.dl a.bit a.grp true _ X.out).mono ?_); rintro e w4 ⟨rfl, hb⟩; have G := Lib.hid (G.out.below hb); have H := Lib.hid (H.out.below hb); have A := Lib.hid (A.out.below hb); have B := Lib.hid (B.out.below hb); have BB := Lib.hid (below_next BB.out hb); clear hb; have g4 : _ = some _ := G.out.cell 4; have h4 : _ = some _ := H.out.cell 4; have a0 : _ = some _ := A.out.cell 0; have b0 : _ = some _ := B.out.cell 0))
              go_ret
              exact ⟨ret_b V.out, BB.out⟩
    · have t1 : (a.dl != b.dl) = true := by simp [e1]
      have V := Lib.hid (show decide (a.dl < b.dl) = lessB a b by unfold lessB Ahead; simp [e1])
      clear e1
      have g0 : _ = some _ := G.out.cell 0
      have g1 : _ = some _ := G.out.cell 1
      have g2 : _ = some _ := G.out.cell 2
      have g3 : _ = some _ := G.out.cell 3
      have g4 : _ = some _ := G.out.cell 4
      have h0 : _ = some _ := H.out.cell 0
      have h1 : _ = some _ := H.out.cell 1
      have h2 : _ = some _ := H.out.cell 2
      have h3 : _ = some _ := H.out.cell 3
      have h4 : _ = some _ := H.out.cell 4
      have a0 : _ = some _ := A.out.cell 0
      have b0 : _ = some _ := B.out.cell 0
      go_wp2
      go_ret
      exact ⟨ret_b V.out, BB.out⟩
end Go.Proofs.Ytkiolkceaibmgaa
