/-
  The walk of the law PrioOrder.
-/
import Derived.Test.YtkiolkceaibmgaaPr2
namespace Go.Proofs.Ytkiolkceaibmgaa
open Go.RowKit

theorem box6 {W : World} {T : TypeId} {g : Nat} {u v x y z q : Value} (h : Blk W T g #[u, v, x, y, z, q]) :
    W.cell? ⟨g, 0, none⟩ = some u ∧ W.cell? ⟨g, 1, none⟩ = some v ∧ W.cell? ⟨g, 2, none⟩ = some x ∧ W.cell? ⟨g, 3, none⟩ = some y ∧ W.cell? ⟨g, 4, none⟩ = some z ∧ W.cell? ⟨g, 5, none⟩ = some q :=
  ⟨h.cell 0, h.cell 1, h.cell 2, h.cell 3, h.cell 4, h.cell 5⟩
theorem and12 {a b c d e f g h i j k l : Prop} (x : a ∧ b ∧ c ∧ d ∧ e ∧ f) (y : g ∧ h ∧ i ∧ j ∧ k ∧ l) : a ∧ b ∧ c ∧ d ∧ e ∧ f ∧ g ∧ h ∧ i ∧ j ∧ k ∧ l := ⟨x.1, x.2.1, x.2.2.1, x.2.2.2.1, x.2.2.2.2.1, x.2.2.2.2.2, y⟩
set_option maxRecDepth 20000 in
set_option maxHeartbeats 4000000 in
theorem order_walk (a b c : Ent) (w : World) : Calls Try.prog 4 #[.agg #[.int .i64 a.id, .int .i64 a.idx, .int .i64 a.rel, .int .i64 a.dl, .int .i64 a.bit, .int .i64 a.grp], .agg #[.int .i64 b.id, .int .i64 b.idx, .int .i64 b.rel, .int .i64 b.dl, .int .i64 b.bit, .int .i64 b.grp], .agg #[.int .i64 c.id, .int .i64 c.idx, .int .i64 c.rel, .int .i64 c.dl, .int .i64 c.bit, .int .i64 c.grp]] w fun e w' => e = .returned (.bool true) ∧ Below w.heap.size w w' := by
  obtain ⟨p, hp⟩ : ∃ p, lessB a b = p := ⟨_, rfl⟩
  obtain ⟨q, hq⟩ : ∃ q, lessB b a = q := ⟨_, rfl⟩
  obtain ⟨r, hr⟩ : ∃ r, lessB b c = r := ⟨_, rfl⟩
  obtain ⟨d, hd⟩ : ∃ d, (a.id != b.id) = d := ⟨_, rfl⟩
  have f1 : p = true → q = false := fun e => by
    rw [← hq]; exact lessB_no (ahead_asym (lessB_iff.mp (hp.trans e)))
  have f2 : d = true → p = false → q = true := fun e1 e2 => by
    have ne : a.id ≠ b.id := by rw [← hd] at e1; simpa using e1
    rw [← hq]
    rcases ahead_one ne with h | h
    · rw [lessB_yes h] at hp; rw [← hp] at e2; cases e2
    · exact lessB_yes h
  have HP := Lib.hid hp; have HQ := Lib.hid hq; have HR := Lib.hid hr; have HS := Lib.hid (lessB_self a)
  clear hp hq hr
  have A := Lib.hid (((Blk.new w 27 #[.int .i64 a.id, .int .i64 a.idx, .int .i64 a.rel, .int .i64 a.dl, .int .i64 a.bit, .int .i64 a.grp]).alloc (Obj.cells #[.int .i64 b.id, .int .i64 b.idx, .int .i64 b.rel, .int .i64 b.dl, .int .i64 b.bit, .int .i64 b.grp] 27)).alloc (Obj.cells #[.int .i64 c.id, .int .i64 c.idx, .int .i64 c.rel, .int .i64 c.dl, .int .i64 c.bit, .int .i64 c.grp] 27))
  have B := Lib.hid ((Blk.new2 w (Obj.cells #[.int .i64 a.id, .int .i64 a.idx, .int .i64 a.rel, .int .i64 a.dl, .int .i64 a.bit, .int .i64 a.grp] 27) 27 #[.int .i64 b.id, .int .i64 b.idx, .int .i64 b.rel, .int .i64 b.dl, .int .i64 b.bit, .int .i64 b.grp]).alloc (Obj.cells #[.int .i64 c.id, .int .i64 c.idx, .int .i64 c.rel, .int .i64 c.dl, .int .i64 c.bit, .int .i64 c.grp] 27))
  have C := Lib.hid (show Blk _ 27 (w.heap.size + 1 + 1) #[.int .i64 c.id, .int .i64 c.idx, .int .i64 c.rel, .int .i64 c.dl, .int .i64 c.bit, .int .i64 c.grp] from by have := Blk.new2 (w.alloc (Obj.cells #[.int .i64 a.id, .int .i64 a.idx, .int .i64 a.rel, .int .i64 a.dl, .int .i64 a.bit, .int .i64 a.grp] 27)) (Obj.cells #[.int .i64 b.id, .int .i64 b.idx, .int .i64 b.rel, .int .i64 b.dl, .int .i64 b.bit, .int .i64 b.grp] 27) 27 #[.int .i64 c.id, .int .i64 c.idx, .int .i64 c.rel, .int .i64 c.dl, .int .i64 c.bit, .int .i64 c.grp]; rw [wsize] at this; exact this)
  go_enter Try.func4, Try.ntmps4
  go_wp2_with fail
  refine (l6awake_any _).mono ?_
  rintro e w1 ⟨rfl, hb⟩
  have BB := Lib.hid (below_next (below_next (below_next (wbox _ _) (wbox _ _)) (wbox _ _)) hb)
  have A := Lib.hid (A.out.below hb)
  have B := Lib.hid (B.out.below hb)
  have C := Lib.hid (C.out.below hb)
  clear hb
  go_upto_region 2 with fail
  have A := Lib.hid A.out.drew; have B := Lib.hid B.out.drew; have C := Lib.hid C.out.drew
  have BB := Lib.hid BB.out.drew
  have KEPT := Lib.hid (show ∀ w' : World, Below w1.drew.heap.size w1.drew w' → w'.cell? ⟨w.heap.size, 0, none⟩ = some (.int .i64 a.id) ∧ w'.cell? ⟨w.heap.size, 1, none⟩ = some (.int .i64 a.idx) ∧ w'.cell? ⟨w.heap.size, 2, none⟩ = some (.int .i64 a.rel) ∧ w'.cell? ⟨w.heap.size, 3, none⟩ = some (.int .i64 a.dl) ∧ w'.cell? ⟨w.heap.size, 4, none⟩ = some (.int .i64 a.bit) ∧ w'.cell? ⟨w.heap.size, 5, none⟩ = some (.int .i64 a.grp) ∧ w'.cell? ⟨(w.heap.size + 1), 0, none⟩ = some (.int .i64 b.id) ∧ w'.cell? ⟨(w.heap.size + 1), 1, none⟩ = some (.int .i64 b.idx) ∧ w'.cell? ⟨(w.heap.size + 1), 2, none⟩ = some (.int .i64 b.rel) ∧ w'.cell? ⟨(w.heap.size + 1), 3, none⟩ = some (.int .i64 b.dl) ∧ w'.cell? ⟨(w.heap.size + 1), 4, none⟩ = some (.int .i64 b.bit) ∧ w'.cell? ⟨(w.heap.size + 1), 5, none⟩ = some (.int .i64 b.grp) from fun w' h => and12 (box6 (A.out.below h)) (box6 (B.out.below h)))
  have BL := Lib.hid (Below.refl w1.drew.heap.size w1.drew)
  cases p with
  | true =>
    have q0 := f1 rfl
    subst q0
    clear f1 f2
    cases d with
    | true =>
      go_region_held3 (fun w' => w'.cell? ⟨w.heap.size, 0, none⟩ = some (.int .i64 a.id) ∧ w'.cell? ⟨w.heap.size, 1, none⟩ = some (.int .i64 a.idx) ∧ w'.cell? ⟨w.heap.size, 2, none⟩ = some (.int .i64 a.rel) ∧ w'.cell? ⟨w.heap.size, 3, none⟩ = some (.int .i64 a.dl) ∧ w'.cell? ⟨w.heap.size, 4, none⟩ = some (.int .i64 a.bit) ∧ w'.cell? ⟨w.heap.size, 5, none⟩ = some (.int .i64 a.grp) ∧ w'.cell? ⟨(w.heap.size + 1), 0, none⟩ = some (.int .i64 b.id) ∧ w'.cell? ⟨(w.heap.size + 1), 1, none⟩ = some (.int .i64 b.idx) ∧ w'.cell? ⟨(w.heap.size + 1), 2, none⟩ = some (.int .i64 b.rel) ∧ w'.cell? ⟨(w.heap.size + 1), 3, none⟩ = some (.int .i64 b.dl) ∧ w'.cell? ⟨(w.heap.size + 1), 4, none⟩ = some (.int .i64 b.bit) ∧ w'.cell? ⟨(w.heap.size + 1), 5, none⟩ = some (.int .i64 b.grp))
        (exact KEPT.out _ BL.out)
        (first | (go_at_call 18; (with_reducible refine (pless_at a b _ _ HP.out).mono ?_); rintro e w4 ⟨rfl, hb⟩; have BL := Lib.hid (below_next BL.out hb); clear hb) | (go_at_call 18; (with_reducible refine (pless_at b a _ _ HQ.out).mono ?_); rintro e w4 ⟨rfl, hb⟩; have BL := Lib.hid (below_next BL.out hb); clear hb))
      all_goals
        have A := Lib.hid (A.out.below BL.out)
        have B := Lib.hid (B.out.below BL.out)
        have C := Lib.hid (C.out.below BL.out)
        have BB := Lib.hid (below_next BB.out BL.out)
        clear BL KEPT
        obtain ⟨a0, a1, a2, a3, a4, a5⟩ := box6 A.out
        obtain ⟨b0, b1, b2, b3, b4, b5⟩ := box6 B.out
        obtain ⟨c0, c1, c2, c3, c4, c5⟩ := box6 C.out
        go_wp2_with fail
        refine (pless_at a a _ _ HS.out).mono ?_
        rintro e w11 ⟨rfl, hb⟩
        have A := Lib.hid (A.out.below hb)
        have B := Lib.hid (B.out.below hb)
        have C := Lib.hid (C.out.below hb)
        have BB := Lib.hid (below_next BB.out hb)
        clear hb
        clear a0 a1 a2 a3 a4 a5 b0 b1 b2 b3 b4 b5 c0 c1 c2 c3 c4 c5
        obtain ⟨a0, a1, a2, a3, a4, a5⟩ := box6 A.out
        obtain ⟨b0, b1, b2, b3, b4, b5⟩ := box6 B.out
        obtain ⟨c0, c1, c2, c3, c4, c5⟩ := box6 C.out
        go_wp2_with fail
        refine (pless_at a b _ _ HP.out).mono ?_
        rintro e w12 ⟨rfl, hb⟩
        have A := Lib.hid (A.out.below hb)
        have B := Lib.hid (B.out.below hb)
        have C := Lib.hid (C.out.below hb)
        have BB := Lib.hid (below_next BB.out hb)
        clear hb
        clear a0 a1 a2 a3 a4 a5 b0 b1 b2 b3 b4 b5 c0 c1 c2 c3 c4 c5
        obtain ⟨a0, a1, a2, a3, a4, a5⟩ := box6 A.out
        obtain ⟨b0, b1, b2, b3, b4, b5⟩ := box6 B.out
        obtain ⟨c0, c1, c2, c3, c4, c5⟩ := box6 C.out
        go_wp2_with fail
        refine (pless_at b a _ _ HQ.out).mono ?_
        rintro e w13 ⟨rfl, hb⟩
        have A := Lib.hid (A.out.below hb)
        have B := Lib.hid (B.out.below hb)
        have C := Lib.hid (C.out.below hb)
        have BB := Lib.hid (below_next BB.out hb)
        clear hb
        clear a0 a1 a2 a3 a4 a5 b0 b1 b2 b3 b4 b5 c0 c1 c2 c3 c4 c5
        obtain ⟨a0, a1, a2, a3, a4, a5⟩ := box6 A.out
        obtain ⟨b0, b1, b2, b3, b4, b5⟩ := box6 B.out
        obtain ⟨c0, c1, c2, c3, c4, c5⟩ := box6 C.out
        go_wp2_with fail
        refine (pless_at a b _ _ HP.out).mono ?_
        rintro e w14 ⟨rfl, hb⟩
        have A := Lib.hid (A.out.below hb)
        have B := Lib.hid (B.out.below hb)
        have C := Lib.hid (C.out.below hb)
        have BB := Lib.hid (below_next BB.out hb)
        clear hb
        clear a0 a1 a2 a3 a4 a5 b0 b1 b2 b3 b4 b5 c0 c1 c2 c3 c4 c5
        obtain ⟨a0, a1, a2, a3, a4, a5⟩ := box6 A.out
        obtain ⟨b0, b1, b2, b3, b4, b5⟩ := box6 B.out
        obtain ⟨c0, c1, c2, c3, c4, c5⟩ := box6 C.out
        go_wp2_with fail
        refine (pless_at b c _ _ HR.out).mono ?_
        rintro e w15 ⟨rfl, hb⟩
        have A := Lib.hid (A.out.below hb)
        have B := Lib.hid (B.out.below hb)
        have C := Lib.hid (C.out.below hb)
        have BB := Lib.hid (below_next BB.out hb)
        clear hb
        clear a0 a1 a2 a3 a4 a5 b0 b1 b2 b3 b4 b5 c0 c1 c2 c3 c4 c5
        obtain ⟨a0, a1, a2, a3, a4, a5⟩ := box6 A.out
        obtain ⟨b0, b1, b2, b3, b4, b5⟩ := box6 B.out
        obtain ⟨c0, c1, c2, c3, c4, c5⟩ := box6 C.out
        cases r with
        | false =>
          go_wp2
          go_ret
          exact ⟨rfl, BB.out⟩
        | true =>
          have HC := Lib.hid (lessB_yes (ahead_trans (lessB_iff.mp HP.out) (lessB_iff.mp HR.out)))
          go_wp2_with fail
          refine (pless_at a c _ _ HC.out).mono ?_
          rintro e w16 ⟨rfl, hb⟩
          have A := Lib.hid (A.out.below hb)
          have B := Lib.hid (B.out.below hb)
          have C := Lib.hid (C.out.below hb)
          have BB := Lib.hid (below_next BB.out hb)
          clear hb
          clear a0 a1 a2 a3 a4 a5 b0 b1 b2 b3 b4 b5 c0 c1 c2 c3 c4 c5
          obtain ⟨a0, a1, a2, a3, a4, a5⟩ := box6 A.out
          obtain ⟨b0, b1, b2, b3, b4, b5⟩ := box6 B.out
          obtain ⟨c0, c1, c2, c3, c4, c5⟩ := box6 C.out
          go_wp2
          go_ret
          exact ⟨rfl, BB.out⟩
    | false =>
      go_region_held3 (fun w' => w'.cell? ⟨w.heap.size, 0, none⟩ = some (.int .i64 a.id) ∧ w'.cell? ⟨w.heap.size, 1, none⟩ = some (.int .i64 a.idx) ∧ w'.cell? ⟨w.heap.size, 2, none⟩ = some (.int .i64 a.rel) ∧ w'.cell? ⟨w.heap.size, 3, none⟩ = some (.int .i64 a.dl) ∧ w'.cell? ⟨w.heap.size, 4, none⟩ = some (.int .i64 a.bit) ∧ w'.cell? ⟨w.heap.size, 5, none⟩ = some (.int .i64 a.grp) ∧ w'.cell? ⟨(w.heap.size + 1), 0, none⟩ = some (.int .i64 b.id) ∧ w'.cell? ⟨(w.heap.size + 1), 1, none⟩ = some (.int .i64 b.idx) ∧ w'.cell? ⟨(w.heap.size + 1), 2, none⟩ = some (.int .i64 b.rel) ∧ w'.cell? ⟨(w.heap.size + 1), 3, none⟩ = some (.int .i64 b.dl) ∧ w'.cell? ⟨(w.heap.size + 1), 4, none⟩ = some (.int .i64 b.bit) ∧ w'.cell? ⟨(w.heap.size + 1), 5, none⟩ = some (.int .i64 b.grp))
        (exact KEPT.out _ BL.out)
        (first | (go_at_call 18; (with_reducible refine (pless_at a b _ _ HP.out).mono ?_); rintro e w4 ⟨rfl, hb⟩; have BL := Lib.hid (below_next BL.out hb); clear hb) | (go_at_call 18; (with_reducible refine (pless_at b a _ _ HQ.out).mono ?_); rintro e w4 ⟨rfl, hb⟩; have BL := Lib.hid (below_next BL.out hb); clear hb))
      all_goals
        have A := Lib.hid (A.out.below BL.out)
        have B := Lib.hid (B.out.below BL.out)
        have C := Lib.hid (C.out.below BL.out)
        have BB := Lib.hid (below_next BB.out BL.out)
        clear BL KEPT
        obtain ⟨a0, a1, a2, a3, a4, a5⟩ := box6 A.out
        obtain ⟨b0, b1, b2, b3, b4, b5⟩ := box6 B.out
        obtain ⟨c0, c1, c2, c3, c4, c5⟩ := box6 C.out
        go_wp2_with fail
        refine (pless_at a a _ _ HS.out).mono ?_
        rintro e w17 ⟨rfl, hb⟩
        have A := Lib.hid (A.out.below hb)
        have B := Lib.hid (B.out.below hb)
        have C := Lib.hid (C.out.below hb)
        have BB := Lib.hid (below_next BB.out hb)
        clear hb
        clear a0 a1 a2 a3 a4 a5 b0 b1 b2 b3 b4 b5 c0 c1 c2 c3 c4 c5
        obtain ⟨a0, a1, a2, a3, a4, a5⟩ := box6 A.out
        obtain ⟨b0, b1, b2, b3, b4, b5⟩ := box6 B.out
        obtain ⟨c0, c1, c2, c3, c4, c5⟩ := box6 C.out
        go_wp2_with fail
        refine (pless_at a b _ _ HP.out).mono ?_
        rintro e w18 ⟨rfl, hb⟩
        have A := Lib.hid (A.out.below hb)
        have B := Lib.hid (B.out.below hb)
        have C := Lib.hid (C.out.below hb)
        have BB := Lib.hid (below_next BB.out hb)
        clear hb
        clear a0 a1 a2 a3 a4 a5 b0 b1 b2 b3 b4 b5 c0 c1 c2 c3 c4 c5
        obtain ⟨a0, a1, a2, a3, a4, a5⟩ := box6 A.out
        obtain ⟨b0, b1, b2, b3, b4, b5⟩ := box6 B.out
        obtain ⟨c0, c1, c2, c3, c4, c5⟩ := box6 C.out
        go_wp2_with fail
        refine (pless_at b a _ _ HQ.out).mono ?_
        rintro e w19 ⟨rfl, hb⟩
        have A := Lib.hid (A.out.below hb)
        have B := Lib.hid (B.out.below hb)
        have C := Lib.hid (C.out.below hb)
        have BB := Lib.hid (below_next BB.out hb)
        clear hb
        clear a0 a1 a2 a3 a4 a5 b0 b1 b2 b3 b4 b5 c0 c1 c2 c3 c4 c5
        obtain ⟨a0, a1, a2, a3, a4, a5⟩ := box6 A.out
        obtain ⟨b0, b1, b2, b3, b4, b5⟩ := box6 B.out
        obtain ⟨c0, c1, c2, c3, c4, c5⟩ := box6 C.out
        go_wp2_with fail
        refine (pless_at a b _ _ HP.out).mono ?_
        rintro e w20 ⟨rfl, hb⟩
        have A := Lib.hid (A.out.below hb)
        have B := Lib.hid (B.out.below hb)
        have C := Lib.hid (C.out.below hb)
        have BB := Lib.hid (below_next BB.out hb)
        clear hb
        clear a0 a1 a2 a3 a4 a5 b0 b1 b2 b3 b4 b5 c0 c1 c2 c3 c4 c5
        obtain ⟨a0, a1, a2, a3, a4, a5⟩ := box6 A.out
        obtain ⟨b0, b1, b2, b3, b4, b5⟩ := box6 B.out
        obtain ⟨c0, c1, c2, c3, c4, c5⟩ := box6 C.out
        go_wp2_with fail
        refine (pless_at b c _ _ HR.out).mono ?_
        rintro e w21 ⟨rfl, hb⟩
        have A := Lib.hid (A.out.below hb)
        have B := Lib.hid (B.out.below hb)
        have C := Lib.hid (C.out.below hb)
        have BB := Lib.hid (below_next BB.out hb)
        clear hb
        clear a0 a1 a2 a3 a4 a5 b0 b1 b2 b3 b4 b5 c0 c1 c2 c3 c4 c5
        obtain ⟨a0, a1, a2, a3, a4, a5⟩ := box6 A.out
        obtain ⟨b0, b1, b2, b3, b4, b5⟩ := box6 B.out
        obtain ⟨c0, c1, c2, c3, c4, c5⟩ := box6 C.out
        cases r with
        | false =>
          go_wp2
          go_ret
          exact ⟨rfl, BB.out⟩
        | true =>
          have HC := Lib.hid (lessB_yes (ahead_trans (lessB_iff.mp HP.out) (lessB_iff.mp HR.out)))
          go_wp2_with fail
          refine (pless_at a c _ _ HC.out).mono ?_
          rintro e w22 ⟨rfl, hb⟩
          have A := Lib.hid (A.out.below hb)
          have B := Lib.hid (B.out.below hb)
          have C := Lib.hid (C.out.below hb)
          have BB := Lib.hid (below_next BB.out hb)
          clear hb
          clear a0 a1 a2 a3 a4 a5 b0 b1 b2 b3 b4 b5 c0 c1 c2 c3 c4 c5
          obtain ⟨a0, a1, a2, a3, a4, a5⟩ := box6 A.out
          obtain ⟨b0, b1, b2, b3, b4, b5⟩ := box6 B.out
          obtain ⟨c0, c1, c2, c3, c4, c5⟩ := box6 C.out
          go_wp2
          go_ret
          exact ⟨rfl, BB.out⟩
  | false =>
    cases d with
    | true =>
      have q1 := f2 rfl rfl
      subst q1
      clear f1 f2
      go_region_held3 (fun w' => w'.cell? ⟨w.heap.size, 0, none⟩ = some (.int .i64 a.id) ∧ w'.cell? ⟨w.heap.size, 1, none⟩ = some (.int .i64 a.idx) ∧ w'.cell? ⟨w.heap.size, 2, none⟩ = some (.int .i64 a.rel) ∧ w'.cell? ⟨w.heap.size, 3, none⟩ = some (.int .i64 a.dl) ∧ w'.cell? ⟨w.heap.size, 4, none⟩ = some (.int .i64 a.bit) ∧ w'.cell? ⟨w.heap.size, 5, none⟩ = some (.int .i64 a.grp) ∧ w'.cell? ⟨(w.heap.size + 1), 0, none⟩ = some (.int .i64 b.id) ∧ w'.cell? ⟨(w.heap.size + 1), 1, none⟩ = some (.int .i64 b.idx) ∧ w'.cell? ⟨(w.heap.size + 1), 2, none⟩ = some (.int .i64 b.rel) ∧ w'.cell? ⟨(w.heap.size + 1), 3, none⟩ = some (.int .i64 b.dl) ∧ w'.cell? ⟨(w.heap.size + 1), 4, none⟩ = some (.int .i64 b.bit) ∧ w'.cell? ⟨(w.heap.size + 1), 5, none⟩ = some (.int .i64 b.grp))
        (exact KEPT.out _ BL.out)
        (first | (go_at_call 18; (with_reducible refine (pless_at a b _ _ HP.out).mono ?_); rintro e w4 ⟨rfl, hb⟩; have BL := Lib.hid (below_next BL.out hb); clear hb) | (go_at_call 18; (with_reducible refine (pless_at b a _ _ HQ.out).mono ?_); rintro e w4 ⟨rfl, hb⟩; have BL := Lib.hid (below_next BL.out hb); clear hb))
      all_goals
        have A := Lib.hid (A.out.below BL.out)
        have B := Lib.hid (B.out.below BL.out)
        have C := Lib.hid (C.out.below BL.out)
        have BB := Lib.hid (below_next BB.out BL.out)
        clear BL KEPT
        obtain ⟨a0, a1, a2, a3, a4, a5⟩ := box6 A.out
        obtain ⟨b0, b1, b2, b3, b4, b5⟩ := box6 B.out
        obtain ⟨c0, c1, c2, c3, c4, c5⟩ := box6 C.out
        go_wp2_with fail
        refine (pless_at a a _ _ HS.out).mono ?_
        rintro e w23 ⟨rfl, hb⟩
        have A := Lib.hid (A.out.below hb)
        have B := Lib.hid (B.out.below hb)
        have C := Lib.hid (C.out.below hb)
        have BB := Lib.hid (below_next BB.out hb)
        clear hb
        clear a0 a1 a2 a3 a4 a5 b0 b1 b2 b3 b4 b5 c0 c1 c2 c3 c4 c5
        obtain ⟨a0, a1, a2, a3, a4, a5⟩ := box6 A.out
        obtain ⟨b0, b1, b2, b3, b4, b5⟩ := box6 B.out
        obtain ⟨c0, c1, c2, c3, c4, c5⟩ := box6 C.out
        go_wp2_with fail
        refine (pless_at a b _ _ HP.out).mono ?_
        rintro e w24 ⟨rfl, hb⟩
        have A := Lib.hid (A.out.below hb)
        have B := Lib.hid (B.out.below hb)
        have C := Lib.hid (C.out.below hb)
        have BB := Lib.hid (below_next BB.out hb)
        clear hb
        clear a0 a1 a2 a3 a4 a5 b0 b1 b2 b3 b4 b5 c0 c1 c2 c3 c4 c5
        obtain ⟨a0, a1, a2, a3, a4, a5⟩ := box6 A.out
        obtain ⟨b0, b1, b2, b3, b4, b5⟩ := box6 B.out
        obtain ⟨c0, c1, c2, c3, c4, c5⟩ := box6 C.out
        go_wp2_with fail
        refine (pless_at a b _ _ HP.out).mono ?_
        rintro e w25 ⟨rfl, hb⟩
        have A := Lib.hid (A.out.below hb)
        have B := Lib.hid (B.out.below hb)
        have C := Lib.hid (C.out.below hb)
        have BB := Lib.hid (below_next BB.out hb)
        clear hb
        clear a0 a1 a2 a3 a4 a5 b0 b1 b2 b3 b4 b5 c0 c1 c2 c3 c4 c5
        obtain ⟨a0, a1, a2, a3, a4, a5⟩ := box6 A.out
        obtain ⟨b0, b1, b2, b3, b4, b5⟩ := box6 B.out
        obtain ⟨c0, c1, c2, c3, c4, c5⟩ := box6 C.out
        go_wp2
        go_ret
        exact ⟨rfl, BB.out⟩
    | false =>
      clear f1 f2
      cases q with
      | true =>
        go_region_held3 (fun w' => w'.cell? ⟨w.heap.size, 0, none⟩ = some (.int .i64 a.id) ∧ w'.cell? ⟨w.heap.size, 1, none⟩ = some (.int .i64 a.idx) ∧ w'.cell? ⟨w.heap.size, 2, none⟩ = some (.int .i64 a.rel) ∧ w'.cell? ⟨w.heap.size, 3, none⟩ = some (.int .i64 a.dl) ∧ w'.cell? ⟨w.heap.size, 4, none⟩ = some (.int .i64 a.bit) ∧ w'.cell? ⟨w.heap.size, 5, none⟩ = some (.int .i64 a.grp) ∧ w'.cell? ⟨(w.heap.size + 1), 0, none⟩ = some (.int .i64 b.id) ∧ w'.cell? ⟨(w.heap.size + 1), 1, none⟩ = some (.int .i64 b.idx) ∧ w'.cell? ⟨(w.heap.size + 1), 2, none⟩ = some (.int .i64 b.rel) ∧ w'.cell? ⟨(w.heap.size + 1), 3, none⟩ = some (.int .i64 b.dl) ∧ w'.cell? ⟨(w.heap.size + 1), 4, none⟩ = some (.int .i64 b.bit) ∧ w'.cell? ⟨(w.heap.size + 1), 5, none⟩ = some (.int .i64 b.grp))
          (exact KEPT.out _ BL.out)
          (first | (go_at_call 18; (with_reducible refine (pless_at a b _ _ HP.out).mono ?_); rintro e w4 ⟨rfl, hb⟩; have BL := Lib.hid (below_next BL.out hb); clear hb) | (go_at_call 18; (with_reducible refine (pless_at b a _ _ HQ.out).mono ?_); rintro e w4 ⟨rfl, hb⟩; have BL := Lib.hid (below_next BL.out hb); clear hb))
        all_goals
          have A := Lib.hid (A.out.below BL.out)
          have B := Lib.hid (B.out.below BL.out)
          have C := Lib.hid (C.out.below BL.out)
          have BB := Lib.hid (below_next BB.out BL.out)
          clear BL KEPT
          obtain ⟨a0, a1, a2, a3, a4, a5⟩ := box6 A.out
          obtain ⟨b0, b1, b2, b3, b4, b5⟩ := box6 B.out
          obtain ⟨c0, c1, c2, c3, c4, c5⟩ := box6 C.out
          go_wp2_with fail
          refine (pless_at a a _ _ HS.out).mono ?_
          rintro e w26 ⟨rfl, hb⟩
          have A := Lib.hid (A.out.below hb)
          have B := Lib.hid (B.out.below hb)
          have C := Lib.hid (C.out.below hb)
          have BB := Lib.hid (below_next BB.out hb)
          clear hb
          clear a0 a1 a2 a3 a4 a5 b0 b1 b2 b3 b4 b5 c0 c1 c2 c3 c4 c5
          obtain ⟨a0, a1, a2, a3, a4, a5⟩ := box6 A.out
          obtain ⟨b0, b1, b2, b3, b4, b5⟩ := box6 B.out
          obtain ⟨c0, c1, c2, c3, c4, c5⟩ := box6 C.out
          go_wp2_with fail
          refine (pless_at a b _ _ HP.out).mono ?_
          rintro e w27 ⟨rfl, hb⟩
          have A := Lib.hid (A.out.below hb)
          have B := Lib.hid (B.out.below hb)
          have C := Lib.hid (C.out.below hb)
          have BB := Lib.hid (below_next BB.out hb)
          clear hb
          clear a0 a1 a2 a3 a4 a5 b0 b1 b2 b3 b4 b5 c0 c1 c2 c3 c4 c5
          obtain ⟨a0, a1, a2, a3, a4, a5⟩ := box6 A.out
          obtain ⟨b0, b1, b2, b3, b4, b5⟩ := box6 B.out
          obtain ⟨c0, c1, c2, c3, c4, c5⟩ := box6 C.out
          go_wp2_with fail
          refine (pless_at a b _ _ HP.out).mono ?_
          rintro e w28 ⟨rfl, hb⟩
          have A := Lib.hid (A.out.below hb)
          have B := Lib.hid (B.out.below hb)
          have C := Lib.hid (C.out.below hb)
          have BB := Lib.hid (below_next BB.out hb)
          clear hb
          clear a0 a1 a2 a3 a4 a5 b0 b1 b2 b3 b4 b5 c0 c1 c2 c3 c4 c5
          obtain ⟨a0, a1, a2, a3, a4, a5⟩ := box6 A.out
          obtain ⟨b0, b1, b2, b3, b4, b5⟩ := box6 B.out
          obtain ⟨c0, c1, c2, c3, c4, c5⟩ := box6 C.out
          go_wp2
          go_ret
          exact ⟨rfl, BB.out⟩
      | false =>
        go_region_held3 (fun w' => w'.cell? ⟨w.heap.size, 0, none⟩ = some (.int .i64 a.id) ∧ w'.cell? ⟨w.heap.size, 1, none⟩ = some (.int .i64 a.idx) ∧ w'.cell? ⟨w.heap.size, 2, none⟩ = some (.int .i64 a.rel) ∧ w'.cell? ⟨w.heap.size, 3, none⟩ = some (.int .i64 a.dl) ∧ w'.cell? ⟨w.heap.size, 4, none⟩ = some (.int .i64 a.bit) ∧ w'.cell? ⟨w.heap.size, 5, none⟩ = some (.int .i64 a.grp) ∧ w'.cell? ⟨(w.heap.size + 1), 0, none⟩ = some (.int .i64 b.id) ∧ w'.cell? ⟨(w.heap.size + 1), 1, none⟩ = some (.int .i64 b.idx) ∧ w'.cell? ⟨(w.heap.size + 1), 2, none⟩ = some (.int .i64 b.rel) ∧ w'.cell? ⟨(w.heap.size + 1), 3, none⟩ = some (.int .i64 b.dl) ∧ w'.cell? ⟨(w.heap.size + 1), 4, none⟩ = some (.int .i64 b.bit) ∧ w'.cell? ⟨(w.heap.size + 1), 5, none⟩ = some (.int .i64 b.grp))
          (exact KEPT.out _ BL.out)
          (first | (go_at_call 18; (with_reducible refine (pless_at a b _ _ HP.out).mono ?_); rintro e w4 ⟨rfl, hb⟩; have BL := Lib.hid (below_next BL.out hb); clear hb) | (go_at_call 18; (with_reducible refine (pless_at b a _ _ HQ.out).mono ?_); rintro e w4 ⟨rfl, hb⟩; have BL := Lib.hid (below_next BL.out hb); clear hb))
        all_goals
          have A := Lib.hid (A.out.below BL.out)
          have B := Lib.hid (B.out.below BL.out)
          have C := Lib.hid (C.out.below BL.out)
          have BB := Lib.hid (below_next BB.out BL.out)
          clear BL KEPT
          obtain ⟨a0, a1, a2, a3, a4, a5⟩ := box6 A.out
          obtain ⟨b0, b1, b2, b3, b4, b5⟩ := box6 B.out
          obtain ⟨c0, c1, c2, c3, c4, c5⟩ := box6 C.out
          go_wp2_with fail
          refine (pless_at a a _ _ HS.out).mono ?_
          rintro e w29 ⟨rfl, hb⟩
          have A := Lib.hid (A.out.below hb)
          have B := Lib.hid (B.out.below hb)
          have C := Lib.hid (C.out.below hb)
          have BB := Lib.hid (below_next BB.out hb)
          clear hb
          clear a0 a1 a2 a3 a4 a5 b0 b1 b2 b3 b4 b5 c0 c1 c2 c3 c4 c5
          obtain ⟨a0, a1, a2, a3, a4, a5⟩ := box6 A.out
          obtain ⟨b0, b1, b2, b3, b4, b5⟩ := box6 B.out
          obtain ⟨c0, c1, c2, c3, c4, c5⟩ := box6 C.out
          go_wp2_with fail
          refine (pless_at a b _ _ HP.out).mono ?_
          rintro e w30 ⟨rfl, hb⟩
          have A := Lib.hid (A.out.below hb)
          have B := Lib.hid (B.out.below hb)
          have C := Lib.hid (C.out.below hb)
          have BB := Lib.hid (below_next BB.out hb)
          clear hb
          clear a0 a1 a2 a3 a4 a5 b0 b1 b2 b3 b4 b5 c0 c1 c2 c3 c4 c5
          obtain ⟨a0, a1, a2, a3, a4, a5⟩ := box6 A.out
          obtain ⟨b0, b1, b2, b3, b4, b5⟩ := box6 B.out
          obtain ⟨c0, c1, c2, c3, c4, c5⟩ := box6 C.out
          go_wp2_with fail
          refine (pless_at a b _ _ HP.out).mono ?_
          rintro e w31 ⟨rfl, hb⟩
          have A := Lib.hid (A.out.below hb)
          have B := Lib.hid (B.out.below hb)
          have C := Lib.hid (C.out.below hb)
          have BB := Lib.hid (below_next BB.out hb)
          clear hb
          clear a0 a1 a2 a3 a4 a5 b0 b1 b2 b3 b4 b5 c0 c1 c2 c3 c4 c5
          obtain ⟨a0, a1, a2, a3, a4, a5⟩ := box6 A.out
          obtain ⟨b0, b1, b2, b3, b4, b5⟩ := box6 B.out
          obtain ⟨c0, c1, c2, c3, c4, c5⟩ := box6 C.out
          go_wp2
          go_ret
          exact ⟨rfl, BB.out⟩
end Go.Proofs.Ytkiolkceaibmgaa
