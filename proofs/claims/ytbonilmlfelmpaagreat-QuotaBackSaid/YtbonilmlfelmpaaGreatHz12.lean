/-
  Package hold as landed: New: contract; it is as asked (HoldOk).
-/
import Derived.Test.YtbonilmlfelmpaaGreatHz11
import Derived.Carry
namespace Go.Proofs.YtbonilmlfelmpaaGreat
open Go.RowKit

theorem hnew_no (a1 : Option Addr) (l1 c1 : Nat) (z1 : List Int) (a2 : Option Addr) (l2 c2 : Nat) (z2 : List Int) (w : World) (r1 : Row .u32 w a1 l1 c1 z1) (r2 : Row .u32 w a2 l2 c2 z2) (hn : ¬ (Top z1 ∧ Top z2 ∧ z2 ≠ [])) :
    Calls Tryz.prog 32 #[.agg #[.slice a1 l1 c1, .slice a2 l2 c2]] w fun z w' => z = .returned (.pointer none) ∧ Below w.heap.size w w' := by
  have R1 := Lib.hid r1; have R2 := Lib.hid r2
  have HN := Lib.hid hn
  have X0 := Box.new w 35 (.slice a1 l1 c1) (.slice a2 l2 c2)
  have B0 := Lib.hid (wbox w (.cells #[.slice a1 l1 c1, .slice a2 l2 c2] 35))
  have x0 := X0.c0; have x1 := X0.c1
  clear r1 r2 hn
  go_enter Tryz.func32, Tryz.ntmps32
  go_wp2_with fail
  refine (qcheck_any a1 l1 c1 z1 a2 l2 c2 z2 _ (R1.out.below B0.out) (R2.out.below B0.out) false ⟨fun h => (by cases h), fun h => absurd h HN.out⟩).mono ?_
  rintro e w1 ⟨rfl, hb⟩
  have B := Lib.hid (below_next B0.out hb)
  clear hb
  go_wp2
  go_ret
  exact ⟨rfl, B.out⟩
set_option maxRecDepth 20000 in
set_option maxHeartbeats 2000000 in
theorem hnew_yes (v : Value) (N D : Int) (L b : Nat) (w : World) (hv : Rat w b L v N D) (hL : L ≤ 3) (hD : 0 < D) :
    Calls Tryz.prog 32 #[v] w fun z w' => ∃ g m A an ln cn ad ld cd, z = .returned (.pointer (some ⟨g, 0, none⟩)) ∧ LH w' g m A an ln cn ad ld cd N D [] ∧ (∀ k, A k → k ≠ m) ∧ (∀ k, A k → w.heap.size ≤ k) ∧ w.heap.size ≤ g ∧ w.heap.size ≤ m ∧ Below w.heap.size w w' := by
  obtain ⟨a1, l1, c1, z1, a2, l2, c2, z2, rfl, r1, i1, r2, i2, hl1, hl2, _, _⟩ := id hv
  have V := Lib.hid hv
  have R1 := Lib.hid r1; have R2 := Lib.hid r2
  have I1 := Lib.hid i1; have I2 := Lib.hid i2
  have s1 : l1 ≤ 1000000 := by omega
  have s2 : l2 ≤ 1000000 := by omega
  have S1 := Lib.hid s1; have S2 := Lib.hid s2
  have L1 := Lib.hid (show l1 ≤ 3 by omega)
  have L2 := Lib.hid (show l2 ≤ 3 by omega)
  have X0 := Lib.hid (Box.new w 35 (.slice a1 l1 c1) (.slice a2 l2 c2))
  have B0 := Lib.hid (wbox w (.cells #[.slice a1 l1 c1, .slice a2 l2 c2] 35))
  have x0 := X0.out.c0; have x1 := X0.out.c1
  clear r1 r2 i1 i2 s1 s2 hl1 hl2 hL hv
  go_enter Tryz.func32, Tryz.ntmps32
  go_wp2_with fail
  refine (qcheck_yes _ N D L b _ (V.out.below B0.out) hD).mono ?_
  rintro e w1 ⟨rfl, hb⟩
  have B1 := Lib.hid (below_next B0.out hb)
  have X1 := Lib.hid (X0.out.below hb)
  clear hb x0 x1
  have KEPT := Lib.hid (show ∀ w' : World, Below w1.heap.size w1 w' → w'.cell? ⟨w.heap.size, 0, none⟩ = some (.slice a1 l1 c1) ∧ w'.cell? ⟨w.heap.size, 1, none⟩ = some (.slice a2 l2 c2) from fun w' h => ⟨(Box.below X1.out h).c0, (Box.below X1.out h).c1⟩)
  have BB := Lib.hid (show Below w1.heap.size w1 w1.drew from (Below.refl w1.heap.size w1).drew)
  have R1 := Lib.hid (R1.out.below B1.out); have R2 := Lib.hid (R2.out.below B1.out)
  have SA := Lib.hid (show Below w1.heap.size w1 (w1.alloc (.cells #[.slice none 0 0, .slice none 0 0] 35)).drew from (wbox _ _).drew)
  have ZA := Lib.hid (show Blk (w1.alloc (.cells #[.slice none 0 0, .slice none 0 0] 35)).drew 35 w1.heap.size #[.slice none 0 0, .slice none 0 0] from (Blk.new w1 _ _).drew)
  go_upto_region 3 with fail
  go_cut [3] (fun s3 wx => ∃ (g : Nat) (x1 : Option Addr) (x3 : Nat) (y1 : Option Addr) (y3 : Nat), s3 = .pointer (some ⟨g, 0, none⟩) ∧ Box wx 35 g (.slice x1 l1 x3) (.slice y1 l2 y3) ∧ Below w1.heap.size w1 wx ∧ Row .u32 wx x1 l1 x3 z1 ∧ Row .u32 wx y1 l2 y3 z2 ∧ Fresh w1.heap.size x1 ∧ Fresh w1.heap.size y1)
  case first =>
    have ZB := Lib.hid (show True from trivial)
    go_region_held3 (fun w' => w'.cell? ⟨w.heap.size, 0, none⟩ = some (.slice a1 l1 c1) ∧ w'.cell? ⟨w.heap.size, 1, none⟩ = some (.slice a2 l2 c2))
      (first | with_reducible exact KEPT.out _ BB.out | with_reducible exact KEPT.out _ SA.out | with_reducible exact KEPT.out _ (below_next BB.out (wbox _ _)) | with_reducible exact KEPT.out _ ((BB.out.setCell GB.out _).setCell GB.out _) | with_reducible exact KEPT.out _ (((below_next BB.out (wbox _ _)).setCell BB.out.size _).setCell BB.out.size _))
      (first
        | (go_at_call 63; (first
            | ((with_reducible refine (clone_any a1 l1 c1 z1 _ (R1.out.below BB.out) S1.out).mono ?_); rintro e w2 ⟨p1, p3, rfl, hw, hb⟩; have BB := Lib.hid (below_next BB.out hb); have F1 := Lib.hid (hw.fresh.mono (Nat.le_refl w1.heap.size)))
            | ((with_reducible refine (clone_any a1 l1 c1 z1 _ (R1.out.below SA.out) S1.out).mono ?_); rintro e w2 ⟨p1, p3, rfl, hw, hb⟩; have BB := Lib.hid (below_next SA.out hb); have ZB := Lib.hid (ZA.out.below hb); have GB := Lib.hid (Nat.le_refl w1.heap.size); have F1 := Lib.hid (hw.fresh.mono SA.out.size)));
            have P1 := Lib.hid hw.row; clear hw hb)
        | (go_at_call 63; (first
            | ((with_reducible refine (clone_any a2 l2 c2 z2 w2 (R2.out.below BB.out) S2.out).mono ?_); rintro e w3 ⟨q1, q3, rfl, hw, hb⟩; (try (have ZB := Lib.hid (ZB.out.below hb))); have F2 := Lib.hid (hw.fresh.mono BB.out.size))
            | (have ZB := Lib.hid (Blk.new w2 35 #[.slice none 0 0, .slice none 0 0]); have GB := Lib.hid BB.out.size; have P1 := Lib.hid (P1.out.below (wbox w2 (.cells #[.slice none 0 0, .slice none 0 0] 35))); have BB := Lib.hid (below_next BB.out (wbox w2 (.cells #[.slice none 0 0, .slice none 0 0] 35))); (with_reducible refine (clone_any a2 l2 c2 z2 _ (R2.out.below BB.out) S2.out).mono ?_); rintro e w3 ⟨q1, q3, rfl, hw, hb⟩; have ZB := Lib.hid (ZB.out.below hb); have F2 := Lib.hid (hw.fresh.mono BB.out.size)));
            have P1 := Lib.hid (P1.out.below hb); have P2 := Lib.hid hw.row; have BB := Lib.hid (below_next BB.out hb); clear hb hw;
            (try (have y0 := ZB.out.cell 0; have y1 := ZB.out.cell 1; have f0 := ZB.out.free 0; have f1 := ZB.out.free 1; simp at y0 y1))))
    all_goals
      go_wp2_with fail
      go_meet
      first
        | exact ⟨_, _, _, _, _, rfl, two_set ZB.out, (BB.out.setCell GB.out _).setCell GB.out _, P1.out.box ZB.out _ _, P2.out.box ZB.out _ _, F1.out, F2.out⟩
        | exact ⟨_, _, _, _, _, rfl, Blk.new w3 _ _, below_next BB.out (wbox _ _), P1.out.below (wbox w3 _), P2.out.below (wbox w3 _), F1.out, F2.out⟩
  case rest =>
    obtain ⟨gb, x1, x3, y1, y3, rfl, hbox, hbel, hr1, hr2, hf1, hf2⟩ := hcut
    have B2 := Lib.hid (below_next B1.out hbel)
    have BX := Lib.hid hbox
    have P1 := Lib.hid hr1; have P2 := Lib.hid hr2
    have F1 := Lib.hid (hf1.mono B1.out.size); have F2 := Lib.hid (hf2.mono B1.out.size)
    clear BB KEPT SA ZA hbox hbel hr1 hr2 hf1 hf2
    have c0 := BX.out.c0; have c1 := BX.out.c1
    have hmm := @run_makeMap Tryz.prog
    go_wp2
    go_ret
    have bm := wbox wc (.map #[] 0)
    have bg := wbox (wc.alloc (.map #[] 0)) (.cells #[.slice x1 l1 x3, .slice y1 l2 y3, .map (some wc.heap.size)] 100)
    have bb := below_next bm bg
    have low : ∀ {a : Option Addr} {len cap : Nat} {zs : List Int}, Row .u32 wc a len cap zs → Fresh w.heap.size a → ∀ b, a = some b → 0 < len → w.heap.size ≤ b.block ∧ b.block < wc.heap.size := fun hr hf b e hl => by
      refine ⟨hf b e, ?_⟩
      obtain ⟨bl, off, ha, hc⟩ := hr.2.2.2.2 0 (by have := hr.len; omega)
      rw [e] at ha
      cases ha
      exact World.block_lt_of_cell? _ _ hc
    refine ⟨wc.heap.size + 1, wc.heap.size, fun k => w.heap.size ≤ k ∧ k < wc.heap.size, x1, l1, x3, y1, l2, y3, rfl, ⟨?_, ⟨z1, z2, P1.out.below bb, I1.out, P2.out.below bb, I2.out⟩, ⟨L1.out, L2.out⟩, ⟨low P1.out F1.out, low P2.out F2.out⟩, fun k hk => by simp; omega, ⟨#[], 0, ?_, rfl, (fun x hx => by cases hx), List.nodup_nil⟩, by omega⟩, fun k hk => by omega, fun k hk => hk.1, by have := B2.out.size; omega, B2.out.size, below_next B2.out bb⟩
    · have := Blk.new (wc.alloc (.map #[] 0)) 100 #[.slice x1 l1 x3, .slice y1 l2 y3, .map (some wc.heap.size)]
      rw [World.size_alloc] at this
      exact this
    · exact (heap_alloc_old _ _ (by simp)).trans (World.alloc_heap_new wc (.map #[] 0))
/-- the landed ledger -/
def HpL (w : World) (g : Nat) (F A : Nat → Prop) (N D : Int) (hs : List Hd) : Prop :=
  ∃ m an ln cn ad ld cd, LH w g m A an ln cn ad ld cd N D hs ∧ GoodL N D hs ∧ (∀ k, A k → k ≠ m) ∧ (∀ k, F k ↔ k = g ∨ k = m)
theorem HpL.stay {w w' : World} {g : Nat} {F A : Nat → Prop} {N D : Int} {hs : List Hd} (h : HpL w g F A N D hs) (hb : Below w.heap.size w w') : StaysH HpL w g F A N D hs w' := by
  obtain ⟨m, an, ln, cn, ad, ld, cd, h1, h2, h3, h4⟩ := h
  refine ⟨F, ⟨m, an, ln, cn, ad, ld, cd, h1.below hb, h2, h3, h4⟩, Moves.of hb (fun k hk => ?_)⟩
  rcases (h4 k).mp hk with rfl | rfl
  · exact h1.blk.lt
  · exact h1.map.lt
theorem HpL.moved {w w' : World} {g m : Nat} {F A : Nat → Prop} {an : Option Addr} {ln cn : Nat} {ad : Option Addr} {ld cd : Nat} {N D : Int} {hs : List Hd} (hF : ∀ k, F k ↔ k = g ∨ k = m) (hA : ∀ k, A k → k ≠ m) (g' : GoodL N D hs) (h : StayL w g m A an ln cn ad ld cd N D hs w') : StaysH HpL w g F A N D hs w' := by
  obtain ⟨h1, h2⟩ := h
  refine ⟨F, ⟨m, an, ln, cn, ad, ld, cd, h1, g', hA, hF⟩, ⟨⟨h2.os, h2.tape, h2.output, h2.size, fun k hk hn => h2.block k hk (fun e => hn ((hF k).mpr (.inr e)))⟩, fun k q => .inl q, fun k hk => ?_⟩⟩
  rcases (hF k).mp hk with rfl | rfl
  · exact h1.blk.lt
  · exact h1.map.lt
theorem GivesLo.more {w w' : World} {L L' : Nat} {N D : Int} {e : Ending} (h : GivesLo w L N D e w') (hL : L ≤ L') : GivesLo w L' N D e w' := by
  obtain ⟨v, n, d, h1, h2, h3⟩ := h
  exact ⟨v, n, d, h1, h2.mono (Nat.le_refl _) hL, h3⟩
theorem gives_zero {w w' : World} {e : Ending} (h : GivesQ w 2 0 1 e w') : GivesLo w 2 0 1 e w' := by
  obtain ⟨v, h1, h2, h3⟩ := h
  exact ⟨v, 0, 1, h1, h2, lo_nat (x := 0) (y := 1) (by decide) rfl, rfl, h3⟩
theorem askB_some {N D : Int} {hs : List Hd} (g : GoodL N D hs) {j : Nat} {x : Hd} (hx : hs[j]? = some x) {b : Bool} (h : x.asked = b) : askB x.NE x.NP = b := (asked_is g (List.mem_of_getElem? hx)).trans h
end Go.Proofs.YtbonilmlfelmpaaGreat
