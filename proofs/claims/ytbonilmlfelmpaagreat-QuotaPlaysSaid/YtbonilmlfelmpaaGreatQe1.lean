/-
  Both trees side by side: the landed one, and the document's. (Written by wip/tools/gen/qe1.py.)
-/
import Derived.Test.YtbonilmlfelmpaaGreatQe0
namespace Go.Proofs.YtbonilmlfelmpaaGreat
open Go.RowKit

theorem RQ.holds {W W' : World} {r : Nat} {F : Nat → Prop} {v sv : Value} {hs : List Hq} (h : RQ W r F v sv hs) (k : Holds F W W') : RQ W' r F v sv hs := by
  obtain ⟨an, ln, cn, ad, ld, cd, sa, sl, sc, u, hv, hsv, hb, hq, hn, hF⟩ := h
  exact ⟨an, ln, cn, ad, ld, cd, sa, sl, sc, u, hv, hsv, k.blk hb ((hF r).mpr (.inl rfl)), QueR.carry hq (fun g q => k.block g ((hF g).mpr (.inr q))), hn, hF⟩
/-- the landed tree g, and the document's r, of so much (its numbers lie from b0 to b1); the law's own blocks X -/
def Both13 (w : World) (X : Nat → Prop) (b0 b1 g r : Nat) (v sv : Value) (S : List Sv) (N D : Int) (hc hr : List Hq) (wr : World) : Prop :=
  ∃ R, Mine13 w (fun k => R k ∨ X k) g S N D hc wr ∧ RQ wr r R v sv hr ∧ Apart R X ∧ (∀ k, Rng b0 b1 k → X k) ∧ ∃ w6 : World, Rat w6 b0 1 v N D ∧ w6.heap.size ≤ b1 ∧ Holds (Rng b0 b1) w6 wr
section
variable {w wr w' : World} {X X' : Nat → Prop} {b0 b1 g r : Nat} {v sv : Value} {S : List Sv} {N D : Int} {hc hr : List Hq}
theorem Both13.below (h : Both13 w X b0 b1 g r v sv S N D hc hr wr) : Below w.heap.size w wr := by obtain ⟨_, h, _⟩ := h; exact h.below
theorem Both13.good (h : Both13 w X b0 b1 g r v sv S N D hc hr wr) : GoodQ S N D hc := by obtain ⟨_, h, _⟩ := h; exact h.good
theorem Both13.mine (h : Both13 w X b0 b1 g r v sv S N D hc hr wr) : ∃ G, Mine13 w G g S N D hc wr := by obtain ⟨_, h, _⟩ := h; exact ⟨_, h⟩
theorem Both13.row (h : Both13 w X b0 b1 g r v sv S N D hc hr wr) : ∃ R, RQ wr r R v sv hr := by obtain ⟨R, _, h, _⟩ := h; exact ⟨R, h⟩
theorem Both13.rat (h : Both13 w X b0 b1 g r v sv S N D hc hr wr) : Rat wr b0 1 v N D := by obtain ⟨R, _, _, _, _, w6, h, hl, hh⟩ := h; exact h.rng hl hh
theorem Both13.lies (h : Both13 w X b0 b1 g r v sv S N D hc hr wr) : Lies X wr := by obtain ⟨_, h, _⟩ := h; exact fun k q => h.lies k (.inr q)
theorem Both13.next (h : Both13 w X b0 b1 g r v sv S N D hc hr wr) (hb : Below wr.heap.size wr w') : Both13 w X b0 b1 g r v sv S N D hc hr w' := by
  obtain ⟨R, h1, h2, h3, h4, w6, h5, h6, h7⟩ := h
  exact ⟨R, h1.next hb, h2.below hb, h3, h4, w6, h5, h6, h7.trans (Holds.of_below hb (fun k q => h1.lies k (.inr (h4 k q))))⟩
theorem Both13.less (h : Both13 w X b0 b1 g r v sv S N D hc hr wr) (k : ∀ x, X' x → X x) (k2 : ∀ x, Rng b0 b1 x → X' x) : Both13 w X' b0 b1 g r v sv S N D hc hr wr := by
  obtain ⟨R, h1, h2, h3, h4, h5⟩ := h
  exact ⟨R, h1.less (fun x q => q.imp id (k x)), h2, fun x q z => h3 x q (k x z), k2, h5⟩
theorem Both13.own1 (h : Both13 w X b0 b1 g r v sv S N D hc hr wr) (o : Obj) : Both13 w (fun k => X k ∨ k = wr.heap.size) b0 b1 g r v sv S N D hc hr (wr.alloc o) := by
  have hn := h.next (wbox wr o)
  obtain ⟨R, h1, h2, h3, h4, h5⟩ := h
  obtain ⟨R', n1, n2, n3, n4, n5⟩ := hn
  exact ⟨R, (h1.own1 o).less (fun x q => by rcases q with q | q | q; exact .inl (.inl q); exact .inl (.inr q); exact .inr q), h2.below (wbox _ _), fun x q z => by
    rcases z with z | z
    · exact h3 x q z
    · have := h1.lies x (.inl q); omega, fun x q => .inl (h4 x q), n5⟩
/-- the document's tree, made beside the landed one -/
theorem both13_made {an ad : Option Addr} {ln cn ld cd : Nat} {sa : Option Addr} {n sc : Nat} (h : Mine13 w G0q g S N D hc wr) (hb : Below wr.heap.size wr w') (hv : Rat w' wr.heap.size 1 (.agg #[.slice an ln cn, .slice ad ld cd]) N D) : Both13 w (Rng wr.heap.size w'.heap.size) wr.heap.size w'.heap.size g w'.heap.size (.agg #[.slice an ln cn, .slice ad ld cd]) (.slice sa n sc) S N D hc [] (w'.alloc (.cells #[.slice an ln cn, .slice ad ld cd, .slice sa n sc, .slice none 0 0] 40)) := by
  have h6 : Mine13 w (Rng wr.heap.size w'.heap.size) g S N D hc w' := h.wrote (Keeps.of hb) (fun k q => .inr q.1) (fun k q => q.2)
  exact ⟨fun k => k = w'.heap.size, (h6.own1 (.cells #[.slice an ln cn, .slice ad ld cd, .slice sa n sc, .slice none 0 0] 40)).less (fun x q => q.elim .inr .inl),
    ⟨an, ln, cn, ad, ld, cd, sa, n, sc, .slice none 0 0, rfl, rfl, Blk.new _ _ _, QueR.nil _ _ _ _, (fun e => by cases e), fun k => ⟨fun q => .inl q, fun q => by rcases q with q | q; exact q; cases q⟩⟩, fun k q z => by have := z.2; omega, fun _ q => q, w', hv, Nat.le_refl _, Holds.of_below (wbox _ _) (fun k q => q.2)⟩
theorem Both13.own (h : Both13 w X b0 b1 g r v sv S N D hc hr wr) {hs' : List Hq} {R : Nat → Prop} (h1 : Mine13 w (fun k => R k ∨ X k) g S N D hs' w') (h2 : RQ wr r R v sv hr) (h3 : Apart R X) (hh : Holds (fun k => R k ∨ X k) wr w') : Both13 w X b0 b1 g r v sv S N D hs' hr w' ∧ Holds X wr w' := by
  obtain ⟨_, _, _, _, h4, w6, h5, h6, h7⟩ := h
  have hx : Holds X wr w' := hh.less (fun _ q => .inr q)
  exact ⟨⟨R, h1, h2.holds (hh.less (fun _ q => .inl q)), h3, h4, w6, h5, h6, h7.trans (hx.less h4)⟩, hx⟩
theorem p13join (id s E P : Int) (h : Both13 w X b0 b1 g r v sv S N D hc hr wr) (hl : hc.length ≤ 19) (c : Int) (hs' : List Hq) (hv : joinQ S N D hc id s E P = (c, hs')) : Calls Tryz.prog 20 #[.pointer (some ⟨g, 0, none⟩), .int .i64 id, .int .i64 s, .agg #[.int .i64 E, .int .i64 P]] wr fun z w' => z = .returned (.int .i64 c) ∧ Both13 w X b0 b1 g r v sv S N D hs' hr w' ∧ Holds X wr w' := by
  have h0 := h
  obtain ⟨R, h1, h2, h3, _⟩ := h
  exact (m13join id s E P h1 hl c hs' hv).mono fun _ _ ⟨a, b, d, _⟩ => ⟨a, h0.own b h2 h3 d⟩
theorem q13join {sa : Option Addr} {n0 sc : Nat} (id s E P : Int) (h : Both13 w X b0 b1 g r v (.slice sa n0 sc) S N D hc hr wr) (hS : RowS wr sa n0 sc S) (gl : GoodQ S N D hr) (hl : hr.length ≤ 19) (c : Int) (hs' : List Hq) (hv : joinQ S N D hr id s E P = (c, hs')) : Calls Tryz.prog 21 #[.pointer (some ⟨r, 0, none⟩), .int .i64 id, .int .i64 s, .agg #[.int .i64 E, .int .i64 P]] wr fun z w' => z = .returned (.int .i64 c) ∧ Both13 w X b0 b1 g r v (.slice sa n0 sc) S N D hc hs' w' ∧ Holds X wr w' := by
  have h0 := h
  have hv0 := h.rat
  obtain ⟨R, h1, h2, h3, _⟩ := h
  refine (r13_join r R v sa n0 sc S hr id s E P N D 1 b0 wr h2 hS hv0 gl hl (by omega) c hs' hv).mono fun _ _ ⟨a, b⟩ => ⟨a, ?_⟩
  obtain ⟨R', k2, m⟩ := b
  obtain ⟨R0, n1, n2, n3, n4, w6, n5, n6, n7⟩ := h0
  have lx : Lies X wr := fun k q => h1.lies k (.inr q)
  have hx : Holds X wr _ := ⟨m.keeps.size, fun k q => m.keeps.block k (lx k q) (fun f => h3 k f q)⟩
  refine ⟨⟨R', h1.wrote (m.keeps.more (fun x q => .inl q)) (fun k q => ?_) (fun k q => ?_), k2, h3.moves m lx, n4, w6, n5, n6, n7.trans (hx.less n4)⟩, hx⟩
  · rcases q with q | q
    · exact (m.grow k q).imp .inl (fun z => z)
    · exact .inl (.inr q)
  · rcases q with q | q
    · exact m.lt k q
    · exact Nat.lt_of_lt_of_le (lx k q) m.keeps.size
theorem p13ask (id E P : Int) (h : Both13 w X b0 b1 g r v sv S N D hc hr wr) (hl : hc.length ≤ 19) (c : Int) (hs' : List Hq) (hv : askQ S N D hc id E P = (c, hs')) : Calls Tryz.prog 10 #[.pointer (some ⟨g, 0, none⟩), .int .i64 id, .agg #[.int .i64 E, .int .i64 P]] wr fun z w' => z = .returned (.int .i64 c) ∧ Both13 w X b0 b1 g r v sv S N D hs' hr w' ∧ Holds X wr w' := by
  have h0 := h
  obtain ⟨R, h1, h2, h3, _⟩ := h
  exact (m13ask id E P h1 hl c hs' hv).mono fun _ _ ⟨a, b, d, _⟩ => ⟨a, h0.own b h2 h3 d⟩
theorem q13ask {sa : Option Addr} {n0 sc : Nat} (id E P : Int) (h : Both13 w X b0 b1 g r v (.slice sa n0 sc) S N D hc hr wr) (hS : RowS wr sa n0 sc S) (gl : GoodQ S N D hr) (hl : hr.length ≤ 19) (c : Int) (hs' : List Hq) (hv : askQ S N D hr id E P = (c, hs')) : Calls Tryz.prog 12 #[.pointer (some ⟨r, 0, none⟩), .int .i64 id, .agg #[.int .i64 E, .int .i64 P]] wr fun z w' => z = .returned (.int .i64 c) ∧ Both13 w X b0 b1 g r v (.slice sa n0 sc) S N D hc hs' w' ∧ Holds X wr w' := by
  have h0 := h
  have hv0 := h.rat
  obtain ⟨R, h1, h2, h3, _⟩ := h
  refine (r13_ask r R v sa n0 sc S hr id E P N D 1 b0 wr h2 hS hv0 gl (by omega) (by omega) c hs' hv).mono fun _ _ ⟨a, b⟩ => ⟨a, ?_⟩
  obtain ⟨R', k2, m⟩ := b
  obtain ⟨R0, n1, n2, n3, n4, w6, n5, n6, n7⟩ := h0
  have lx : Lies X wr := fun k q => h1.lies k (.inr q)
  have hx : Holds X wr _ := ⟨m.keeps.size, fun k q => m.keeps.block k (lx k q) (fun f => h3 k f q)⟩
  refine ⟨⟨R', h1.wrote (m.keeps.more (fun x q => .inl q)) (fun k q => ?_) (fun k q => ?_), k2, h3.moves m lx, n4, w6, n5, n6, n7.trans (hx.less n4)⟩, hx⟩
  · rcases q with q | q
    · exact (m.grow k q).imp .inl (fun z => z)
    · exact .inl (.inr q)
  · rcases q with q | q
    · exact m.lt k q
    · exact Nat.lt_of_lt_of_le (lx k q) m.keeps.size
theorem p13settle (id : Int) (h : Both13 w X b0 b1 g r v sv S N D hc hr wr) (hl : hc.length ≤ 19) (c : Int) (hs' : List Hq) (hv : settleQ hc id = (c, hs')) : Calls Tryz.prog 13 #[.pointer (some ⟨g, 0, none⟩), .int .i64 id] wr fun z w' => z = .returned (.int .i64 c) ∧ Both13 w X b0 b1 g r v sv S N D hs' hr w' ∧ Holds X wr w' := by
  have h0 := h
  obtain ⟨R, h1, h2, h3, _⟩ := h
  exact (m13settle id h1 hl c hs' hv).mono fun _ _ ⟨a, b, d, _⟩ => ⟨a, h0.own b h2 h3 d⟩
theorem q13settle (id : Int) (h : Both13 w X b0 b1 g r v sv S N D hc hr wr) (gl : UniqH (lst hr)) (c : Int) (hs' : List Hq) (hv : settleQ hr id = (c, hs')) : Calls Tryz.prog 14 #[.pointer (some ⟨r, 0, none⟩), .int .i64 id] wr fun z w' => z = .returned (.int .i64 c) ∧ Both13 w X b0 b1 g r v sv S N D hc hs' w' ∧ Holds X wr w' := by
  have h0 := h
  have hv0 := h.rat
  obtain ⟨R, h1, h2, h3, _⟩ := h
  refine (r13_settle r R v sv hr id wr h2 gl c hs' hv).mono fun _ _ ⟨a, b⟩ => ⟨a, ?_⟩
  obtain ⟨R', k2, m⟩ := b
  obtain ⟨R0, n1, n2, n3, n4, w6, n5, n6, n7⟩ := h0
  have lx : Lies X wr := fun k q => h1.lies k (.inr q)
  have hx : Holds X wr _ := ⟨m.keeps.size, fun k q => m.keeps.block k (lx k q) (fun f => h3 k f q)⟩
  refine ⟨⟨R', h1.wrote (m.keeps.more (fun x q => .inl q)) (fun k q => ?_) (fun k q => ?_), k2, h3.moves m lx, n4, w6, n5, n6, n7.trans (hx.less n4)⟩, hx⟩
  · rcases q with q | q
    · exact (m.grow k q).imp .inl (fun z => z)
    · exact .inl (.inr q)
  · rcases q with q | q
    · exact m.lt k q
    · exact Nat.lt_of_lt_of_le (lx k q) m.keeps.size
theorem p13free (id : Int) (h : Both13 w X b0 b1 g r v sv S N D hc hr wr) (hl : hc.length ≤ 19) (c : Int) (hs' : List Hq) (hv : freeQ hc id = (c, hs')) : Calls Tryz.prog 15 #[.pointer (some ⟨g, 0, none⟩), .int .i64 id] wr fun z w' => z = .returned (.int .i64 c) ∧ Both13 w X b0 b1 g r v sv S N D hs' hr w' ∧ Holds X wr w' := by
  have h0 := h
  obtain ⟨R, h1, h2, h3, _⟩ := h
  exact (m13free id h1 hl c hs' hv).mono fun _ _ ⟨a, b, d, _⟩ => ⟨a, h0.own b h2 h3 d⟩
theorem q13free (id : Int) (h : Both13 w X b0 b1 g r v sv S N D hc hr wr) (gl : UniqH (lst hr)) (hl : hr.length ≤ 400) (c : Int) (hs' : List Hq) (hv : freeQ hr id = (c, hs')) : Calls Tryz.prog 16 #[.pointer (some ⟨r, 0, none⟩), .int .i64 id] wr fun z w' => z = .returned (.int .i64 c) ∧ Both13 w X b0 b1 g r v sv S N D hc hs' w' ∧ Holds X wr w' := by
  have h0 := h
  have hv0 := h.rat
  obtain ⟨R, h1, h2, h3, _⟩ := h
  refine (r13_free r R v sv hr id wr h2 gl hl c hs' hv).mono fun _ _ ⟨a, b⟩ => ⟨a, ?_⟩
  obtain ⟨R', k2, m⟩ := b
  obtain ⟨R0, n1, n2, n3, n4, w6, n5, n6, n7⟩ := h0
  have lx : Lies X wr := fun k q => h1.lies k (.inr q)
  have hx : Holds X wr _ := ⟨m.keeps.size, fun k q => m.keeps.block k (lx k q) (fun f => h3 k f q)⟩
  refine ⟨⟨R', h1.wrote (m.keeps.more (fun x q => .inl q)) (fun k q => ?_) (fun k q => ?_), k2, h3.moves m lx, n4, w6, n5, n6, n7.trans (hx.less n4)⟩, hx⟩
  · rcases q with q | q
    · exact (m.grow k q).imp .inl (fun z => z)
    · exact .inl (.inr q)
  · rcases q with q | q
    · exact m.lt k q
    · exact Nat.lt_of_lt_of_le (lx k q) m.keeps.size
theorem p13path (s : Int) (h : Both13 w X b0 b1 g r v sv S N D hc hr wr) : Calls Tryz.prog 18 #[.pointer (some ⟨g, 0, none⟩), .int .i64 s] wr fun z w' => ∃ a len cap, z = .returned (.slice a len cap) ∧ Row .i64 w' a len cap (pathT S s) ∧ Below wr.heap.size wr w' := by
  obtain ⟨R, h1, _⟩ := h
  exact (m13path s h1).mono fun _ _ ⟨a, len, cap, e, h1, _, h2⟩ => ⟨a, len, cap, e, h1, h2⟩
theorem q13path {sa : Option Addr} {n0 sc : Nat} (s : Int) (h : Both13 w X b0 b1 g r v (.slice sa n0 sc) S N D hc hr wr) (hS : RowS wr sa n0 sc S) : Calls Tryz.prog 19 #[.pointer (some ⟨r, 0, none⟩), .int .i64 s] wr fun z w' => ∃ a len cap, z = .returned (.slice a len cap) ∧ Row .i64 w' a len cap (pathT S s) ∧ Below wr.heap.size wr w' := by
  have gs := h.good.sv
  obtain ⟨R, h1, h2, _⟩ := h
  exact (r13path_any r R v sa n0 sc S hr s wr h2 hS gs).mono fun _ _ ⟨a, len, cap, e, h1, _, h2⟩ => ⟨a, len, cap, e, h1, h2⟩
theorem q13at (id : Int) (h : Both13 w X b0 b1 g r v sv S N D hc hr wr) : Calls Tryz.prog 22 #[.pointer (some ⟨r, 0, none⟩), .int .i64 id] wr fun e w' => ∃ k, e = .returned (.int .i64 k) ∧ AtV (lst hr) id k ∧ wr = w' := by
  obtain ⟨R, h1, h2, _⟩ := h
  exact r13at_any r R v sv hr id wr h2
theorem p13server (id s : Int) (h : Both13 w X b0 b1 g r v sv S N D hc hr wr) (hs' : serverQ hc id = s) : Calls Tryz.prog 23 #[.pointer (some ⟨g, 0, none⟩), .int .i64 id] wr fun z w' => z = .returned (.int .i64 s) ∧ wr = w' := by
  obtain ⟨R, h1, _⟩ := h
  exact m13server id h1 s hs'
theorem p13held (x : Int) (h : Both13 w X b0 b1 g r v sv S N D hc hr wr) (hl : hc.length ≤ 20) (N' D' : Int) (hv : heldQ S x hc = (N', D')) : Calls Tryz.prog 25 #[.pointer (some ⟨g, 0, none⟩), .int .i64 x] wr fun z w' => ∃ v n d, z = .returned v ∧ Rat w' 0 14 v n d ∧ n * D' = N' * d ∧ Below wr.heap.size wr w' := by
  obtain ⟨R, h1, _⟩ := h
  exact (m13held x h1 hl N' D' hv).mono fun _ _ ⟨v, n, d, a1, a2, a3, a4, a5⟩ => ⟨v, n, d, a1, a2, a4, a5⟩
theorem q13held {sa : Option Addr} {n0 sc : Nat} (x : Int) (h : Both13 w X b0 b1 g r v (.slice sa n0 sc) S N D hc hr wr) (hS : RowS wr sa n0 sc S) (gl : GoodQ S N D hr) (hl : hr.length ≤ 20) (N' D' : Int) (hv : heldQ S x hr = (N', D')) : Calls Tryz.prog 26 #[.pointer (some ⟨r, 0, none⟩), .int .i64 x] wr fun z w' => ∃ v, z = .returned v ∧ Rat w' 0 14 v N' D' ∧ Below wr.heap.size wr w' := by
  obtain ⟨R, h1, h2, _⟩ := h
  have hb := heldQ_bd gl hl x
  have hc := r13Held_any r R v sa n0 sc S hr x wr h2 hS gl.sv gl.each gl.srv hl
  rw [hv] at hb hc
  exact hc.mono fun _ _ ⟨v, a1, a2, a3⟩ => ⟨v, a1, (a2.mono (Nat.zero_le _) (Nat.le_refl _)).tight hb.2.1 hb.2.2.2, a3⟩
end
end Go.Proofs.YtbonilmlfelmpaaGreat
