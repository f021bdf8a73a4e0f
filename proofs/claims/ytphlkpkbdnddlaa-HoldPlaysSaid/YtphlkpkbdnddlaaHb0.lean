/-
  Both ledgers side by side: the landed one, and the document's. (Written by wip/tools/gen_hb0.py.)
-/
import Derived.Test.YtphlkpkbdnddlaaHv1
namespace Go.Proofs.Ytphlkpkbdnddlaa
open Go.RowKit

theorem RL.holds {W W' : World} {r : Nat} {F : Nat → Prop} {v : Value} {hs : List Hd} (h : RL W r F v hs) (k : Holds F W W') : RL W' r F v hs := by
  obtain ⟨an, ln, cn, ad, ld, cd, u, hv, hb, hq, hn, hF⟩ := h
  exact ⟨an, ln, cn, ad, ld, cd, u, hv, k.blk hb ((hF r).mpr (.inl rfl)), QueR.carry hq (fun g q => k.block g ((hF g).mpr (.inr q))), hn, hF⟩
theorem Keeps.more {F G : Nat → Prop} {w w' : World} (h : Keeps F w w') (k : ∀ x, F x → G x) : Keeps G w w' := ⟨h.os, h.tape, h.output, h.size, fun x hx hg => h.block x hx (fun q => hg (k x q))⟩
theorem Holds.less {G G' : Nat → Prop} {w w' : World} (h : Holds G w w') (k : ∀ x, G' x → G x) : Holds G' w w' := ⟨h.size, fun x q => h.block x (k x q)⟩
section
variable {Hp : World → Nat → (Nat → Prop) → (Nat → Prop) → Int → Int → List Hd → Prop}
def Both12 (Hp : World → Nat → (Nat → Prop) → (Nat → Prop) → Int → Int → List Hd → Prop) (w : World) (X : Nat → Prop) (g r : Nat) (v : Value) (N D : Int) (hc hr : List Hd) (wr : World) : Prop :=
  ∃ R, Mine12 Hp w (fun k => R k ∨ X k) g N D hc wr ∧ RL wr r R v hr ∧ Apart R X
variable {w wr w' : World} {X X' : Nat → Prop} {g r : Nat} {v : Value} {N D : Int} {hc hr : List Hd}
theorem Both12.below (h : Both12 Hp w X g r v N D hc hr wr) : Below w.heap.size w wr := by obtain ⟨_, h, _⟩ := h; exact h.below
theorem Both12.good (ok : HoldOk Hp) (h : Both12 Hp w X g r v N D hc hr wr) : GoodL N D hc := by obtain ⟨_, h, _⟩ := h; exact h.good ok
theorem Both12.mine (h : Both12 Hp w X g r v N D hc hr wr) : ∃ G, Mine12 Hp w G g N D hc wr := by obtain ⟨_, h, _⟩ := h; exact ⟨_, h⟩
theorem Both12.row (h : Both12 Hp w X g r v N D hc hr wr) : ∃ R, RL wr r R v hr := by obtain ⟨R, _, h, _⟩ := h; exact ⟨R, h⟩
theorem Both12.lies (h : Both12 Hp w X g r v N D hc hr wr) : Lies X wr := by obtain ⟨_, h, _⟩ := h; exact fun k q => h.lies k (.inr q)
theorem Both12.next (ok : HoldOk Hp) (h : Both12 Hp w X g r v N D hc hr wr) (hb : Below wr.heap.size wr w') : Both12 Hp w X g r v N D hc hr w' := by
  obtain ⟨R, h1, h2, h3⟩ := h
  exact ⟨R, h1.next ok hb, h2.below hb, h3⟩
theorem Both12.less (ok : HoldOk Hp) (h : Both12 Hp w X g r v N D hc hr wr) (k : ∀ x, X' x → X x) : Both12 Hp w X' g r v N D hc hr wr := by
  obtain ⟨R, h1, h2, h3⟩ := h
  exact ⟨R, h1.less ok (fun x q => q.imp id (k x)), h2, fun x q z => h3 x q (k x z)⟩
theorem Both12.own1 (ok : HoldOk Hp) (h : Both12 Hp w X g r v N D hc hr wr) (o : Obj) : Both12 Hp w (fun k => X k ∨ k = wr.heap.size) g r v N D hc hr (wr.alloc o) := by
  obtain ⟨R, h1, h2, h3⟩ := h
  exact ⟨R, (h1.own1 ok o).less ok (fun x q => by rcases q with q | q | q; exact .inl (.inl q); exact .inl (.inr q); exact .inr q), h2.below (wbox _ _), fun x q z => by
    rcases z with z | z
    · exact h3 x q z
    · have := h1.lies x (.inl q); omega⟩
theorem Both12.own2 (ok : HoldOk Hp) {b1 b2 : Nat} (h : Both12 Hp w X g r v N D hc hr wr) (hb : Below wr.heap.size wr w') (h1 : wr.heap.size ≤ b1) (l1 : b1 < w'.heap.size) (h2 : wr.heap.size ≤ b2) (l2 : b2 < w'.heap.size) : Both12 Hp w (fun k => (X k ∨ k = b1) ∨ k = b2) g r v N D hc hr w' := by
  obtain ⟨R, k1, k2, k3⟩ := h
  exact ⟨R, (k1.own2 ok hb h1 l1 h2 l2).less ok (fun x q => by rcases q with q | (q | q) | q; exact .inl (.inl (.inl q)); exact .inl (.inl (.inr q)); exact .inl (.inr q); exact .inr q), k2.below hb, fun x q z => by
    have := k1.lies x (.inl q)
    rcases z with (z | z) | z
    · exact k3 x q z
    · omega
    · omega⟩
/-- the document's ledger, made beside the landed one -/
theorem both_made (ok : HoldOk Hp) {an ad : Option Addr} {ln cn ld cd : Nat} (h : Mine12 Hp w G0 g N D hc wr) : Both12 Hp w G0 g wr.heap.size (.agg #[.slice an ln cn, .slice ad ld cd]) N D hc [] (wr.alloc (.cells #[.slice an ln cn, .slice ad ld cd, .slice none 0 0] 35)) :=
  ⟨fun k => k = wr.heap.size, (h.own1 ok (.cells #[.slice an ln cn, .slice ad ld cd, .slice none 0 0] 35)).less ok (fun x q => by rcases q with q | q; exact .inr q; exact q.elim),
    ⟨an, ln, cn, ad, ld, cd, .slice none 0 0, rfl, Blk.new _ _ _, QueR.nil _ _ _ _, (fun e => by cases e), fun k => ⟨fun q => .inl q, fun q => by rcases q with q | q; exact q; cases q⟩⟩, fun _ _ q => q.elim⟩
theorem Both12.ref (ok : HoldOk Hp) {R : Nat → Prop} {hr' : List Hd} (h1 : Mine12 Hp w (fun k => R k ∨ X k) g N D hc wr) (h3 : Apart R X) (h : HStay wr r R v hr' w') : Both12 Hp w X g r v N D hc hr' w' ∧ Holds X wr w' := by
  obtain ⟨R', h2, m⟩ := h
  have lx : Lies X wr := fun k q => h1.lies k (.inr q)
  refine ⟨⟨R', h1.wrote ok (m.keeps.more (fun x q => .inl q)) (fun k q => ?_) (fun k q => ?_), h2, h3.moves m lx⟩, ⟨m.keeps.size, fun k q => m.keeps.block k (lx k q) (fun f => h3 k f q)⟩⟩
  · rcases q with q | q
    · exact (m.grow k q).imp .inl id
    · exact .inl (.inr q)
  · rcases q with q | q
    · exact m.lt k q
    · exact Nat.lt_of_lt_of_le (lx k q) m.keeps.size
theorem p12join (ok : HoldOk Hp) (id E P : Int) (h : Both12 Hp w X g r v N D hc hr wr) (hl : hc.length ≤ 19) (c : Int) (hs' : List Hd) (hv : joinV N D hc id E P = (c, hs')) : Calls Try.prog 23 #[.pointer (some ⟨g, 0, none⟩), .int .i64 id, .agg #[.int .i64 E, .int .i64 P]] wr fun z w' => z = .returned (.int .i64 c) ∧ Both12 Hp w X g r v N D hs' hr w' ∧ Holds X wr w' := by
  obtain ⟨R, h1, h2, h3⟩ := h
  exact (hjoin ok g hc id E P h1 hl c hs' hv).mono fun _ _ ⟨a, b, d, _⟩ => ⟨a, ⟨R, b, h2.holds (d.less (fun _ q => .inl q)), h3⟩, d.less (fun _ q => .inr q)⟩
theorem q12join (ok : HoldOk Hp) {b L : Nat} (id E P : Int) (h : Both12 Hp w X g r v N D hc hr wr) (ha : Rat wr b L v N D) (gl : GoodL N D hr) (hl : hr.length ≤ 19) (hL : L ≤ 9) (c : Int) (hs' : List Hd) (hv : joinV N D hr id E P = (c, hs')) : Calls Try.prog 24 #[.pointer (some ⟨r, 0, none⟩), .int .i64 id, .agg #[.int .i64 E, .int .i64 P]] wr fun z w' => z = .returned (.int .i64 c) ∧ Both12 Hp w X g r v N D hc hs' w' ∧ Holds X wr w' := by
  obtain ⟨R, h1, h2, h3⟩ := h
  exact (r12_join r R v hr id E P N D L b wr h2 ha gl hl hL c hs' hv).mono fun _ _ ⟨a, b⟩ => ⟨a, Both12.ref ok h1 h3 b⟩
theorem p12ask (ok : HoldOk Hp) (id E P : Int) (h : Both12 Hp w X g r v N D hc hr wr) (hl : hc.length ≤ 19) (c : Int) (hs' : List Hd) (hv : askV N D hc id E P = (c, hs')) : Calls Try.prog 13 #[.pointer (some ⟨g, 0, none⟩), .int .i64 id, .agg #[.int .i64 E, .int .i64 P]] wr fun z w' => z = .returned (.int .i64 c) ∧ Both12 Hp w X g r v N D hs' hr w' ∧ Holds X wr w' := by
  obtain ⟨R, h1, h2, h3⟩ := h
  exact (hask ok g hc id E P h1 hl c hs' hv).mono fun _ _ ⟨a, b, d, _⟩ => ⟨a, ⟨R, b, h2.holds (d.less (fun _ q => .inl q)), h3⟩, d.less (fun _ q => .inr q)⟩
theorem q12ask (ok : HoldOk Hp) {b L : Nat} (id E P : Int) (h : Both12 Hp w X g r v N D hc hr wr) (ha : Rat wr b L v N D) (gl : GoodL N D hr) (hl : hr.length ≤ 20) (hL : L ≤ 9) (c : Int) (hs' : List Hd) (hv : askV N D hr id E P = (c, hs')) : Calls Try.prog 14 #[.pointer (some ⟨r, 0, none⟩), .int .i64 id, .agg #[.int .i64 E, .int .i64 P]] wr fun z w' => z = .returned (.int .i64 c) ∧ Both12 Hp w X g r v N D hc hs' w' ∧ Holds X wr w' := by
  obtain ⟨R, h1, h2, h3⟩ := h
  exact (r12_ask r R v hr id E P N D L b wr h2 ha gl hl hL c hs' hv).mono fun _ _ ⟨a, b⟩ => ⟨a, Both12.ref ok h1 h3 b⟩
theorem p12settle (ok : HoldOk Hp) (id : Int) (h : Both12 Hp w X g r v N D hc hr wr) (hl : hc.length ≤ 19) (c : Int) (hs' : List Hd) (hv : settleV hc id = (c, hs')) : Calls Try.prog 15 #[.pointer (some ⟨g, 0, none⟩), .int .i64 id] wr fun z w' => z = .returned (.int .i64 c) ∧ Both12 Hp w X g r v N D hs' hr w' ∧ Holds X wr w' := by
  obtain ⟨R, h1, h2, h3⟩ := h
  exact (hsettle ok g hc id h1 hl c hs' hv).mono fun _ _ ⟨a, b, d, _⟩ => ⟨a, ⟨R, b, h2.holds (d.less (fun _ q => .inl q)), h3⟩, d.less (fun _ q => .inr q)⟩
theorem q12settle (ok : HoldOk Hp) (id : Int) (h : Both12 Hp w X g r v N D hc hr wr) (gl : UniqH hr) (c : Int) (hs' : List Hd) (hv : settleV hr id = (c, hs')) : Calls Try.prog 16 #[.pointer (some ⟨r, 0, none⟩), .int .i64 id] wr fun z w' => z = .returned (.int .i64 c) ∧ Both12 Hp w X g r v N D hc hs' w' ∧ Holds X wr w' := by
  obtain ⟨R, h1, h2, h3⟩ := h
  exact (r12_settle r R v hr id wr h2 gl c hs' hv).mono fun _ _ ⟨a, b⟩ => ⟨a, Both12.ref ok h1 h3 b⟩
theorem p12free (ok : HoldOk Hp) (id : Int) (h : Both12 Hp w X g r v N D hc hr wr) (hl : hc.length ≤ 19) (c : Int) (hs' : List Hd) (hv : freeV hc id = (c, hs')) : Calls Try.prog 17 #[.pointer (some ⟨g, 0, none⟩), .int .i64 id] wr fun z w' => z = .returned (.int .i64 c) ∧ Both12 Hp w X g r v N D hs' hr w' ∧ Holds X wr w' := by
  obtain ⟨R, h1, h2, h3⟩ := h
  exact (hfree ok g hc id h1 hl c hs' hv).mono fun _ _ ⟨a, b, d, _⟩ => ⟨a, ⟨R, b, h2.holds (d.less (fun _ q => .inl q)), h3⟩, d.less (fun _ q => .inr q)⟩
theorem q12free (ok : HoldOk Hp) (id : Int) (h : Both12 Hp w X g r v N D hc hr wr) (gl : UniqH hr) (hl : hr.length ≤ 400) (c : Int) (hs' : List Hd) (hv : freeV hr id = (c, hs')) : Calls Try.prog 18 #[.pointer (some ⟨r, 0, none⟩), .int .i64 id] wr fun z w' => z = .returned (.int .i64 c) ∧ Both12 Hp w X g r v N D hc hs' w' ∧ Holds X wr w' := by
  obtain ⟨R, h1, h2, h3⟩ := h
  exact (r12_free r R v hr id wr h2 gl hl c hs' hv).mono fun _ _ ⟨a, b⟩ => ⟨a, Both12.ref ok h1 h3 b⟩
end
end Go.Proofs.Ytphlkpkbdnddlaa
