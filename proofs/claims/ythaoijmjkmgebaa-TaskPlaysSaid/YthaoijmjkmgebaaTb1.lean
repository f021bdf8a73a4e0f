/-
  A task of package task and one of the document's, side by side: contracts.
-/
import Derived.Test.YthaoijmjkmgebaaTr5
import Derived.Test.YthaoijmjkmgebaaTk1
namespace Go.Proofs.Ythaoijmjkmgebaa
open Go.RowKit

theorem Holds.trans {G : Nat → Prop} {a b c : World} (h : Holds G a b) (k : Holds G b c) : Holds G a c := ⟨Nat.le_trans h.size k.size, fun x q => (k.block x q).trans (h.block x q)⟩
theorem Holds.of {G : Nat → Prop} {w w' : World} (h : Below w.heap.size w w') (hl : Lies G w) : Holds G w w' := ⟨h.size, fun k q => h.block k (hl k q)⟩
theorem Holds.drew {G : Nat → Prop} (w : World) : Holds G w w.drew := ⟨Nat.le_refl _, fun _ _ => rfl⟩
theorem Holds.keeps {G : Nat → Prop} {w w' : World} (h : Holds G w w') : ∀ k, G k → w'.heap[k]? = w.heap[k]? := h.block
theorem RT.holds {W W' : World} {r : Nat} {F : Nat → Prop} {t : TS} (h : RT W r F t) (hh : Holds F W W') : RT W' r F t := by
  obtain ⟨v, hb, hq, hn, hF⟩ := h
  exact ⟨v, hh.blk hb ((hF r).mpr (.inl rfl)), QueR.carry hq (fun k q => hh.block k ((hF k).mpr (.inr q))), hn, hF⟩
/-- both tasks, and the law's own blocks X -/
def Both10 (Hp : World → Nat → (Nat → Prop) → TS → Prop) (w : World) (X : Nat → Prop) (g r : Nat) (tc tr : TS) (wr : World) : Prop :=
  ∃ G, Mine Hp w (fun k => G k ∨ X k) g tc wr ∧ RT wr r G tr ∧ Apart G X
section
variable {Hp : World → Nat → (Nat → Prop) → TS → Prop}
theorem both_new (ok : TaskOk Hp) {w w3 w4 : World} {X F : Nat → Prop} {g r : Nat} {t tr : TS} (h : Mine Hp w X g t w3) (hr : RT w4 r F tr) (hf : From F w3.heap.size) (hb : Below w3.heap.size w3 w4) : Both10 Hp w X g r t tr w4 :=
  ⟨F, h.wrote ok (Keeps.of hb) (fun k q => q.elim (fun z => .inr (hf k z)) .inl) (fun k q => q.elim (fun z => hr.lies k z) (fun z => Nat.lt_of_lt_of_le (h.lies k z) hb.size)), hr, fun k q z => by have := hf k q; have := h.lies k z; omega⟩
theorem Both10.below {w wr : World} {X : Nat → Prop} {g r : Nat} {tc tr : TS} (h : Both10 Hp w X g r tc tr wr) : Below w.heap.size w wr := by
  obtain ⟨G, h1, _⟩ := h
  exact h1.below
theorem Both10.lies {w wr : World} {X : Nat → Prop} {g r : Nat} {tc tr : TS} (h : Both10 Hp w X g r tc tr wr) : Lies X wr := by
  obtain ⟨G, h1, _⟩ := h
  exact fun k q => h1.lies k (.inr q)
theorem Both10.good (ok : TaskOk Hp) {w wr : World} {X : Nat → Prop} {g r : Nat} {tc tr : TS} (h : Both10 Hp w X g r tc tr wr) : GoodT tc := by
  obtain ⟨G, h1, _⟩ := h
  exact h1.good ok
theorem Both10.next (ok : TaskOk Hp) {w wr w' : World} {X : Nat → Prop} {g r : Nat} {tc tr : TS} (h : Both10 Hp w X g r tc tr wr) (hb : Below wr.heap.size wr w') : Both10 Hp w X g r tc tr w' := by
  obtain ⟨G, h1, h2, h3⟩ := h
  exact ⟨G, h1.next ok hb, h2.below hb, h3⟩
theorem Both10.less (ok : TaskOk Hp) {w wr : World} {X X' : Nat → Prop} {g r : Nat} {tc tr : TS} (h : Both10 Hp w X g r tc tr wr) (hx : ∀ k, X' k → X k) : Both10 Hp w X' g r tc tr wr := by
  obtain ⟨G, h1, h2, h3⟩ := h
  exact ⟨G, h1.less ok (fun k q => q.imp id (hx k)), h2, fun k q z => h3 k q (hx k z)⟩
/-- the law's own block, new -/
theorem Both10.own1 (ok : TaskOk Hp) {w wr : World} {X : Nat → Prop} {g r : Nat} {tc tr : TS} (h : Both10 Hp w X g r tc tr wr) (o : Obj) : Both10 Hp w (fun k => X k ∨ k = wr.heap.size) g r tc tr (wr.alloc o) := by
  obtain ⟨G, h1, h2, h3⟩ := h
  refine ⟨G, (h1.own1 ok o).less ok (fun k q => ?_), h2.below (wbox _ _), fun k q z => ?_⟩
  · rcases q with q | q | q
    · exact .inl (.inl q)
    · exact .inl (.inr q)
    · exact .inr q
  · rcases z with z | z
    · exact h3 k q z
    · have := h2.lies k q; omega
/-- a call on the document's -/
theorem Both10.ref (ok : TaskOk Hp) {w wr w' : World} {X G G' : Nat → Prop} {g r : Nat} {tc tr' : TS} (h1 : Mine Hp w (fun k => G k ∨ X k) g tc wr) (h3 : Apart G X) (h2 : RT w' r G' tr') (m : Moves G G' wr w') : Both10 Hp w X g r tc tr' w' ∧ Holds X wr w' := by
  have lx : Lies X wr := fun k q => h1.lies k (.inr q)
  refine ⟨⟨G', h1.wrote ok (G' := fun k => G' k ∨ X k) ⟨m.keeps.os, m.keeps.tape, m.keeps.output, m.keeps.size, fun k p q => m.keeps.block k p (fun z => q (.inl z))⟩ (fun k q => ?_) (fun k q => ?_), h2, h3.moves m lx⟩, ⟨m.keeps.size, fun k q => m.keeps.block k (lx k q) (fun z => h3 k z q)⟩⟩
  · rcases q with q | q
    · exact (m.grow k q).imp .inl id
    · exact .inl (.inr q)
  · rcases q with q | q
    · exact m.lt k q
    · exact lx.next m.keeps.size k q
variable (ok : TaskOk Hp) {w wr : World} {X : Nat → Prop} (g r : Nat) (tc tr : TS)
include ok
theorem p10arrive (at_ n : Int) (h : Both10 Hp w X g r tc tr wr) (hc : tc.came ≤ 100000) : Calls Try.prog 19 #[.pointer (some ⟨g, 0, none⟩), .int .i64 at_, .int .i64 n] wr fun z w' => z = .returned (.int .i64 (arriveE tc at_ n)) ∧ Both10 Hp w X g r (arriveT tc at_ n) tr w' ∧ Holds X wr w' := by
  obtain ⟨G, h1, h2, h3⟩ := h
  exact (marrive ok g tc at_ n h1 hc).mono fun z w' ⟨a, b, c⟩ => ⟨a, ⟨G, b, h2.holds (c.less (fun _ q => .inl q)), h3⟩, c.less (fun _ q => .inr q)⟩
theorem q10arrive (at_ n : Int) (h : Both10 Hp w X g r tc tr wr) (hg : GoodT tr) (hc : tr.came ≤ 100000) : Calls Try.prog 20 #[.pointer (some ⟨r, 0, none⟩), .int .i64 at_, .int .i64 n] wr fun z w' => z = .returned (.int .i64 (arriveE tr at_ n)) ∧ Both10 Hp w X g r tc (arriveT tr at_ n) w' ∧ Holds X wr w' := by
  have H := h
  obtain ⟨G, h1, h2, h3⟩ := h
  exact (r10arrive_any r G tr wr at_ n h2 hg hc).mono fun z w' ⟨a, G', b, c⟩ => ⟨a, Both10.ref ok h1 h3 b c⟩
theorem p10run (h : Both10 Hp w X g r tc tr wr) (hc : tc.done ≤ 100000) : Calls Try.prog 13 #[.pointer (some ⟨g, 0, none⟩)] wr fun z w' => z = .returned (.tuple #[(headS tc).v, .bool (someB tc)]) ∧ Both10 Hp w X g r (runT tc) tr w' ∧ Holds X wr w' := by
  obtain ⟨G, h1, h2, h3⟩ := h
  exact (mrun ok g tc h1 hc).mono fun z w' ⟨a, b, c⟩ => ⟨a, ⟨G, b, h2.holds (c.less (fun _ q => .inl q)), h3⟩, c.less (fun _ q => .inr q)⟩
theorem q10run (h : Both10 Hp w X g r tc tr wr) (hg : GoodT tr) (hc : tr.done ≤ 1000000000) : Calls Try.prog 14 #[.pointer (some ⟨r, 0, none⟩)] wr fun z w' => z = .returned (.tuple #[(headS tr).v, .bool (someB tr)]) ∧ Both10 Hp w X g r tc (runT tr) w' ∧ Holds X wr w' := by
  have H := h
  obtain ⟨G, h1, h2, h3⟩ := h
  exact (r10run_any r G tr wr h2 hg hc).mono fun z w' ⟨a, G', b, c⟩ => ⟨a, Both10.ref ok h1 h3 b c⟩
theorem p10ready (at_ : Int) (h : Both10 Hp w X g r tc tr wr) : Calls Try.prog 15 #[.pointer (some ⟨g, 0, none⟩), .int .i64 at_] wr fun z w' => z = .returned (.tuple #[(readyS tc at_).v, .bool (readyB tc at_)]) ∧ Both10 Hp w X g r (tc) tr w' ∧ Holds X wr w' := by
  obtain ⟨G, h1, h2, h3⟩ := h
  exact (mready ok g tc at_ h1).mono fun z w' ⟨a, b, c⟩ => ⟨a, ⟨G, b, h2.holds (c.less (fun _ q => .inl q)), h3⟩, c.less (fun _ q => .inr q)⟩
theorem q10ready (at_ : Int) (h : Both10 Hp w X g r tc tr wr) : Calls Try.prog 16 #[.pointer (some ⟨r, 0, none⟩), .int .i64 at_] wr fun z w' => z = .returned (.tuple #[(readyS tr at_).v, .bool (readyB tr at_)]) ∧ Both10 Hp w X g r tc (tr) w' ∧ Holds X wr w' := by
  have H := h
  obtain ⟨G, h1, h2, h3⟩ := h
  exact (r10ready_any r G tr wr at_ h2).mono fun z w' ⟨a, b⟩ => ⟨a, H.next ok b, Holds.of b H.lies⟩
theorem p10cut (at_ : Int) (h : Both10 Hp w X g r tc tr wr) : Calls Try.prog 17 #[.pointer (some ⟨g, 0, none⟩), .int .i64 at_] wr fun z w' => z = .returned (.int .i64 (cutN tc at_)) ∧ Both10 Hp w X g r (cutT tc at_) tr w' ∧ Holds X wr w' := by
  obtain ⟨G, h1, h2, h3⟩ := h
  exact (mcut ok g tc at_ h1).mono fun z w' ⟨a, b, c⟩ => ⟨a, ⟨G, b, h2.holds (c.less (fun _ q => .inl q)), h3⟩, c.less (fun _ q => .inr q)⟩
theorem q10cut (at_ : Int) (h : Both10 Hp w X g r tc tr wr) (hg : GoodT tr) : Calls Try.prog 18 #[.pointer (some ⟨r, 0, none⟩), .int .i64 at_] wr fun z w' => z = .returned (.int .i64 (cutN tr at_)) ∧ Both10 Hp w X g r tc (cutT tr at_) w' ∧ Holds X wr w' := by
  have H := h
  obtain ⟨G, h1, h2, h3⟩ := h
  exact (r10cuts_any r G tr wr at_ h2 hg).mono fun z w' ⟨a, G', b, c⟩ => ⟨a, Both10.ref ok h1 h3 b c⟩
theorem p10last (h : Both10 Hp w X g r tc tr wr) : Calls Try.prog 21 #[.pointer (some ⟨g, 0, none⟩)] wr fun z w' => z = .returned (.tuple #[(lastS tc).v, .bool (lastB tc)]) ∧ Both10 Hp w X g r (tc) tr w' ∧ Holds X wr w' := by
  obtain ⟨G, h1, h2, h3⟩ := h
  exact (mlast ok g tc h1).mono fun z w' ⟨a, b, c⟩ => ⟨a, ⟨G, b, h2.holds (c.less (fun _ q => .inl q)), h3⟩, c.less (fun _ q => .inr q)⟩
theorem q10last (h : Both10 Hp w X g r tc tr wr) (hg : GoodT tr) : Calls Try.prog 22 #[.pointer (some ⟨r, 0, none⟩)] wr fun z w' => z = .returned (.tuple #[(lastS tr).v, .bool (lastB tr)]) ∧ Both10 Hp w X g r tc (tr) w' ∧ Holds X wr w' := by
  have H := h
  obtain ⟨G, h1, h2, h3⟩ := h
  exact (r10last_any r G tr wr h2 hg).mono fun z w' ⟨a, b⟩ => ⟨a, H.next ok b, Holds.of b H.lies⟩
theorem p10head (h : Both10 Hp w X g r tc tr wr) : Calls Try.prog 23 #[.pointer (some ⟨g, 0, none⟩)] wr fun z w' => z = .returned (.tuple #[(headS tc).v, .bool (someB tc)]) ∧ Both10 Hp w X g r (tc) tr w' ∧ Holds X wr w' := by
  obtain ⟨G, h1, h2, h3⟩ := h
  exact (mhead ok g tc h1).mono fun z w' ⟨a, b, c⟩ => ⟨a, ⟨G, b, h2.holds (c.less (fun _ q => .inl q)), h3⟩, c.less (fun _ q => .inr q)⟩
theorem p10when (h : Both10 Hp w X g r tc tr wr) : Calls Try.prog 24 #[.pointer (some ⟨g, 0, none⟩)] wr fun z w' => z = .returned (.tuple #[.int .i64 (whenV tc), .bool (someB tc)]) ∧ Both10 Hp w X g r (tc) tr w' ∧ Holds X wr w' := by
  obtain ⟨G, h1, h2, h3⟩ := h
  exact (mwhen ok g tc h1).mono fun z w' ⟨a, b, c⟩ => ⟨a, ⟨G, b, h2.holds (c.less (fun _ q => .inl q)), h3⟩, c.less (fun _ q => .inr q)⟩
theorem p10weight (h : Both10 Hp w X g r tc tr wr) : Calls Try.prog 27 #[.pointer (some ⟨g, 0, none⟩)] wr fun z w' => z = .returned (.agg #[.int .i64 tc.E, .int .i64 tc.P]) ∧ Both10 Hp w X g r (tc) tr w' ∧ Holds X wr w' := by
  obtain ⟨G, h1, h2, h3⟩ := h
  exact (mweight ok g tc h1).mono fun z w' ⟨a, b, c⟩ => ⟨a, ⟨G, b, h2.holds (c.less (fun _ q => .inl q)), h3⟩, c.less (fun _ q => .inr q)⟩
end
end Go.Proofs.Ythaoijmjkmgebaa
