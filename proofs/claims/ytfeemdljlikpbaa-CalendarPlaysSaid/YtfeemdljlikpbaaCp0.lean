/-
  A calendar of package calendar and one of the document's, side by side: contracts.
-/
import Derived.Test.YtfeemdljlikpbaaCd0
namespace Go.Proofs.Ytfeemdljlikpbaa
open Go.RowKit

theorem Holds.less {G G' : Nat → Prop} {w w' : World} (h : Holds G w w') (k : ∀ x, G' x → G x) : Holds G' w w' := ⟨h.size, fun x q => h.block x (k x q)⟩
theorem RC.holds {W W' : World} {g : Nat} {F : Nat → Prop} {es : List Ev} (h : RC W g F es) (hh : Holds F W W') : RC W' g F es := by
  obtain ⟨a, cap, hb, hr, hF, hl⟩ := h
  exact ⟨a, cap, hh.blk hb ((hF g).mpr (.inl rfl)), hh.row hr (fun ad e => (hF _).mpr (.inr ⟨ad, e, rfl⟩)), hF, fun ad e => ⟨(hl ad e).1, Nat.lt_of_lt_of_le (hl ad e).2.1 hh.size, (hl ad e).2.2⟩⟩
/-- both calendars, and the law's own blocks X -/
def Both8 (Hp : World → Nat → (Nat → Prop) → List Ev → Prop) (w : World) (X : Nat → Prop) (g r : Nat) (ec er : List Ev) (wr : World) : Prop :=
  ∃ G, Mine8 Hp w (fun k => G k ∨ X k) g ec wr ∧ RC wr r G er ∧ Apart G X
section
variable {Hp : World → Nat → (Nat → Prop) → List Ev → Prop}
theorem Both8.below {w wr : World} {X : Nat → Prop} {g r : Nat} {ec er : List Ev} (h : Both8 Hp w X g r ec er wr) : Below w.heap.size w wr := by
  obtain ⟨G, h1, _⟩ := h
  exact h1.below
theorem Both8.lies {w wr : World} {X : Nat → Prop} {g r : Nat} {ec er : List Ev} (h : Both8 Hp w X g r ec er wr) : Lies X wr := by
  obtain ⟨G, ⟨_, _, _, _, _, h5, _⟩, _⟩ := h
  exact fun k q => h5 k (.inr q)
theorem Both8.own (ok : CalOk Hp) {w wr : World} {X : Nat → Prop} {g r : Nat} {ec er : List Ev} (h : Both8 Hp w X g r ec er wr) : OwnV ec := by
  obtain ⟨G, h1, _⟩ := h
  exact h1.own ok
theorem Both8.next (ok : CalOk Hp) {w wr w' : World} {X : Nat → Prop} {g r : Nat} {ec er : List Ev} (h : Both8 Hp w X g r ec er wr) (hb : Below wr.heap.size wr w') : Both8 Hp w X g r ec er w' := by
  obtain ⟨G, h1, h2, h3⟩ := h
  exact ⟨G, h1.next ok hb, h2.below hb, h3⟩
theorem Both8.less (ok : CalOk Hp) {w wr : World} {X X' : Nat → Prop} {g r : Nat} {ec er : List Ev} (h : Both8 Hp w X g r ec er wr) (hx : ∀ k, X' k → X k) : Both8 Hp w X' g r ec er wr := by
  obtain ⟨G, h1, h2, h3⟩ := h
  exact ⟨G, h1.less ok (fun k q => q.imp id (hx k)), h2, fun k q z => h3 k q (hx k z)⟩
/-- the law's own block, new -/
theorem Both8.own1 (ok : CalOk Hp) {w wr : World} {X : Nat → Prop} {g r : Nat} {ec er : List Ev} (h : Both8 Hp w X g r ec er wr) (o : Obj) : Both8 Hp w (fun k => X k ∨ k = wr.heap.size) g r ec er (wr.alloc o) := by
  obtain ⟨G, h1, h2, h3⟩ := h
  refine ⟨G, (h1.own1 ok o).less ok (fun k q => ?_), h2.below (wbox _ _), fun k q z => ?_⟩
  · rcases q with q | q | q
    · exact .inl (.inl q)
    · exact .inl (.inr q)
    · exact .inr q
  · rcases z with z | z
    · exact h3 k q z
    · have := h2.lies k q; omega
/-- the law's own writing -/
theorem Both8.set (ok : CalOk Hp) {w wr w' : World} {X : Nat → Prop} {g r : Nat} {ec er : List Ev} (h : Both8 Hp w X g r ec er wr) (hk : Keeps X wr w') : Both8 Hp w X g r ec er w' := by
  obtain ⟨G, h1, h2, h3⟩ := h
  have hl := h1
  obtain ⟨_, _, _, _, _, h5, _⟩ := hl
  exact ⟨G, h1.wrote ok ⟨hk.os, hk.tape, hk.output, hk.size, fun k p q => hk.block k p (fun z => q (.inr z))⟩ (fun k q => .inl q) (h5.next hk.size), h2.keeps hk h3, h3⟩
theorem Both8.same {w wr : World} {X : Nat → Prop} {g r : Nat} {ec er ec' er' : List Ev} (h : Both8 Hp w X g r ec er wr) (h1 : ec = ec') (h2 : er = er') : Both8 Hp w X g r ec' er' wr := by rw [← h1, ← h2]; exact h
/-- a call on the document's -/
theorem Both8.ref (ok : CalOk Hp) {w wr w' : World} {X G G' : Nat → Prop} {g r : Nat} {ec er' : List Ev} (h1 : Mine8 Hp w (fun k => G k ∨ X k) g ec wr) (h3 : Apart G X) (h2 : RC w' r G' er') (m : Moves G G' wr w') : Both8 Hp w X g r ec er' w' ∧ Holds X wr w' := by
  have hl := h1
  obtain ⟨_, _, _, _, _, h5, _⟩ := hl
  have lx : Lies X wr := fun k q => h5 k (.inr q)
  refine ⟨⟨G', h1.wrote ok (G' := fun k => G' k ∨ X k) ⟨m.keeps.os, m.keeps.tape, m.keeps.output, m.keeps.size, fun k p q => m.keeps.block k p (fun z => q (.inl z))⟩ (fun k q => ?_) (fun k q => ?_), h2, h3.moves m lx⟩, ⟨m.keeps.size, fun k q => m.keeps.block k (lx k q) (fun z => h3 k z q)⟩⟩
  · rcases q with q | q
    · exact (m.grow k q).imp .inl id
    · exact .inl (.inr q)
  · rcases q with q | q
    · exact m.lt k q
    · exact lx.next m.keeps.size k q
theorem putV_fun {es es1 es2 : List Ev} {e : Ev} {c1 c2 : Int} (h : PutV es e c1 es1) (k : PutV es e c2 es2) : c1 = c2 ∧ es1 = es2 := by
  rcases h with ⟨a, rfl, rfl⟩ | ⟨a, b, rfl, rfl⟩ | ⟨a, b, rfl, rfl⟩ <;> rcases k with ⟨a', rfl, rfl⟩ | ⟨a', b', rfl, rfl⟩ | ⟨a', b', rfl, rfl⟩ <;> first | exact ⟨rfl, rfl⟩ | exact absurd a a' | exact absurd a' a | omega
theorem gotV_fun {es : List Ev} {i k : Int} {x y : Ev} {p q : Bool} (h : GotV es i k x p) (h' : GotV es i k y q) : x = y ∧ p = q := by
  rcases h with ⟨a, rfl, rfl⟩ | ⟨j, a, b, rfl⟩ <;> rcases h' with ⟨a', rfl, rfl⟩ | ⟨j', a', b', rfl⟩
  · exact ⟨rfl, rfl⟩
  · omega
  · omega
  · obtain rfl : j = j' := by omega
    rw [b] at b'
    exact ⟨Option.some.inj b', rfl⟩
variable (ok : CalOk Hp) {w wr : World} {X : Nat → Prop} (g r : Nat) (ec er : List Ev)
include ok
theorem p8put (e : Ev) (h : Both8 Hp w X g r ec er wr) (hl : ec.length ≤ 500) : Calls Try.prog 19 #[.pointer (some ⟨g, 0, none⟩), .agg #[.int .i64 e.d, .int .i64 e.i, .int .i64 e.k]] wr fun z w' => ∃ c ec', z = .returned (.int .i64 c) ∧ PutV ec e c ec' ∧ Both8 Hp w X g r ec' er w' ∧ Holds X wr w' := by
  obtain ⟨G, h1, h2, h3⟩ := h
  refine (m8put ok g ec e h1 hl).mono fun z w' hz => ?_
  rcases hz with ⟨a, b, c, d⟩ | ⟨a, b, c, d, f⟩ | ⟨a, b, c, d, f⟩
  · exact ⟨1, ec, b, .inl ⟨a, rfl, rfl⟩, ⟨G, c, h2.holds (d.less (fun _ q => .inl q)), h3⟩, d.less (fun _ q => .inr q)⟩
  · exact ⟨14, ec, c, .inr (.inl ⟨a, b, rfl, rfl⟩), ⟨G, d, h2.holds (f.less (fun _ q => .inl q)), h3⟩, f.less (fun _ q => .inr q)⟩
  · exact ⟨0, _, c, .inr (.inr ⟨a, b, rfl, rfl⟩), ⟨G, d, h2.holds (f.less (fun _ q => .inl q)), h3⟩, f.less (fun _ q => .inr q)⟩
theorem q8put (e : Ev) (h : Both8 Hp w X g r ec er wr) (hl : er.length ≤ 500) : Calls Try.prog 20 #[.pointer (some ⟨r, 0, none⟩), .agg #[.int .i64 e.d, .int .i64 e.i, .int .i64 e.k]] wr fun z w' => ∃ c er', z = .returned (.int .i64 c) ∧ PutV er e c er' ∧ Both8 Hp w X g r ec er' w' ∧ Holds X wr w' := by
  have H := h
  obtain ⟨G, h1, h2, h3⟩ := h
  have stay : ∀ w', Below wr.heap.size wr w' → Both8 Hp w X g r ec er w' ∧ Holds X wr w' := fun w' b => ⟨H.next ok b, ⟨b.size, fun k q => b.block k (H.lies k q)⟩⟩
  refine (r8put_any r G er e wr h2 (by omega)).mono fun z w' hz => ?_
  rcases hz with ⟨a, b, c⟩ | ⟨a, b, c, d⟩ | ⟨a, b, c, G', d, f⟩
  · exact ⟨1, er, b, .inl ⟨a, rfl, rfl⟩, stay w' c⟩
  · exact ⟨14, er, c, .inr (.inl ⟨a, b, rfl, rfl⟩), stay w' d⟩
  · exact ⟨0, _, c, .inr (.inr ⟨a, b, rfl, rfl⟩), Both8.ref ok h1 h3 d f⟩
theorem p8drop (id kind : Int) (h : Both8 Hp w X g r ec er wr) (hl : ec.length ≤ 500) : Calls Try.prog 11 #[.pointer (some ⟨g, 0, none⟩), .int .i64 id, .int .i64 kind] wr fun z w' => ∃ (x : Ev) (p : Bool), z = .returned (.tuple #[.agg #[.int .i64 x.d, .int .i64 x.i, .int .i64 x.k], .bool p]) ∧ GotV ec id kind x p ∧ Both8 Hp w X g r (DroppedV ec id kind) er w' ∧ Holds X wr w' := by
  obtain ⟨G, h1, h2, h3⟩ := h
  refine (m8drop ok g ec id kind h1 hl).mono fun z w' hz => ?_
  rcases hz with ⟨a, b, c, d⟩ | ⟨j, x, a, b, c, d, f⟩
  · exact ⟨ev0, false, b, .inl ⟨a, rfl, rfl⟩, ⟨G, by rw [droppedV_neg a]; exact c, h2.holds (d.less (fun _ q => .inl q)), h3⟩, d.less (fun _ q => .inr q)⟩
  · exact ⟨x, true, c, .inr ⟨j, a, b, rfl⟩, ⟨G, by rw [droppedV_at a]; exact d, h2.holds (f.less (fun _ q => .inl q)), h3⟩, f.less (fun _ q => .inr q)⟩
theorem q8drop (id kind : Int) (h : Both8 Hp w X g r ec er wr) (hl : er.length ≤ 500) : Calls Try.prog 12 #[.pointer (some ⟨r, 0, none⟩), .int .i64 id, .int .i64 kind] wr fun z w' => ∃ (x : Ev) (p : Bool), z = .returned (.tuple #[.agg #[.int .i64 x.d, .int .i64 x.i, .int .i64 x.k], .bool p]) ∧ GotV er id kind x p ∧ Both8 Hp w X g r ec (DroppedV er id kind) w' ∧ Holds X wr w' := by
  have H := h
  obtain ⟨G, h1, h2, h3⟩ := h
  refine (r8drop_any r G er id kind wr h2 (by omega)).mono fun z w' hz => ?_
  rcases hz with ⟨a, b, c⟩ | ⟨j, x, a, b, c, G', d, f⟩
  · exact ⟨ev0, false, b, .inl ⟨a, rfl, rfl⟩, by rw [droppedV_neg a]; exact H.next ok c, ⟨c.size, fun k q => c.block k (H.lies k q)⟩⟩
  · exact ⟨x, true, c, .inr ⟨j, a, b, rfl⟩, by rw [droppedV_at a]; exact Both8.ref ok h1 h3 d f⟩
theorem p8next (h : Both8 Hp w X g r ec er wr) (hl : ec.length ≤ 500) : Calls Try.prog 16 #[.pointer (some ⟨g, 0, none⟩)] wr fun z w' => ∃ (x : Ev) (p : Bool), z = .returned (.tuple #[.agg #[.int .i64 x.d, .int .i64 x.i, .int .i64 x.k], .bool p]) ∧ FstV ec x p ∧ Both8 Hp w X g r ec er w' ∧ Holds X wr w' := by
  obtain ⟨G, h1, h2, h3⟩ := h
  refine (m8next ok g ec h1 hl).mono fun z w' ⟨hz, c, d⟩ => ?_
  rcases hz with ⟨a, b⟩ | ⟨x, a, b⟩
  · exact ⟨ev0, false, b, .inl ⟨a, rfl, rfl⟩, ⟨G, c, h2.holds (d.less (fun _ q => .inl q)), h3⟩, d.less (fun _ q => .inr q)⟩
  · exact ⟨x, true, b, .inr ⟨a, rfl⟩, ⟨G, c, h2.holds (d.less (fun _ q => .inl q)), h3⟩, d.less (fun _ q => .inr q)⟩
theorem p8at (id kind : Int) (h : Both8 Hp w X g r ec er wr) (hl : ec.length ≤ 500) : Calls Try.prog 17 #[.pointer (some ⟨g, 0, none⟩), .int .i64 id, .int .i64 kind] wr fun z w' => ∃ (x : Ev) (p : Bool), z = .returned (.tuple #[.int .i64 x.d, .bool p]) ∧ GotV ec id kind x p ∧ Both8 Hp w X g r ec er w' ∧ Holds X wr w' := by
  obtain ⟨G, h1, h2, h3⟩ := h
  refine (m8at ok g ec id kind h1 hl).mono fun z w' ⟨hz, c, d⟩ => ?_
  rcases hz with ⟨a, b⟩ | ⟨j, x, a, b, b'⟩
  · exact ⟨ev0, false, b, .inl ⟨a, rfl, rfl⟩, ⟨G, c, h2.holds (d.less (fun _ q => .inl q)), h3⟩, d.less (fun _ q => .inr q)⟩
  · exact ⟨x, true, b', .inr ⟨j, a, b, rfl⟩, ⟨G, c, h2.holds (d.less (fun _ q => .inl q)), h3⟩, d.less (fun _ q => .inr q)⟩
omit ok in
theorem q8find (id kind : Int) (h : Both8 Hp w X g r ec er wr) (hl : er.length ≤ 500) : Calls Try.prog 18 #[.pointer (some ⟨r, 0, none⟩), .int .i64 id, .int .i64 kind] wr fun z w' => z = .returned (.int .i64 (placeV er id kind)) ∧ wr = w' := by
  obtain ⟨G, h1, h2, h3⟩ := h
  exact r8find_any r G er id kind wr h2 (by omega)
/-- Len leaves the document's calendar as it was -/
theorem p8len (h : Both8 Hp w X g r ec er wr) (hl : ec.length ≤ 500) : Calls Try.prog 21 #[.pointer (some ⟨g, 0, none⟩)] wr fun z w' => z = .returned (.int .i64 (ec.length : Int)) ∧ Both8 Hp w X g r ec er w' ∧ w'.cell? ⟨r, 0, none⟩ = wr.cell? ⟨r, 0, none⟩ := by
  obtain ⟨G, h1, h2, h3⟩ := h
  refine (m8len ok g ec h1 hl).mono fun z w' ⟨a, c, d⟩ => ⟨a, ⟨G, c, h2.holds (d.less (fun _ q => .inl q)), h3⟩, ?_⟩
  obtain ⟨_, _, hb, _, hF, _⟩ := h2
  exact World.cell?_of_block (w := wr) (a := ⟨r, 0, none⟩) (d.block r (.inl ((hF r).mpr (.inl rfl))))
/-- the rows that both answer read the same -/
theorem p8due (t : Int) (h : Both8 Hp w X g r ec er wr) (hl : ec.length ≤ 500) : Calls Try.prog 14 #[.pointer (some ⟨g, 0, none⟩), .int .i64 t] wr fun z w' => ∃ a cap, z = .returned (.slice a (dueN ec t) cap) ∧ RowV w' a (dueN ec t) cap (ec.take (dueN ec t)) ∧ Both8 Hp w (fun k => X k ∨ ∃ ad : Addr, a = some ad ∧ ad.block = k) g r (ec.drop (dueN ec t)) er w' ∧ Holds X wr w' := by
  obtain ⟨G, h1, h2, h3⟩ := h
  refine (m8due ok g ec t h1 hl).mono fun z w' ⟨a, cap, b, c, _, fr, d, f⟩ => ⟨a, cap, b, c, ⟨G, d.less ok (fun k q => ?_), h2.holds (f.less (fun _ q => .inl q)), fun k q z => ?_⟩, f.less (fun _ q => .inr q)⟩
  · rcases q with q | q | q
    · exact .inl (.inl q)
    · exact .inl (.inr q)
    · exact .inr q
  · rcases z with z | ⟨ad, z, z'⟩
    · exact h3 k q z
    · have h1 := fr ad z
      have h2 := h2.lies k q
      omega
theorem q8due (t : Int) (h : Both8 Hp w X g r ec er wr) (hl : er.length ≤ 500) : Calls Try.prog 15 #[.pointer (some ⟨r, 0, none⟩), .int .i64 t] wr fun z w' => ∃ a cap, z = .returned (.slice a (dueN er t) cap) ∧ RowV w' a (dueN er t) cap (er.take (dueN er t)) ∧ Both8 Hp w X g r ec (er.drop (dueN er t)) w' ∧ Holds X wr w' := by
  obtain ⟨G, h1, h2, h3⟩ := h
  have gr : G r := by obtain ⟨_, _, _, _, hF, _⟩ := h2; exact (hF r).mpr (.inl rfl)
  refine (r8due_any r G er t wr h2 (by omega)).mono fun z w' ⟨a, cap, b, c, d, f, k⟩ => ⟨a, cap, b, c, ?_⟩
  exact Both8.ref ok h1 h3 f ⟨⟨k.os, k.tape, k.output, k.size, fun x p q => k.block x p (fun e => q (e ▸ gr))⟩, fun x q => .inl q, fun x q => Nat.lt_of_lt_of_le (h2.lies x q) k.size⟩
omit ok in
theorem Both8.row (h : Both8 Hp w X g r ec er wr) : ∃ a cap, wr.cell? ⟨r, 0, none⟩ = some (.slice a er.length cap) ∧ RowV wr a er.length cap er := by
  obtain ⟨G, h1, ⟨a, cap, hb, hr, _, _⟩, h3⟩ := h
  exact ⟨a, cap, hb.cell 0, hr⟩
end
end Go.Proofs.Ytfeemdljlikpbaa
