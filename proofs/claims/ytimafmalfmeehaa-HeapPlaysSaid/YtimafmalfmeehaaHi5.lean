/-
  A heap of package heap and one of the document's, side by side: contracts.
-/
import Derived.Test.YtimafmalfmeehaaHi4
namespace Go.Proofs.Ytimafmalfmeehaa
open Go.RowKit

section
variable {Hp : World → Nat → (Nat → Prop) → List Th → Prop}
/-- both heaps, and the step that is played -/
def Both (Hp : World → Nat → (Nat → Prop) → List Th → Prop) (w : World) (g r bx : Nat) (cs : Array Value) (th tr : List Th) (wr : World) : Prop :=
  ∃ F G, Hp wr g F th ∧ RH wr r G tr ∧ Apart F G ∧ From F w.heap.size ∧ From G w.heap.size ∧ Blk wr 32 bx cs ∧ ¬ F bx ∧ ¬ G bx ∧ Below w.heap.size w wr
theorem Both.below {w wr : World} {g r bx : Nat} {cs : Array Value} {th tr : List Th} (h : Both Hp w g r bx cs th tr wr) : Below w.heap.size w wr := by obtain ⟨_, _, _, _, _, _, _, _, _, _, h⟩ := h; exact h
theorem Both.box {w wr : World} {g r bx : Nat} {cs : Array Value} {th tr : List Th} (h : Both Hp w g r bx cs th tr wr) : Blk wr 32 bx cs := by obtain ⟨_, _, _, _, _, _, _, h, _⟩ := h; exact h
theorem Both.own (ok : HeapOk Hp) {w wr : World} {g r bx : Nat} {cs : Array Value} {th tr : List Th} (h : Both Hp w g r bx cs th tr wr) : th.Pairwise (fun a b => a.id ≠ b.id) := by obtain ⟨_, _, h, _⟩ := h; exact ok.own h
theorem Both.next (ok : HeapOk Hp) {w wr w' : World} {g r bx : Nat} {cs : Array Value} {th tr : List Th} (h : Both Hp w g r bx cs th tr wr) (hb : Below wr.heap.size wr w') : Both Hp w g r bx cs th tr w' := by
  obtain ⟨F, G, h1, h2, h3, h4, h5, h6, h7, h8, h9⟩ := h
  exact ⟨F, G, ok.keeps h1 (Keeps.of (F := fun _ => False) hb) (fun _ _ q => q), h2.below hb, h3, h4, h5, h6.below hb, h7, h8, below_next h9 hb⟩
theorem b3heap {w wr w' : World} {g r bx : Nat} {cs : Array Value} {th' tr : List Th} {F G : Nat → Prop} (hr : RH wr r G tr) (ap : Apart F G) (hF : From F w.heap.size) (hG : From G w.heap.size) (hbx : Blk wr 32 bx cs) (nf : ¬ F bx) (ng : ¬ G bx) (hb : Below w.heap.size w wr) (hs : Stays Hp wr g F th' w') : Both Hp w g r bx cs th' tr w' := by
  obtain ⟨F', h1, m⟩ := hs
  exact ⟨F', G, h1, hr.keeps m.keeps ap.symm, ap.moves m hr.lies, hF.moves m hb.size, hG, hbx.keeps m.keeps nf, (fun q => (m.grow bx q).elim nf (fun y => by have := hbx.lt; omega)), ng, m.keeps.below hb hF hb.size⟩
theorem b3ref (ok : HeapOk Hp) {w wr w' : World} {g r bx : Nat} {cs : Array Value} {th tr' : List Th} {F G G' : Nat → Prop} (hh : Hp wr g F th) (ap : Apart F G) (hF : From F w.heap.size) (hG : From G w.heap.size) (hbx : Blk wr 32 bx cs) (nf : ¬ F bx) (ng : ¬ G bx) (hb : Below w.heap.size w wr) (h1 : RH w' r G' tr') (m : Moves G G' wr w') : Both Hp w g r bx cs th tr' w' :=
  ⟨F, G', ok.keeps hh m.keeps ap, h1, (ap.symm.moves m (ok.lies hh)).symm, hF, hG.moves m hb.size, hbx.keeps m.keeps ng, nf, (fun q => (m.grow bx q).elim ng (fun y => by have := hbx.lt; omega)), m.keeps.below hb hG hb.size⟩
variable (ok : HeapOk Hp) {w wr : World} (g r bx : Nat) (cs : Array Value) (th tr : List Th)
include ok
theorem b3push (id x : Int) (h : Both Hp w g r bx cs th tr wr) (hin : InR id) (hl : th.length ≤ 500) : Calls Try.prog 19 #[.pointer (some ⟨g, 0, none⟩), .int .i64 id, .int .i64 x] wr fun e w' => (0 ≤ placeT th id ∧ e = .returned (.bool false) ∧ Both Hp w g r bx cs th tr w') ∨ (placeT th id < 0 ∧ e = .returned (.bool true) ∧ Both Hp w g r bx cs (th ++ [⟨id, x⟩]) tr w') := by
  obtain ⟨F, G, h1, h2, h3, h4, h5, h6, h7, h8, h9⟩ := h
  exact (ok.push g F th id x wr h1 hin hl).mono fun _ _ h => h.imp (fun ⟨a, b, c⟩ => ⟨a, b, b3heap h2 h3 h4 h5 h6 h7 h8 h9 c⟩) (fun ⟨a, b, c⟩ => ⟨a, b, b3heap h2 h3 h4 h5 h6 h7 h8 h9 c⟩)
theorem b3pop (h : Both Hp w g r bx cs th tr wr) (hl : th.length ≤ 500) : Calls Try.prog 11 #[.pointer (some ⟨g, 0, none⟩)] wr fun e w' => (th = [] ∧ e = .returned (.tuple #[.int .i64 0, .int .i64 0, .bool false]) ∧ Both Hp w g r bx cs th tr w') ∨ (∃ (k : Nat) (t : Th), th[k]? = some t ∧ MinIn th th.length k ∧ e = .returned (.tuple #[.int .i64 t.id, .int .i64 t.x, .bool true]) ∧ Both Hp w g r bx cs (th.eraseIdx k) tr w') := by
  obtain ⟨F, G, h1, h2, h3, h4, h5, h6, h7, h8, h9⟩ := h
  exact (ok.pop g F th wr h1 hl).mono fun _ _ h => h.imp (fun ⟨a, b, c⟩ => ⟨a, b, b3heap h2 h3 h4 h5 h6 h7 h8 h9 c⟩) (fun ⟨k, t, a, b, c, d⟩ => ⟨k, t, a, b, c, b3heap h2 h3 h4 h5 h6 h7 h8 h9 d⟩)
theorem b3min (h : Both Hp w g r bx cs th tr wr) (hl : th.length ≤ 500) : Calls Try.prog 17 #[.pointer (some ⟨g, 0, none⟩)] wr fun e w' => ((th = [] ∧ e = .returned (.tuple #[.int .i64 0, .int .i64 0, .bool false])) ∨ (∃ (k : Nat) (t : Th), th[k]? = some t ∧ MinIn th th.length k ∧ e = .returned (.tuple #[.int .i64 t.id, .int .i64 t.x, .bool true]))) ∧ Both Hp w g r bx cs th tr w' := by
  obtain ⟨F, G, h1, h2, h3, h4, h5, h6, h7, h8, h9⟩ := h
  exact (ok.min g F th wr h1 hl).mono fun _ _ ⟨a, b⟩ => ⟨a, b3heap h2 h3 h4 h5 h6 h7 h8 h9 b⟩
theorem b3remove (id : Int) (h : Both Hp w g r bx cs th tr wr) (hin : InR id) (hl : th.length ≤ 500) : Calls Try.prog 13 #[.pointer (some ⟨g, 0, none⟩), .int .i64 id] wr fun e w' => (placeT th id < 0 ∧ e = .returned (.tuple #[.int .i64 0, .bool false]) ∧ Both Hp w g r bx cs th tr w') ∨ (∃ (k : Nat) (t : Th), placeT th id = k ∧ th[k]? = some t ∧ e = .returned (.tuple #[.int .i64 t.x, .bool true]) ∧ Both Hp w g r bx cs (th.eraseIdx k) tr w') := by
  obtain ⟨F, G, h1, h2, h3, h4, h5, h6, h7, h8, h9⟩ := h
  exact (ok.remove g F th id wr h1 hin hl).mono fun _ _ h => h.imp (fun ⟨a, b, c⟩ => ⟨a, b, b3heap h2 h3 h4 h5 h6 h7 h8 h9 c⟩) (fun ⟨k, t, a, b, c, d⟩ => ⟨k, t, a, b, c, b3heap h2 h3 h4 h5 h6 h7 h8 h9 d⟩)
theorem b3get (id : Int) (h : Both Hp w g r bx cs th tr wr) (hin : InR id) (hl : th.length ≤ 500) : Calls Try.prog 15 #[.pointer (some ⟨g, 0, none⟩), .int .i64 id] wr fun e w' => ((placeT th id < 0 ∧ e = .returned (.tuple #[.int .i64 0, .bool false])) ∨ (∃ (k : Nat) (t : Th), placeT th id = k ∧ th[k]? = some t ∧ e = .returned (.tuple #[.int .i64 t.x, .bool true]))) ∧ Both Hp w g r bx cs th tr w' := by
  obtain ⟨F, G, h1, h2, h3, h4, h5, h6, h7, h8, h9⟩ := h
  exact (ok.get g F th id wr h1 hin hl).mono fun _ _ ⟨a, b⟩ => ⟨a, b3heap h2 h3 h4 h5 h6 h7 h8 h9 b⟩
theorem b3len (h : Both Hp w g r bx cs th tr wr) (hl : th.length ≤ 500) : Calls Try.prog 24 #[.pointer (some ⟨g, 0, none⟩)] wr fun e w' => e = .returned (.int .i64 (th.length : Int)) ∧ Both Hp w g r bx cs th tr w' := by
  obtain ⟨F, G, h1, h2, h3, h4, h5, h6, h7, h8, h9⟩ := h
  exact (ok.len g F th wr h1 hl).mono fun _ _ ⟨a, b⟩ => ⟨a, b3heap h2 h3 h4 h5 h6 h7 h8 h9 b⟩
theorem b3ids (h : Both Hp w g r bx cs th tr wr) (hl : th.length ≤ 500) : Calls Try.prog 22 #[.pointer (some ⟨g, 0, none⟩)] wr fun e w' => ∃ a len cap, e = .returned (.slice a len cap) ∧ Row .i64 w' a len cap (idsT th) ∧ Both Hp w g r bx cs th tr w' := by
  obtain ⟨F, G, h1, h2, h3, h4, h5, h6, h7, h8, h9⟩ := h
  exact (ok.ids g F th wr h1 hl).mono fun _ _ ⟨a, l, c, e, hr, _, F', q1, q2, _⟩ => ⟨a, l, c, e, hr, b3heap h2 h3 h4 h5 h6 h7 h8 h9 ⟨F', q1, q2⟩⟩
/-! the document's -/
theorem c3push (id x : Int) (h : Both Hp w g r bx cs th tr wr) (hl : tr.length ≤ 500) : Calls Try.prog 20 #[.pointer (some ⟨r, 0, none⟩), .int .i64 id, .int .i64 x] wr fun e w' => (0 ≤ placeT tr id ∧ e = .returned (.bool false) ∧ Both Hp w g r bx cs th tr w') ∨ (placeT tr id < 0 ∧ e = .returned (.bool true) ∧ Both Hp w g r bx cs th (tr ++ [⟨id, x⟩]) w') := by
  have H := h
  obtain ⟨F, G, h1, h2, h3, h4, h5, h6, h7, h8, h9⟩ := h
  exact (r7push_any r G tr id x wr h2 (by omega)).mono fun _ _ h => h.imp (fun ⟨a, b, c⟩ => ⟨a, b, c ▸ H⟩) (fun ⟨a, b, _, c, d⟩ => ⟨a, b, b3ref ok h1 h3 h4 h5 h6 h7 h8 h9 c d⟩)
theorem c3pop (h : Both Hp w g r bx cs th tr wr) (hl : tr.length ≤ 500) : Calls Try.prog 12 #[.pointer (some ⟨r, 0, none⟩)] wr fun e w' => (tr = [] ∧ e = .returned (.tuple #[.agg #[.int .i64 0, .int .i64 0], .bool false]) ∧ Both Hp w g r bx cs th tr w') ∨ (∃ (k : Nat) (t : Th), tr[k]? = some t ∧ MinIn tr tr.length k ∧ e = .returned (.tuple #[.agg #[.int .i64 t.id, .int .i64 t.x], .bool true]) ∧ Both Hp w g r bx cs th (tr.eraseIdx k) w') := by
  have H := h
  obtain ⟨F, G, h1, h2, h3, h4, h5, h6, h7, h8, h9⟩ := h
  exact (r7pop_any r G tr wr h2 (by omega)).mono fun _ _ h => h.imp (fun ⟨a, b, c⟩ => ⟨a, b, H.next ok c⟩) (fun ⟨k, t, a, b, c, _, d, e⟩ => ⟨k, t, a, b, c, b3ref ok h1 h3 h4 h5 h6 h7 h8 h9 d e⟩)
theorem c3remove (id : Int) (h : Both Hp w g r bx cs th tr wr) (hl : tr.length ≤ 500) : Calls Try.prog 14 #[.pointer (some ⟨r, 0, none⟩), .int .i64 id] wr fun e w' => (placeT tr id < 0 ∧ e = .returned (.tuple #[.int .i64 0, .bool false]) ∧ Both Hp w g r bx cs th tr w') ∨ (∃ (k : Nat) (t : Th), placeT tr id = k ∧ tr[k]? = some t ∧ e = .returned (.tuple #[.int .i64 t.x, .bool true]) ∧ Both Hp w g r bx cs th (tr.eraseIdx k) w') := by
  have H := h
  obtain ⟨F, G, h1, h2, h3, h4, h5, h6, h7, h8, h9⟩ := h
  exact (r7remove_any r G tr id wr h2 (by omega)).mono fun _ _ h => h.imp (fun ⟨a, b, c⟩ => ⟨a, b, c ▸ H⟩) (fun ⟨k, t, a, b, c, _, d, e⟩ => ⟨k, t, a, b, c, b3ref ok h1 h3 h4 h5 h6 h7 h8 h9 d e⟩)
theorem c3at (id : Int) (h : Both Hp w g r bx cs th tr wr) (hl : tr.length ≤ 500) : Calls Try.prog 16 #[.pointer (some ⟨r, 0, none⟩), .int .i64 id] wr fun e w' => e = .returned (.int .i64 (placeT tr id)) ∧ Both Hp w g r bx cs th tr w' := by
  have H := h
  obtain ⟨F, G, h1, h2, _⟩ := h
  exact (r7at_any r G tr id wr h2 (by omega)).mono fun _ _ ⟨a, b⟩ => ⟨a, H.next ok (b ▸ Below.refl _ _)⟩
theorem c3min (h : Both Hp w g r bx cs th tr wr) (hl : tr.length ≤ 500) : Calls Try.prog 18 #[.pointer (some ⟨r, 0, none⟩)] wr fun e w' => ((tr = [] ∧ e = .returned (.int .i64 (-1))) ∨ ∃ k : Nat, MinIn tr tr.length k ∧ e = .returned (.int .i64 (k : Int))) ∧ Both Hp w g r bx cs th tr w' := by
  have H := h
  obtain ⟨F, G, h1, h2, _⟩ := h
  exact (r7min_any r G tr wr h2 (by omega)).mono fun _ _ ⟨a, b⟩ => ⟨a, H.next ok b⟩
theorem c3ids (h : Both Hp w g r bx cs th tr wr) (hl : tr.length ≤ 500) : Calls Try.prog 23 #[.pointer (some ⟨r, 0, none⟩)] wr fun e w' => ∃ a len cap, e = .returned (.slice a len cap) ∧ Row .i64 w' a len cap (idsT tr) ∧ Below wr.heap.size wr w' ∧ Both Hp w g r bx cs th tr w' := by
  have H := h
  obtain ⟨F, G, h1, h2, _⟩ := h
  exact (r7ids_any r G tr wr h2 (by omega)).mono fun _ _ ⟨a, l, c, zs, e, hr, hz, hb, _⟩ => ⟨a, l, c, e, hz ▸ hr, hb, H.next ok hb⟩
end
/-- where there is one such place alone -/
theorem min_place {ts : List Th} (h : ts.Pairwise (fun a b => a.id ≠ b.id)) {k l : Nat} {t s : Th} (hk : ts[k]? = some t) (hl : ts[l]? = some s) (e : t = s) : k = l := by
  subst e
  have lt : ∀ {i : Nat} {z : Th}, ts[i]? = some z → ∃ q : i < ts.length, ts[i] = z := fun {i z} hz => by
    rcases Nat.lt_or_ge i ts.length with g | g
    · exact ⟨g, by rw [List.getElem?_eq_getElem g] at hz; simpa using hz⟩
    · rw [List.getElem?_eq_none g] at hz; cases hz
  obtain ⟨q1, e1⟩ := lt hk
  obtain ⟨q2, e2⟩ := lt hl
  rw [List.pairwise_iff_getElem] at h
  rcases Nat.lt_trichotomy k l with g | g | g
  · have := h k l q1 q2 g; rw [e1, e2] at this; exact absurd rfl this
  · exact g
  · have := h l k q2 q1 g; rw [e1, e2] at this; exact absurd rfl this
/-- the things of the document's heap, where they lie -/
theorem Both.row {Hp : World → Nat → (Nat → Prop) → List Th → Prop} {w wr : World} {g r bx : Nat} {cs : Array Value} {th tr : List Th} (h : Both Hp w g r bx cs th tr wr) : ∃ a cap, wr.cell? ⟨r, 0, none⟩ = some (.slice a tr.length cap) ∧ RowT wr a tr.length cap tr := by
  obtain ⟨_, G, _, ⟨v, hb, ho, _, _⟩, _⟩ := h
  obtain ⟨a, cap, rfl, hr, _⟩ := rowT_of_owns ho rfl
  exact ⟨a, cap, hb.cell 0, hr⟩
end Go.Proofs.Ytimafmalfmeehaa
