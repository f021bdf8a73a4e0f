/-
  What is asked of package calendar: its contracts, for whatever lies in memory; the laws' event, awake.
-/
import Derived.Test.YtfeemdljlikpbaaCr6
namespace Go.Proofs.Ytfeemdljlikpbaa
open Go.RowKit

/-- a call on the calendar that leaves the events es -/
def StaysC (Hp : World → Nat → (Nat → Prop) → List Ev → Prop) (w : World) (g : Nat) (F : Nat → Prop) (es : List Ev) (w' : World) : Prop := ∃ F', Hp w' g F' es ∧ Moves F F' w w'
/-- events that a calendar may hold: in order, of keys of their own, none that may not be -/
structure OwnV (es : List Ev) : Prop where
  sorted : es.Pairwise (fun a b => befB a b = true)
  keys : es.Pairwise (fun a b => ¬ (a.i = b.i ∧ a.k = b.k))
  good : ∀ e ∈ es, ¬ BadE e
/-- package calendar is as P8.1 and P8.2 say -/
structure CalOk (Hp : World → Nat → (Nat → Prop) → List Ev → Prop) : Prop where
  lies : ∀ {w g F es}, Hp w g F es → Lies F w
  keeps : ∀ {w w' g F G es}, Hp w g F es → Keeps G w w' → Apart F G → Hp w' g F es
  own : ∀ {w g F es}, Hp w g F es → OwnV es
  new : ∀ w, Calls Try.prog 9 #[] w fun z w' => ∃ g F, z = .returned (.pointer (some ⟨g, 0, none⟩)) ∧ Hp w' g F [] ∧ From F w.heap.size ∧ Below w.heap.size w w'
  put : ∀ g F es (e : Ev) w, Hp w g F es → es.length ≤ 500 → Calls Try.prog 19 #[.pointer (some ⟨g, 0, none⟩), .agg #[.int .i64 e.d, .int .i64 e.i, .int .i64 e.k]] w fun z w' => (BadE e ∧ z = .returned (.int .i64 1) ∧ StaysC Hp w g F es w') ∨ (¬ BadE e ∧ 0 ≤ placeV es e.i e.k ∧ z = .returned (.int .i64 14) ∧ StaysC Hp w g F es w') ∨ (¬ BadE e ∧ placeV es e.i e.k = -1 ∧ z = .returned (.int .i64 0) ∧ StaysC Hp w g F (insV e es) w')
  drop : ∀ g F es id kind w, Hp w g F es → es.length ≤ 500 → Calls Try.prog 11 #[.pointer (some ⟨g, 0, none⟩), .int .i64 id, .int .i64 kind] w fun z w' => (placeV es id kind = -1 ∧ z = .returned (.tuple #[.agg #[.int .i64 0, .int .i64 0, .int .i64 0], .bool false]) ∧ StaysC Hp w g F es w') ∨ (∃ (k : Nat) (x : Ev), placeV es id kind = k ∧ es[k]? = some x ∧ z = .returned (.tuple #[.agg #[.int .i64 x.d, .int .i64 x.i, .int .i64 x.k], .bool true]) ∧ StaysC Hp w g F (es.eraseIdx k) w')
  due : ∀ g F es t w, Hp w g F es → es.length ≤ 500 → Calls Try.prog 14 #[.pointer (some ⟨g, 0, none⟩), .int .i64 t] w fun z w' => ∃ a cap, z = .returned (.slice a (dueN es t) cap) ∧ RowV w' a (dueN es t) cap (es.take (dueN es t)) ∧ (∀ ad : Addr, a = some ad → ad.block < w'.heap.size) ∧ Fresh w.heap.size a ∧ ∃ F', Hp w' g F' (es.drop (dueN es t)) ∧ Moves F F' w w' ∧ (∀ ad : Addr, a = some ad → ¬ F' ad.block)
  next : ∀ g F es w, Hp w g F es → es.length ≤ 500 → Calls Try.prog 16 #[.pointer (some ⟨g, 0, none⟩)] w fun z w' => ((es = [] ∧ z = .returned (.tuple #[.agg #[.int .i64 0, .int .i64 0, .int .i64 0], .bool false])) ∨ (∃ (x : Ev), es[0]? = some x ∧ z = .returned (.tuple #[.agg #[.int .i64 x.d, .int .i64 x.i, .int .i64 x.k], .bool true]))) ∧ StaysC Hp w g F es w'
  at_ : ∀ g F es id kind w, Hp w g F es → es.length ≤ 500 → Calls Try.prog 17 #[.pointer (some ⟨g, 0, none⟩), .int .i64 id, .int .i64 kind] w fun z w' => ((placeV es id kind = -1 ∧ z = .returned (.tuple #[.int .i64 0, .bool false])) ∨ (∃ (k : Nat) (x : Ev), placeV es id kind = k ∧ es[k]? = some x ∧ z = .returned (.tuple #[.int .i64 x.d, .bool true]))) ∧ StaysC Hp w g F es w'
  len : ∀ g F es w, Hp w g F es → es.length ≤ 500 → Calls Try.prog 21 #[.pointer (some ⟨g, 0, none⟩)] w fun z w' => z = .returned (.int .i64 (es.length : Int)) ∧ StaysC Hp w g F es w'

section
variable {Hp : World → Nat → (Nat → Prop) → List Ev → Prop}
/-- the blocks of G are as they were -/
structure Holds (G : Nat → Prop) (w w' : World) : Prop where
  size : w.heap.size ≤ w'.heap.size
  block : ∀ k, G k → w'.heap[k]? = w.heap[k]?
theorem Holds.blk {G : Nat → Prop} {w w' : World} (h : Holds G w w') {T : TypeId} {b : Nat} {cs : Array Value} (q : Blk w T b cs) (hb : G b) : Blk w' T b cs := (h.block b hb).trans q
theorem Holds.row {G : Nat → Prop} {w w' : World} (h : Holds G w w') {a : Option Addr} {len cap : Nat} {es : List Ev} (q : RowV w a len cap es) (ha : ∀ ad : Addr, a = some ad → G ad.block) : RowV w' a len cap es := RowF.same q (fun ad e => h.block _ (ha ad e))
theorem Holds.owns {G : Nat → Prop} {w w' : World} (h : Holds G w w') {base : Nat} {e : TypeId} {size : Nat} {v : Value} {n : Nat} {xs : List Value} (q : w.ownsRow base e size v n xs) (hv : ∀ k, v.ownBlock = some k → G k) : w'.ownsRow base e size v n xs := by
  refine ⟨q.1, ?_⟩
  rcases q.2 with hn | ⟨g, cap, cur, hv', hbg, hg, h1, h2, h3, h4⟩
  · exact .inl hn
  · subst hv'
    exact .inr ⟨g, cap, cur, rfl, hbg, by rw [h.block g (hv g rfl)]; exact hg, h1, h2, h3, h4⟩
/-- what is carried through the laws: a calendar of the law's own, apart of the law's other blocks G -/
def Mine8 (Hp : World → Nat → (Nat → Prop) → List Ev → Prop) (w : World) (G : Nat → Prop) (g : Nat) (es : List Ev) (wr : World) : Prop := ∃ F, Hp wr g F es ∧ From F w.heap.size ∧ Below w.heap.size w wr ∧ Apart F G ∧ Lies G wr ∧ From G w.heap.size
def G0 : Nat → Prop := fun _ => False
theorem Mine8.below {w wr : World} {G : Nat → Prop} {g : Nat} {es : List Ev} (h : Mine8 Hp w G g es wr) : Below w.heap.size w wr := by obtain ⟨_, _, _, h, _⟩ := h; exact h
theorem Mine8.own (ok : CalOk Hp) {w wr : World} {G : Nat → Prop} {g : Nat} {es : List Ev} (h : Mine8 Hp w G g es wr) : OwnV es := by
  obtain ⟨F, h1, _⟩ := h
  exact ok.own h1
theorem Mine8.stays {w wr w' : World} {G : Nat → Prop} {g : Nat} {es' : List Ev} {F : Nat → Prop} (hF : From F w.heap.size) (hb : Below w.heap.size w wr) (ap : Apart F G) (lg : Lies G wr) (fg : From G w.heap.size) (h : StaysC Hp wr g F es' w') : Mine8 Hp w G g es' w' ∧ Holds G wr w' := by
  obtain ⟨F', h1, h2⟩ := h
  exact ⟨⟨F', h1, hF.moves h2 hb.size, h2.keeps.below hb hF hb.size, ap.moves h2 lg, lg.next h2.keeps.size, fg⟩, ⟨h2.keeps.size, fun k q => h2.keeps.block k (lg k q) (fun f => ap k f q)⟩⟩
/-- the law's own writing -/
theorem Mine8.wrote (ok : CalOk Hp) {w wr w' : World} {G G' : Nat → Prop} {g : Nat} {es : List Ev} (h : Mine8 Hp w G g es wr) (hk : Keeps G wr w') (hG : ∀ k, G' k → G k ∨ wr.heap.size ≤ k) (hl : Lies G' w') : Mine8 Hp w G' g es w' := by
  obtain ⟨F, h1, h2, h3, h4, h5, h6⟩ := h
  refine ⟨F, ok.keeps h1 hk h4, h2, hk.below h3 h6 h3.size, fun k f q => ?_, hl, fun k q => ?_⟩
  · rcases hG k q with r | r
    · exact h4 k f r
    · have := ok.lies h1 k f; omega
  · rcases hG k q with r | r
    · exact h6 k r
    · exact Nat.le_trans h3.size r
theorem Mine8.next (ok : CalOk Hp) {w wr w' : World} {G : Nat → Prop} {g : Nat} {es : List Ev} (h : Mine8 Hp w G g es wr) (hb : Below wr.heap.size wr w') : Mine8 Hp w G g es w' :=
  h.wrote ok (Keeps.of hb) (fun _ q => .inl q) (by obtain ⟨_, _, _, _, _, h5, _⟩ := h; exact h5.next hb.size)
theorem m8new (ok : CalOk Hp) {w : World} (wr : World) (hb : Below w.heap.size w wr) : Calls Try.prog 9 #[] wr fun z w' => ∃ g, z = .returned (.pointer (some ⟨g, 0, none⟩)) ∧ Mine8 Hp w G0 g [] w' :=
  (ok.new wr).mono fun _ _ ⟨g, F, h1, h2, h3, h4⟩ => ⟨g, h1, F, h2, fun k q => Nat.le_trans hb.size (h3 k q), below_next hb h4, fun _ _ q => q, (fun _ q => q.elim), (fun _ q => q.elim)⟩
theorem m8put (ok : CalOk Hp) {w wr : World} {G : Nat → Prop} (g : Nat) (es : List Ev) (e : Ev) (h : Mine8 Hp w G g es wr) (hl : es.length ≤ 500) : Calls Try.prog 19 #[.pointer (some ⟨g, 0, none⟩), .agg #[.int .i64 e.d, .int .i64 e.i, .int .i64 e.k]] wr fun z w' => (BadE e ∧ z = .returned (.int .i64 1) ∧ Mine8 Hp w G g es w' ∧ Holds G wr w') ∨ (¬ BadE e ∧ 0 ≤ placeV es e.i e.k ∧ z = .returned (.int .i64 14) ∧ Mine8 Hp w G g es w' ∧ Holds G wr w') ∨ (¬ BadE e ∧ placeV es e.i e.k = -1 ∧ z = .returned (.int .i64 0) ∧ Mine8 Hp w G g (insV e es) w' ∧ Holds G wr w') := by
  obtain ⟨F, h1, h2, h3, h4, h5, h6⟩ := h
  exact (ok.put g F es e wr h1 hl).mono fun _ _ h => h.imp (fun ⟨a, b, c⟩ => ⟨a, b, Mine8.stays h2 h3 h4 h5 h6 c⟩) (fun h => h.imp (fun ⟨a, b, c, d⟩ => ⟨a, b, c, Mine8.stays h2 h3 h4 h5 h6 d⟩) (fun ⟨a, b, c, d⟩ => ⟨a, b, c, Mine8.stays h2 h3 h4 h5 h6 d⟩))
theorem m8drop (ok : CalOk Hp) {w wr : World} {G : Nat → Prop} (g : Nat) (es : List Ev) (id kind : Int) (h : Mine8 Hp w G g es wr) (hl : es.length ≤ 500) : Calls Try.prog 11 #[.pointer (some ⟨g, 0, none⟩), .int .i64 id, .int .i64 kind] wr fun z w' => (placeV es id kind = -1 ∧ z = .returned (.tuple #[.agg #[.int .i64 0, .int .i64 0, .int .i64 0], .bool false]) ∧ Mine8 Hp w G g es w' ∧ Holds G wr w') ∨ (∃ (k : Nat) (x : Ev), placeV es id kind = k ∧ es[k]? = some x ∧ z = .returned (.tuple #[.agg #[.int .i64 x.d, .int .i64 x.i, .int .i64 x.k], .bool true]) ∧ Mine8 Hp w G g (es.eraseIdx k) w' ∧ Holds G wr w') := by
  obtain ⟨F, h1, h2, h3, h4, h5, h6⟩ := h
  exact (ok.drop g F es id kind wr h1 hl).mono fun _ _ h => h.imp (fun ⟨a, b, c⟩ => ⟨a, b, Mine8.stays h2 h3 h4 h5 h6 c⟩) (fun ⟨k, t, a, b, c, d⟩ => ⟨k, t, a, b, c, Mine8.stays h2 h3 h4 h5 h6 d⟩)
/-- Due: the answer is new, and apart of the calendar: it is the law's from then on -/
theorem m8due (ok : CalOk Hp) {w wr : World} {G : Nat → Prop} (g : Nat) (es : List Ev) (t : Int) (h : Mine8 Hp w G g es wr) (hl : es.length ≤ 500) : Calls Try.prog 14 #[.pointer (some ⟨g, 0, none⟩), .int .i64 t] wr fun z w' => ∃ a cap, z = .returned (.slice a (dueN es t) cap) ∧ RowV w' a (dueN es t) cap (es.take (dueN es t)) ∧ (∀ ad : Addr, a = some ad → ad.block < w'.heap.size) ∧ Fresh wr.heap.size a ∧ Mine8 Hp w (fun k => G k ∨ ∃ ad : Addr, a = some ad ∧ ad.block = k) g (es.drop (dueN es t)) w' ∧ Holds G wr w' := by
  obtain ⟨F, h1, h2, h3, h4, h5, h6⟩ := h
  refine (ok.due g F es t wr h1 hl).mono fun _ _ ⟨a, cap, q1, q2, q0, q3, F', q4, q5, q6⟩ => ?_
  refine ⟨a, cap, q1, q2, q0, q3, ⟨F', q4, h2.moves q5 h3.size, q5.keeps.below h3 h2 h3.size, fun k f q => ?_, fun k q => ?_, fun k q => ?_⟩, ⟨q5.keeps.size, fun k q => q5.keeps.block k (h5 k q) (fun f => h4 k f q)⟩⟩
  · rcases q with q | ⟨ad, q, r⟩
    · exact h4.moves q5 h5 k f q
    · exact q6 ad q (r ▸ f)
  · rcases q with q | ⟨ad, q, r⟩
    · exact h5.next q5.keeps.size k q
    · exact r ▸ q0 ad q
  · rcases q with q | ⟨ad, q, r⟩
    · exact h6 k q
    · exact r ▸ Nat.le_trans h3.size (q3 ad q)
theorem m8next (ok : CalOk Hp) {w wr : World} {G : Nat → Prop} (g : Nat) (es : List Ev) (h : Mine8 Hp w G g es wr) (hl : es.length ≤ 500) : Calls Try.prog 16 #[.pointer (some ⟨g, 0, none⟩)] wr fun z w' => ((es = [] ∧ z = .returned (.tuple #[.agg #[.int .i64 0, .int .i64 0, .int .i64 0], .bool false])) ∨ (∃ (x : Ev), es[0]? = some x ∧ z = .returned (.tuple #[.agg #[.int .i64 x.d, .int .i64 x.i, .int .i64 x.k], .bool true]))) ∧ Mine8 Hp w G g es w' ∧ Holds G wr w' := by
  obtain ⟨F, h1, h2, h3, h4, h5, h6⟩ := h
  exact (ok.next g F es wr h1 hl).mono fun _ _ ⟨a, b⟩ => ⟨a, Mine8.stays h2 h3 h4 h5 h6 b⟩
theorem m8at (ok : CalOk Hp) {w wr : World} {G : Nat → Prop} (g : Nat) (es : List Ev) (id kind : Int) (h : Mine8 Hp w G g es wr) (hl : es.length ≤ 500) : Calls Try.prog 17 #[.pointer (some ⟨g, 0, none⟩), .int .i64 id, .int .i64 kind] wr fun z w' => ((placeV es id kind = -1 ∧ z = .returned (.tuple #[.int .i64 0, .bool false])) ∨ (∃ (k : Nat) (x : Ev), placeV es id kind = k ∧ es[k]? = some x ∧ z = .returned (.tuple #[.int .i64 x.d, .bool true]))) ∧ Mine8 Hp w G g es w' ∧ Holds G wr w' := by
  obtain ⟨F, h1, h2, h3, h4, h5, h6⟩ := h
  exact (ok.at_ g F es id kind wr h1 hl).mono fun _ _ ⟨a, b⟩ => ⟨a, Mine8.stays h2 h3 h4 h5 h6 b⟩
theorem m8len (ok : CalOk Hp) {w wr : World} {G : Nat → Prop} (g : Nat) (es : List Ev) (h : Mine8 Hp w G g es wr) (hl : es.length ≤ 500) : Calls Try.prog 21 #[.pointer (some ⟨g, 0, none⟩)] wr fun z w' => z = .returned (.int .i64 (es.length : Int)) ∧ Mine8 Hp w G g es w' ∧ Holds G wr w' := by
  obtain ⟨F, h1, h2, h3, h4, h5, h6⟩ := h
  exact (ok.len g F es wr h1 hl).mono fun _ _ ⟨a, b⟩ => ⟨a, Mine8.stays h2 h3 h4 h5 h6 b⟩
end

/-! ### event -/
/-- an event made near -/
def nearE (e : Ev) : Ev := ⟨bits .and .i64 e.d 15, bits .and .i64 e.i 7, bits .and .i64 e.k 3⟩
set_option maxHeartbeats 2000000 in
theorem l8event_any (kd : Int) (near : Bool) (e : Ev) (w : World) : Calls Try.prog 10 #[.agg #[.int .i64 kd, .bool near, .int .i64 e.d, .int .i64 e.i, .int .i64 e.k]] w fun z w' => z = .returned (.agg #[.int .i64 (if near then nearE e else e).d, .int .i64 (if near then nearE e else e).i, .int .i64 (if near then nearE e else e).k]) ∧ Below w.heap.size w w' := by
  obtain ⟨x, hx⟩ : ∃ x, bits .and .i64 e.d 15 = x := ⟨_, rfl⟩
  obtain ⟨y, hy⟩ : ∃ y, bits .and .i64 e.i 7 = y := ⟨_, rfl⟩
  obtain ⟨z, hz⟩ : ∃ z, bits .and .i64 e.k 3 = z := ⟨_, rfl⟩
  have NE := Lib.hid (show nearE e = ⟨x, y, z⟩ by unfold nearE; rw [hx, hy, hz])
  cases near with
  | true =>
    go_enter Try.func10, Try.ntmps10
    go_wp2
    exact bodyPost_ret (v := .agg #[.int .i64 x, .int .i64 y, .int .i64 z]) (by simp [results, Try.results10, go_sem]) rfl ⟨by rw [NE.out], wbox3 _ _ _ _⟩
  | false =>
    go_enter Try.func10, Try.ntmps10
    go_wp2
    exact bodyPost_ret (v := .agg #[.int .i64 e.d, .int .i64 e.i, .int .i64 e.k]) (by simp [results, Try.results10, go_sem]) rfl ⟨rfl, wbox3 _ _ _ _⟩

/-! ### awake -/
section
variable {Hp : World → Nat → (Nat → Prop) → List Ev → Prop}
set_option maxHeartbeats 4000000 in
theorem l8awake (ok : CalOk Hp) (w : World) : Calls Try.prog 8 #[] w fun e w' => e = .returned (.bool true) ∧ Below w.heap.size w w' := by
  have OK := Lib.hid ok
  clear ok
  go_enter Try.func8, Try.ntmps8
  go_wp2_with fail
  refine (m8new OK.out w (Below.refl _ _)).mono ?_
  rintro e w1 ⟨g, rfl, hm⟩
  have M := Lib.hid hm
  clear hm
  go_wp2_with fail
  refine (m8put OK.out g [] ⟨5, 1, 0⟩ M.out (by decide)).mono ?_
  rintro e w2 (⟨h, _, _⟩ | ⟨_, h, _, _⟩ | ⟨_, _, rfl, hm, _⟩)
  · exact absurd h (by decide)
  · exact absurd h (by decide)
  have M := Lib.hid hm
  clear hm
  go_wp2_with fail
  refine (m8put OK.out g (insV ⟨5, 1, 0⟩ []) ⟨3, 2, 0⟩ M.out (by decide)).mono ?_
  rintro e w3 (⟨h, _, _⟩ | ⟨_, h, _, _⟩ | ⟨_, _, rfl, hm, _⟩)
  · exact absurd h (by decide)
  · exact absurd h (by decide)
  have M := Lib.hid (show Mine8 Hp w G0 g [⟨3, 2, 0⟩, ⟨5, 1, 0⟩] w3 from hm)
  clear hm
  go_wp2_with fail
  refine (m8due OK.out g [⟨3, 2, 0⟩, ⟨5, 1, 0⟩] 4 M.out (by decide)).mono ?_
  rintro e w4 ⟨a, cap, rfl, hr, _, _, hm, _⟩
  have M := Lib.hid (show Mine8 Hp w _ g [⟨5, 1, 0⟩] w4 from hm)
  have hr : RowV w4 a 1 cap [⟨3, 2, 0⟩] := hr
  obtain ⟨bl, ol, rfl, hat⟩ := hr.at (i := 0) (e := ⟨3, 2, 0⟩) rfl
  have x1 := hat.c1
  simp at x1
  have dn : dueN [⟨3, 2, 0⟩, ⟨5, 1, 0⟩] 4 = 1 := by decide
  simp only [dn]
  clear hr hat dn hm
  go_wp2_with fail
  refine (m8len OK.out g _ M.out (by decide)).mono ?_
  rintro e w5 ⟨rfl, hm, _⟩
  have M := Lib.hid hm
  clear hm
  go_wp2
  go_ret
  exact ⟨rfl, M.out.below⟩
end
end Go.Proofs.Ytfeemdljlikpbaa
