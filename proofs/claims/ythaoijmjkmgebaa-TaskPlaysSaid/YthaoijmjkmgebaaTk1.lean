/-
  What is asked of package task: its contracts, for whatever lies in memory; what the laws carry along.
-/
import Derived.Test.YthaoijmjkmgebaaTa0
import Derived.Test.YthaoijmjkmgebaaSep
namespace Go.Proofs.Ythaoijmjkmgebaa
open Go.RowKit

/-- a call on the task that leaves it so -/
def StaysT (Hp : World → Nat → (Nat → Prop) → TS → Prop) (w : World) (g : Nat) (F : Nat → Prop) (ts : TS) (w' : World) : Prop := ∃ F', Hp w' g F' ts ∧ Moves F F' w w'
/-- package task is as P10.1 to P10.3 say -/
structure TaskOk (Hp : World → Nat → (Nat → Prop) → TS → Prop) : Prop where
  lies : ∀ {w g F ts}, Hp w g F ts → Lies F w
  keeps : ∀ {w w' g F G ts}, Hp w g F ts → Keeps G w w' → Apart F G → Hp w' g F ts
  good : ∀ {w g F ts}, Hp w g F ts → GoodT ts
  new_yes : ∀ (E P at_ : Int) (early : Bool) w, MayBe E P → 0 ≤ at_ → at_ ≤ 1099511627776 → Calls Try.prog 11 #[.agg #[.int .i64 E, .int .i64 P], .int .i64 at_, .bool early] w fun z w' => ∃ g F, z = .returned (.pointer (some ⟨g, 0, none⟩)) ∧ Hp w' g F (ts0 E P at_ early) ∧ From F w.heap.size ∧ Below w.heap.size w w'
  new_no : ∀ (E P at_ : Int) (early : Bool) w, ¬ (MayBe E P ∧ 0 ≤ at_ ∧ at_ ≤ 1099511627776) → Calls Try.prog 11 #[.agg #[.int .i64 E, .int .i64 P], .int .i64 at_, .bool early] w fun z w' => z = .returned (.pointer none) ∧ Below w.heap.size w w'
  arrive : ∀ g F ts (at_ n : Int) w, Hp w g F ts → ts.came ≤ 100000 → Calls Try.prog 19 #[.pointer (some ⟨g, 0, none⟩), .int .i64 at_, .int .i64 n] w fun z w' => z = .returned (.int .i64 (arriveE ts at_ n)) ∧ StaysT Hp w g F (arriveT ts at_ n) w'
  head : ∀ g F ts w, Hp w g F ts → Calls Try.prog 23 #[.pointer (some ⟨g, 0, none⟩)] w fun z w' => z = .returned (.tuple #[(headS ts).v, .bool (someB ts)]) ∧ StaysT Hp w g F (ts) w'
  ready : ∀ g F ts (at_ : Int) w, Hp w g F ts → Calls Try.prog 15 #[.pointer (some ⟨g, 0, none⟩), .int .i64 at_] w fun z w' => z = .returned (.tuple #[(readyS ts at_).v, .bool (readyB ts at_)]) ∧ StaysT Hp w g F (ts) w'
  when_ : ∀ g F ts w, Hp w g F ts → Calls Try.prog 24 #[.pointer (some ⟨g, 0, none⟩)] w fun z w' => z = .returned (.tuple #[.int .i64 (whenV ts), .bool (someB ts)]) ∧ StaysT Hp w g F (ts) w'
  run : ∀ g F ts w, Hp w g F ts → ts.done ≤ 100000 → Calls Try.prog 13 #[.pointer (some ⟨g, 0, none⟩)] w fun z w' => z = .returned (.tuple #[(headS ts).v, .bool (someB ts)]) ∧ StaysT Hp w g F (runT ts) w'
  last : ∀ g F ts w, Hp w g F ts → Calls Try.prog 21 #[.pointer (some ⟨g, 0, none⟩)] w fun z w' => z = .returned (.tuple #[(lastS ts).v, .bool (lastB ts)]) ∧ StaysT Hp w g F (ts) w'
  cut : ∀ g F ts (at_ : Int) w, Hp w g F ts → Calls Try.prog 17 #[.pointer (some ⟨g, 0, none⟩), .int .i64 at_] w fun z w' => z = .returned (.int .i64 (cutN ts at_)) ∧ StaysT Hp w g F (cutT ts at_) w'
  waits : ∀ g F ts w, Hp w g F ts → Calls Try.prog 25 #[.pointer (some ⟨g, 0, none⟩)] w fun z w' => z = .returned (.int .i64 (ts.l.length : Int)) ∧ StaysT Hp w g F (ts) w'
  done : ∀ g F ts w, Hp w g F ts → Calls Try.prog 26 #[.pointer (some ⟨g, 0, none⟩)] w fun z w' => z = .returned (.int .i64 ts.done) ∧ StaysT Hp w g F (ts) w'
  weight : ∀ g F ts w, Hp w g F ts → Calls Try.prog 27 #[.pointer (some ⟨g, 0, none⟩)] w fun z w' => z = .returned (.agg #[.int .i64 ts.E, .int .i64 ts.P]) ∧ StaysT Hp w g F (ts) w'
  arrive_nil : ∀ (at_ n : Int) w, Calls Try.prog 19 #[.pointer none, .int .i64 at_, .int .i64 n] w fun z w' => z = .returned (.int .i64 1) ∧ Below w.heap.size w w'
  head_nil : ∀ w, Calls Try.prog 23 #[.pointer none] w fun z w' => z = .returned (.tuple #[sub0.v, .bool false]) ∧ Below w.heap.size w w'
  ready_nil : ∀ (at_ : Int) w, Calls Try.prog 15 #[.pointer none, .int .i64 at_] w fun z w' => z = .returned (.tuple #[sub0.v, .bool false]) ∧ Below w.heap.size w w'
  when_nil : ∀ w, Calls Try.prog 24 #[.pointer none] w fun z w' => z = .returned (.tuple #[.int .i64 0, .bool false]) ∧ Below w.heap.size w w'
  run_nil : ∀ w, Calls Try.prog 13 #[.pointer none] w fun z w' => z = .returned (.tuple #[sub0.v, .bool false]) ∧ Below w.heap.size w w'
  last_nil : ∀ w, Calls Try.prog 21 #[.pointer none] w fun z w' => z = .returned (.tuple #[sub0.v, .bool false]) ∧ Below w.heap.size w w'
  cut_nil : ∀ (at_ : Int) w, Calls Try.prog 17 #[.pointer none, .int .i64 at_] w fun z w' => z = .returned (.int .i64 0) ∧ Below w.heap.size w w'
  waits_nil : ∀ w, Calls Try.prog 25 #[.pointer none] w fun z w' => z = .returned (.int .i64 0) ∧ Below w.heap.size w w'
  done_nil : ∀ w, Calls Try.prog 26 #[.pointer none] w fun z w' => z = .returned (.int .i64 0) ∧ Below w.heap.size w w'
  weight_nil : ∀ w, Calls Try.prog 27 #[.pointer none] w fun z w' => z = .returned (.agg #[.int .i64 0, .int .i64 0]) ∧ Below w.heap.size w w'

section
variable {Hp : World → Nat → (Nat → Prop) → TS → Prop}
/-- the blocks of G are as they were -/
structure Holds (G : Nat → Prop) (w w' : World) : Prop where
  size : w.heap.size ≤ w'.heap.size
  block : ∀ k, G k → w'.heap[k]? = w.heap[k]?
theorem Holds.blk {G : Nat → Prop} {w w' : World} (h : Holds G w w') {T : TypeId} {b : Nat} {cs : Array Value} (q : Blk w T b cs) (hb : G b) : Blk w' T b cs := (h.block b hb).trans q
theorem Holds.less {G G' : Nat → Prop} {w w' : World} (h : Holds G w w') (k : ∀ x, G' x → G x) : Holds G' w w' := ⟨h.size, fun x q => h.block x (k x q)⟩
/-- what is carried through the laws: a task of the law's own, apart of the law's other blocks G -/
def Mine (Hp : World → Nat → (Nat → Prop) → TS → Prop) (w : World) (G : Nat → Prop) (g : Nat) (ts : TS) (wr : World) : Prop := ∃ F, Hp wr g F ts ∧ From F w.heap.size ∧ Below w.heap.size w wr ∧ Apart F G ∧ Lies G wr ∧ From G w.heap.size
def G0 : Nat → Prop := fun _ => False
theorem Mine.below {w wr : World} {G : Nat → Prop} {g : Nat} {ts : TS} (h : Mine Hp w G g ts wr) : Below w.heap.size w wr := by obtain ⟨_, _, _, h, _⟩ := h; exact h
theorem Mine.lies {w wr : World} {G : Nat → Prop} {g : Nat} {ts : TS} (h : Mine Hp w G g ts wr) : Lies G wr := by obtain ⟨_, _, _, _, _, h, _⟩ := h; exact h
theorem Mine.good (ok : TaskOk Hp) {w wr : World} {G : Nat → Prop} {g : Nat} {ts : TS} (h : Mine Hp w G g ts wr) : GoodT ts := by
  obtain ⟨F, h1, _⟩ := h
  exact ok.good h1
theorem Mine.stays {w wr w' : World} {G : Nat → Prop} {g : Nat} {ts' : TS} {F : Nat → Prop} (hF : From F w.heap.size) (hb : Below w.heap.size w wr) (ap : Apart F G) (lg : Lies G wr) (fg : From G w.heap.size) (h : StaysT Hp wr g F ts' w') : Mine Hp w G g ts' w' ∧ Holds G wr w' := by
  obtain ⟨F', h1, h2⟩ := h
  exact ⟨⟨F', h1, hF.moves h2 hb.size, h2.keeps.below hb hF hb.size, ap.moves h2 lg, lg.next h2.keeps.size, fg⟩, ⟨h2.keeps.size, fun k q => h2.keeps.block k (lg k q) (fun f => ap k f q)⟩⟩
/-- the law's own writing -/
theorem Mine.wrote (ok : TaskOk Hp) {w wr w' : World} {G G' : Nat → Prop} {g : Nat} {ts : TS} (h : Mine Hp w G g ts wr) (hk : Keeps G wr w') (hG : ∀ k, G' k → G k ∨ wr.heap.size ≤ k) (hl : Lies G' w') : Mine Hp w G' g ts w' := by
  obtain ⟨F, h1, h2, h3, h4, h5, h6⟩ := h
  refine ⟨F, ok.keeps h1 hk h4, h2, hk.below h3 h6 h3.size, fun k f q => ?_, hl, fun k q => ?_⟩
  · rcases hG k q with r | r
    · exact h4 k f r
    · have := ok.lies h1 k f; omega
  · rcases hG k q with r | r
    · exact h6 k r
    · exact Nat.le_trans h3.size r
theorem Mine.next (ok : TaskOk Hp) {w wr w' : World} {G : Nat → Prop} {g : Nat} {ts : TS} (h : Mine Hp w G g ts wr) (hb : Below wr.heap.size wr w') : Mine Hp w G g ts w' :=
  h.wrote ok (Keeps.of hb) (fun _ q => .inl q) (by obtain ⟨_, _, _, _, _, h5, _⟩ := h; exact h5.next hb.size)
theorem Mine.less (ok : TaskOk Hp) {w wr : World} {G G' : Nat → Prop} {g : Nat} {ts : TS} (h : Mine Hp w G g ts wr) (hG : ∀ k, G' k → G k) : Mine Hp w G' g ts wr :=
  h.wrote ok (Keeps.refl _ _) (fun k q => .inl (hG k q)) (fun k q => h.lies k (hG k q))
/-- .. a block of its own, new -/
theorem Mine.own1 (ok : TaskOk Hp) {w wr : World} {G : Nat → Prop} {g : Nat} {ts : TS} (h : Mine Hp w G g ts wr) (o : Obj) : Mine Hp w (fun k => G k ∨ k = wr.heap.size) g ts (wr.alloc o) :=
  h.wrote ok (Keeps.of (wbox _ _)) (fun k q => q.imp id (fun e => by omega)) (fun k q => by
    rcases q with q | q
    · have := h.lies k q; simp; omega
    · simp; omega)
theorem Mine.same {w wr : World} {G : Nat → Prop} {g : Nat} {ts ts' : TS} (h : Mine Hp w G g ts wr) (e : ts = ts') : Mine Hp w G g ts' wr := e ▸ h
theorem mnew (ok : TaskOk Hp) {w : World} (E P at_ : Int) (early : Bool) (wr : World) (hb : Below w.heap.size w wr) (hM : MayBe E P) (h0 : 0 ≤ at_) (h1 : at_ ≤ 1099511627776) : Calls Try.prog 11 #[.agg #[.int .i64 E, .int .i64 P], .int .i64 at_, .bool early] wr fun z w' => ∃ g, z = .returned (.pointer (some ⟨g, 0, none⟩)) ∧ Mine Hp w G0 g (ts0 E P at_ early) w' ∧ Below wr.heap.size wr w' :=
  (ok.new_yes E P at_ early wr hM h0 h1).mono fun _ _ ⟨g, F, h1, h2, h3, h4⟩ => ⟨g, h1, ⟨F, h2, fun k q => Nat.le_trans hb.size (h3 k q), below_next hb h4, fun _ _ q => q, (fun _ q => q.elim), (fun _ q => q.elim)⟩, h4⟩
/-- .. beside the law's blocks that are there already -/
theorem mnewG (ok : TaskOk Hp) {w : World} (G : Nat → Prop) (E P at_ : Int) (early : Bool) (wr : World) (hb : Below w.heap.size w wr) (hl : Lies G wr) (hf : From G w.heap.size) (hM : MayBe E P) (h0 : 0 ≤ at_) (h1 : at_ ≤ 1099511627776) : Calls Try.prog 11 #[.agg #[.int .i64 E, .int .i64 P], .int .i64 at_, .bool early] wr fun z w' => ∃ g, z = .returned (.pointer (some ⟨g, 0, none⟩)) ∧ Mine Hp w G g (ts0 E P at_ early) w' ∧ Below wr.heap.size wr w' :=
  (ok.new_yes E P at_ early wr hM h0 h1).mono fun _ _ ⟨g, F, h1, h2, h3, h4⟩ => ⟨g, h1, ⟨F, h2, fun k q => Nat.le_trans hb.size (h3 k q), below_next hb h4, fun k q z => by have := h3 k q; have := hl k z; omega, hl.next h4.size, hf⟩, h4⟩
theorem marrive (ok : TaskOk Hp) {w wr : World} {G : Nat → Prop} (g : Nat) (ts : TS) (at_ n : Int) (h : Mine Hp w G g ts wr) (hc : ts.came ≤ 100000) : Calls Try.prog 19 #[.pointer (some ⟨g, 0, none⟩), .int .i64 at_, .int .i64 n] wr fun z w' => z = .returned (.int .i64 (arriveE ts at_ n)) ∧ Mine Hp w G g (arriveT ts at_ n) w' ∧ Holds G wr w' := by
  obtain ⟨F, h1, h2, h3, h4, h5, h6⟩ := h
  exact (ok.arrive g F ts at_ n wr h1 hc).mono fun _ _ ⟨a, b⟩ => ⟨a, Mine.stays h2 h3 h4 h5 h6 b⟩
theorem mhead (ok : TaskOk Hp) {w wr : World} {G : Nat → Prop} (g : Nat) (ts : TS) (h : Mine Hp w G g ts wr) : Calls Try.prog 23 #[.pointer (some ⟨g, 0, none⟩)] wr fun z w' => z = .returned (.tuple #[(headS ts).v, .bool (someB ts)]) ∧ Mine Hp w G g (ts) w' ∧ Holds G wr w' := by
  obtain ⟨F, h1, h2, h3, h4, h5, h6⟩ := h
  exact (ok.head g F ts wr h1).mono fun _ _ ⟨a, b⟩ => ⟨a, Mine.stays h2 h3 h4 h5 h6 b⟩
theorem mready (ok : TaskOk Hp) {w wr : World} {G : Nat → Prop} (g : Nat) (ts : TS) (at_ : Int) (h : Mine Hp w G g ts wr) : Calls Try.prog 15 #[.pointer (some ⟨g, 0, none⟩), .int .i64 at_] wr fun z w' => z = .returned (.tuple #[(readyS ts at_).v, .bool (readyB ts at_)]) ∧ Mine Hp w G g (ts) w' ∧ Holds G wr w' := by
  obtain ⟨F, h1, h2, h3, h4, h5, h6⟩ := h
  exact (ok.ready g F ts at_ wr h1).mono fun _ _ ⟨a, b⟩ => ⟨a, Mine.stays h2 h3 h4 h5 h6 b⟩
theorem mwhen (ok : TaskOk Hp) {w wr : World} {G : Nat → Prop} (g : Nat) (ts : TS) (h : Mine Hp w G g ts wr) : Calls Try.prog 24 #[.pointer (some ⟨g, 0, none⟩)] wr fun z w' => z = .returned (.tuple #[.int .i64 (whenV ts), .bool (someB ts)]) ∧ Mine Hp w G g (ts) w' ∧ Holds G wr w' := by
  obtain ⟨F, h1, h2, h3, h4, h5, h6⟩ := h
  exact (ok.when_ g F ts wr h1).mono fun _ _ ⟨a, b⟩ => ⟨a, Mine.stays h2 h3 h4 h5 h6 b⟩
theorem mrun (ok : TaskOk Hp) {w wr : World} {G : Nat → Prop} (g : Nat) (ts : TS) (h : Mine Hp w G g ts wr) (hc : ts.done ≤ 100000) : Calls Try.prog 13 #[.pointer (some ⟨g, 0, none⟩)] wr fun z w' => z = .returned (.tuple #[(headS ts).v, .bool (someB ts)]) ∧ Mine Hp w G g (runT ts) w' ∧ Holds G wr w' := by
  obtain ⟨F, h1, h2, h3, h4, h5, h6⟩ := h
  exact (ok.run g F ts wr h1 hc).mono fun _ _ ⟨a, b⟩ => ⟨a, Mine.stays h2 h3 h4 h5 h6 b⟩
theorem mlast (ok : TaskOk Hp) {w wr : World} {G : Nat → Prop} (g : Nat) (ts : TS) (h : Mine Hp w G g ts wr) : Calls Try.prog 21 #[.pointer (some ⟨g, 0, none⟩)] wr fun z w' => z = .returned (.tuple #[(lastS ts).v, .bool (lastB ts)]) ∧ Mine Hp w G g (ts) w' ∧ Holds G wr w' := by
  obtain ⟨F, h1, h2, h3, h4, h5, h6⟩ := h
  exact (ok.last g F ts wr h1).mono fun _ _ ⟨a, b⟩ => ⟨a, Mine.stays h2 h3 h4 h5 h6 b⟩
theorem mcut (ok : TaskOk Hp) {w wr : World} {G : Nat → Prop} (g : Nat) (ts : TS) (at_ : Int) (h : Mine Hp w G g ts wr) : Calls Try.prog 17 #[.pointer (some ⟨g, 0, none⟩), .int .i64 at_] wr fun z w' => z = .returned (.int .i64 (cutN ts at_)) ∧ Mine Hp w G g (cutT ts at_) w' ∧ Holds G wr w' := by
  obtain ⟨F, h1, h2, h3, h4, h5, h6⟩ := h
  exact (ok.cut g F ts at_ wr h1).mono fun _ _ ⟨a, b⟩ => ⟨a, Mine.stays h2 h3 h4 h5 h6 b⟩
theorem mwaits (ok : TaskOk Hp) {w wr : World} {G : Nat → Prop} (g : Nat) (ts : TS) (h : Mine Hp w G g ts wr) : Calls Try.prog 25 #[.pointer (some ⟨g, 0, none⟩)] wr fun z w' => z = .returned (.int .i64 (ts.l.length : Int)) ∧ Mine Hp w G g (ts) w' ∧ Holds G wr w' := by
  obtain ⟨F, h1, h2, h3, h4, h5, h6⟩ := h
  exact (ok.waits g F ts wr h1).mono fun _ _ ⟨a, b⟩ => ⟨a, Mine.stays h2 h3 h4 h5 h6 b⟩
theorem mdone (ok : TaskOk Hp) {w wr : World} {G : Nat → Prop} (g : Nat) (ts : TS) (h : Mine Hp w G g ts wr) : Calls Try.prog 26 #[.pointer (some ⟨g, 0, none⟩)] wr fun z w' => z = .returned (.int .i64 ts.done) ∧ Mine Hp w G g (ts) w' ∧ Holds G wr w' := by
  obtain ⟨F, h1, h2, h3, h4, h5, h6⟩ := h
  exact (ok.done g F ts wr h1).mono fun _ _ ⟨a, b⟩ => ⟨a, Mine.stays h2 h3 h4 h5 h6 b⟩
theorem mweight (ok : TaskOk Hp) {w wr : World} {G : Nat → Prop} (g : Nat) (ts : TS) (h : Mine Hp w G g ts wr) : Calls Try.prog 27 #[.pointer (some ⟨g, 0, none⟩)] wr fun z w' => z = .returned (.agg #[.int .i64 ts.E, .int .i64 ts.P]) ∧ Mine Hp w G g (ts) w' ∧ Holds G wr w' := by
  obtain ⟨F, h1, h2, h3, h4, h5, h6⟩ := h
  exact (ok.weight g F ts wr h1).mono fun _ _ ⟨a, b⟩ => ⟨a, Mine.stays h2 h3 h4 h5 h6 b⟩
end
end Go.Proofs.Ythaoijmjkmgebaa
