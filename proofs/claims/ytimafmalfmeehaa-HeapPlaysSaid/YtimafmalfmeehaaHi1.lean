/-
  What is asked of package heap: its contracts, for whatever lies in memory; the laws' awake.
-/
import Derived.Test.YtimafmalfmeehaaHx13
import Derived.Test.YtimafmalfmeehaaHxS
namespace Go.Proofs.Ytimafmalfmeehaa
open Go.RowKit

/-- a call on the heap that leaves the things ts -/
def Stays (Hp : World → Nat → (Nat → Prop) → List Th → Prop) (w : World) (g : Nat) (F : Nat → Prop) (ts : List Th) (w' : World) : Prop := ∃ F', Hp w' g F' ts ∧ Moves F F' w w'
/-- package heap is as P7.1 and P7.2 say -/
structure HeapOk (Hp : World → Nat → (Nat → Prop) → List Th → Prop) : Prop where
  lies : ∀ {w g F ts}, Hp w g F ts → Lies F w
  keeps : ∀ {w w' g F G ts}, Hp w g F ts → Keeps G w w' → Apart F G → Hp w' g F ts
  own : ∀ {w g F ts}, Hp w g F ts → ts.Pairwise (fun a b => a.id ≠ b.id)
  new : ∀ w, Calls Try.prog 9 #[.func (.func 10) #[] #[]] w fun e w' => ∃ g F, e = .returned (.pointer (some ⟨g, 0, none⟩)) ∧ Hp w' g F [] ∧ From F w.heap.size ∧ Below w.heap.size w w'
  push : ∀ g F ts id x w, Hp w g F ts → InR id → ts.length ≤ 500 → Calls Try.prog 19 #[.pointer (some ⟨g, 0, none⟩), .int .i64 id, .int .i64 x] w fun e w' => (0 ≤ placeT ts id ∧ e = .returned (.bool false) ∧ Stays Hp w g F ts w') ∨ (placeT ts id < 0 ∧ e = .returned (.bool true) ∧ Stays Hp w g F (ts ++ [⟨id, x⟩]) w')
  pop : ∀ g F ts w, Hp w g F ts → ts.length ≤ 500 → Calls Try.prog 11 #[.pointer (some ⟨g, 0, none⟩)] w fun e w' => (ts = [] ∧ e = .returned (.tuple #[.int .i64 0, .int .i64 0, .bool false]) ∧ Stays Hp w g F ts w') ∨ (∃ (k : Nat) (t : Th), ts[k]? = some t ∧ MinIn ts ts.length k ∧ e = .returned (.tuple #[.int .i64 t.id, .int .i64 t.x, .bool true]) ∧ Stays Hp w g F (ts.eraseIdx k) w')
  min : ∀ g F ts w, Hp w g F ts → ts.length ≤ 500 → Calls Try.prog 17 #[.pointer (some ⟨g, 0, none⟩)] w fun e w' => ((ts = [] ∧ e = .returned (.tuple #[.int .i64 0, .int .i64 0, .bool false])) ∨ (∃ (k : Nat) (t : Th), ts[k]? = some t ∧ MinIn ts ts.length k ∧ e = .returned (.tuple #[.int .i64 t.id, .int .i64 t.x, .bool true]))) ∧ Stays Hp w g F ts w'
  remove : ∀ g F ts id w, Hp w g F ts → InR id → ts.length ≤ 500 → Calls Try.prog 13 #[.pointer (some ⟨g, 0, none⟩), .int .i64 id] w fun e w' => (placeT ts id < 0 ∧ e = .returned (.tuple #[.int .i64 0, .bool false]) ∧ Stays Hp w g F ts w') ∨ (∃ (k : Nat) (t : Th), placeT ts id = k ∧ ts[k]? = some t ∧ e = .returned (.tuple #[.int .i64 t.x, .bool true]) ∧ Stays Hp w g F (ts.eraseIdx k) w')
  get : ∀ g F ts id w, Hp w g F ts → InR id → ts.length ≤ 500 → Calls Try.prog 15 #[.pointer (some ⟨g, 0, none⟩), .int .i64 id] w fun e w' => ((placeT ts id < 0 ∧ e = .returned (.tuple #[.int .i64 0, .bool false])) ∨ (∃ (k : Nat) (t : Th), placeT ts id = k ∧ ts[k]? = some t ∧ e = .returned (.tuple #[.int .i64 t.x, .bool true]))) ∧ Stays Hp w g F ts w'
  len : ∀ g F ts w, Hp w g F ts → ts.length ≤ 500 → Calls Try.prog 24 #[.pointer (some ⟨g, 0, none⟩)] w fun e w' => e = .returned (.int .i64 (ts.length : Int)) ∧ Stays Hp w g F ts w'
  ids : ∀ g F ts w, Hp w g F ts → ts.length ≤ 500 → Calls Try.prog 22 #[.pointer (some ⟨g, 0, none⟩)] w fun e w' => ∃ a len cap, e = .returned (.slice a len cap) ∧ Row .i64 w' a len cap (idsT ts) ∧ Fresh w.heap.size a ∧ ∃ F', Hp w' g F' ts ∧ Moves F F' w w' ∧ (∀ ad : Addr, a = some ad → ¬ F' ad.block)

theorem heapOk : HeapOk Hp7 := {
  lies := fun h => h.lies
  keeps := fun h k ap => h.keeps k ap
  own := fun h => h.own
  new := hnew_any
  push := fun g F ts id x w h hr hl => hpush_any g F ts id x w h hr hl
  pop := fun g F ts w h _ => hpop_any g F ts w h
  min := fun g F ts w h _ => hmin_any g F ts w h
  remove := fun g F ts id w h hr _ => hremove_any g F ts id w h hr
  get := fun g F ts id w h hr _ => hget_any g F ts id w h hr
  len := fun g F ts w h _ => hlen_any g F ts w h
  ids := fun g F ts w h _ => hids_any sortOk g F ts w h }
section
variable {Hp : World → Nat → (Nat → Prop) → List Th → Prop}
/-- what is carried through the laws: a heap of the law's own -/
def Mine7 (Hp : World → Nat → (Nat → Prop) → List Th → Prop) (w : World) (g : Nat) (ts : List Th) (wr : World) : Prop := ∃ F, Hp wr g F ts ∧ From F w.heap.size ∧ Below w.heap.size w wr
theorem Mine7.below {w wr : World} {g : Nat} {ts : List Th} (h : Mine7 Hp w g ts wr) : Below w.heap.size w wr := by obtain ⟨_, _, _, h⟩ := h; exact h
theorem Mine7.stays {w wr w' : World} {g : Nat} {ts' : List Th} {F : Nat → Prop} (hF : From F w.heap.size) (hb : Below w.heap.size w wr) (h : Stays Hp wr g F ts' w') : Mine7 Hp w g ts' w' := by
  obtain ⟨F', h1, h2⟩ := h
  exact ⟨F', h1, hF.moves h2 hb.size, h2.keeps.below hb hF hb.size⟩
theorem m7new (ok : HeapOk Hp) {w : World} (wr : World) (hb : Below w.heap.size w wr) : Calls Try.prog 9 #[.func (.func 10) #[] #[]] wr fun e w' => ∃ g, e = .returned (.pointer (some ⟨g, 0, none⟩)) ∧ Mine7 Hp w g [] w' :=
  (ok.new wr).mono fun _ _ ⟨g, F, h1, h2, h3, h4⟩ => ⟨g, h1, F, h2, fun k q => Nat.le_trans hb.size (h3 k q), below_next hb h4⟩
theorem m7push (ok : HeapOk Hp) {w wr : World} (g : Nat) (ts : List Th) (id x : Int) (h : Mine7 Hp w g ts wr) (hr : InR id) (hl : ts.length ≤ 500) : Calls Try.prog 19 #[.pointer (some ⟨g, 0, none⟩), .int .i64 id, .int .i64 x] wr fun e w' => (0 ≤ placeT ts id ∧ e = .returned (.bool false) ∧ Mine7 Hp w g ts w') ∨ (placeT ts id < 0 ∧ e = .returned (.bool true) ∧ Mine7 Hp w g (ts ++ [⟨id, x⟩]) w') := by
  obtain ⟨F, h1, h2, h3⟩ := h
  exact (ok.push g F ts id x wr h1 hr hl).mono fun _ _ h => h.imp (fun ⟨a, b, c⟩ => ⟨a, b, Mine7.stays h2 h3 c⟩) (fun ⟨a, b, c⟩ => ⟨a, b, Mine7.stays h2 h3 c⟩)
theorem m7pop (ok : HeapOk Hp) {w wr : World} (g : Nat) (ts : List Th) (h : Mine7 Hp w g ts wr) (hl : ts.length ≤ 500) : Calls Try.prog 11 #[.pointer (some ⟨g, 0, none⟩)] wr fun e w' => (ts = [] ∧ e = .returned (.tuple #[.int .i64 0, .int .i64 0, .bool false]) ∧ Mine7 Hp w g ts w') ∨ (∃ (k : Nat) (t : Th), ts[k]? = some t ∧ MinIn ts ts.length k ∧ e = .returned (.tuple #[.int .i64 t.id, .int .i64 t.x, .bool true]) ∧ Mine7 Hp w g (ts.eraseIdx k) w') := by
  obtain ⟨F, h1, h2, h3⟩ := h
  exact (ok.pop g F ts wr h1 hl).mono fun _ _ h => h.imp (fun ⟨a, b, c⟩ => ⟨a, b, Mine7.stays h2 h3 c⟩) (fun ⟨k, t, a, b, c, d⟩ => ⟨k, t, a, b, c, Mine7.stays h2 h3 d⟩)
theorem m7min (ok : HeapOk Hp) {w wr : World} (g : Nat) (ts : List Th) (h : Mine7 Hp w g ts wr) (hl : ts.length ≤ 500) : Calls Try.prog 17 #[.pointer (some ⟨g, 0, none⟩)] wr fun e w' => ((ts = [] ∧ e = .returned (.tuple #[.int .i64 0, .int .i64 0, .bool false])) ∨ (∃ (k : Nat) (t : Th), ts[k]? = some t ∧ MinIn ts ts.length k ∧ e = .returned (.tuple #[.int .i64 t.id, .int .i64 t.x, .bool true]))) ∧ Mine7 Hp w g ts w' := by
  obtain ⟨F, h1, h2, h3⟩ := h
  exact (ok.min g F ts wr h1 hl).mono fun _ _ ⟨a, b⟩ => ⟨a, Mine7.stays h2 h3 b⟩
theorem m7remove (ok : HeapOk Hp) {w wr : World} (g : Nat) (ts : List Th) (id : Int) (h : Mine7 Hp w g ts wr) (hr : InR id) (hl : ts.length ≤ 500) : Calls Try.prog 13 #[.pointer (some ⟨g, 0, none⟩), .int .i64 id] wr fun e w' => (placeT ts id < 0 ∧ e = .returned (.tuple #[.int .i64 0, .bool false]) ∧ Mine7 Hp w g ts w') ∨ (∃ (k : Nat) (t : Th), placeT ts id = k ∧ ts[k]? = some t ∧ e = .returned (.tuple #[.int .i64 t.x, .bool true]) ∧ Mine7 Hp w g (ts.eraseIdx k) w') := by
  obtain ⟨F, h1, h2, h3⟩ := h
  exact (ok.remove g F ts id wr h1 hr hl).mono fun _ _ h => h.imp (fun ⟨a, b, c⟩ => ⟨a, b, Mine7.stays h2 h3 c⟩) (fun ⟨k, t, a, b, c, d⟩ => ⟨k, t, a, b, c, Mine7.stays h2 h3 d⟩)
theorem m7get (ok : HeapOk Hp) {w wr : World} (g : Nat) (ts : List Th) (id : Int) (h : Mine7 Hp w g ts wr) (hr : InR id) (hl : ts.length ≤ 500) : Calls Try.prog 15 #[.pointer (some ⟨g, 0, none⟩), .int .i64 id] wr fun e w' => ((placeT ts id < 0 ∧ e = .returned (.tuple #[.int .i64 0, .bool false])) ∨ (∃ (k : Nat) (t : Th), placeT ts id = k ∧ ts[k]? = some t ∧ e = .returned (.tuple #[.int .i64 t.x, .bool true]))) ∧ Mine7 Hp w g ts w' := by
  obtain ⟨F, h1, h2, h3⟩ := h
  exact (ok.get g F ts id wr h1 hr hl).mono fun _ _ ⟨a, b⟩ => ⟨a, Mine7.stays h2 h3 b⟩
theorem m7len (ok : HeapOk Hp) {w wr : World} (g : Nat) (ts : List Th) (h : Mine7 Hp w g ts wr) (hl : ts.length ≤ 500) : Calls Try.prog 24 #[.pointer (some ⟨g, 0, none⟩)] wr fun e w' => e = .returned (.int .i64 (ts.length : Int)) ∧ Mine7 Hp w g ts w' := by
  obtain ⟨F, h1, h2, h3⟩ := h
  exact (ok.len g F ts wr h1 hl).mono fun _ _ ⟨a, b⟩ => ⟨a, Mine7.stays h2 h3 b⟩

theorem two_min {k : Nat} {t : Th} (h : [(⟨1, 5⟩ : Th), ⟨3, 5⟩][k]? = some t) (m : MinIn [(⟨1, 5⟩ : Th), ⟨3, 5⟩] 2 k) : k = 0 := by
  rcases k with _ | _ | k
  · rfl
  · obtain ⟨t, ht, ha⟩ := m
    simp at ht
    have := ha ⟨1, 5⟩ (by simp)
    rw [← ht] at this
    exact absurd (.inr ⟨rfl, by decide⟩) this
  · simp at h
theorem l7awake (ok : HeapOk Hp) (w : World) : Calls Try.prog 8 #[] w fun e w' => e = .returned (.bool true) ∧ Below w.heap.size w w' := by
  have OK := Lib.hid ok
  clear ok
  go_enter Try.func8, Try.ntmps8
  go_wp2_with fail
  refine (m7new OK.out w (Below.refl _ _)).mono ?_
  rintro e w1 ⟨g, rfl, hm⟩
  have M := Lib.hid hm
  clear hm
  go_wp2_with fail
  refine (m7push OK.out g [] 1 5 M.out (by unfold InR; omega) (by decide)).mono ?_
  rintro e w2 (⟨h, _, _⟩ | ⟨_, rfl, hm⟩)
  · exact absurd h (by decide)
  have M := Lib.hid hm
  clear hm
  go_wp2_with fail
  refine (m7push OK.out g _ 2 3 M.out (by unfold InR; omega) (by decide)).mono ?_
  rintro e w3 (⟨h, _, _⟩ | ⟨_, rfl, hm⟩)
  · exact absurd h (by decide)
  have M := Lib.hid hm
  clear hm
  go_wp2_with fail
  refine (m7push OK.out g _ 3 5 M.out (by unfold InR; omega) (by decide)).mono ?_
  rintro e w4 (⟨h, _, _⟩ | ⟨_, rfl, hm⟩)
  · exact absurd h (by decide)
  have M := Lib.hid hm
  clear hm
  go_wp2_with fail
  refine (m7remove OK.out g _ 2 M.out (by unfold InR; omega) (by decide)).mono ?_
  rintro e w5 (⟨h, _, _⟩ | ⟨k, t, hp, ht, rfl, hm⟩)
  · exact absurd h (by decide)
  obtain rfl : 1 = k := by
    have : (1 : Int) = (k : Int) := hp
    omega
  obtain rfl : (⟨2, 3⟩ : Th) = t := by simpa using ht
  have M := Lib.hid hm
  clear hm hp ht
  go_wp2_with fail
  refine (m7pop OK.out g _ M.out (by decide)).mono ?_
  rintro e w6 (⟨h, _, _⟩ | ⟨k, t, ht, hmin, rfl, hm⟩)
  · simp at h
  obtain rfl : k = 0 := two_min ht hmin
  obtain rfl : (⟨1, 5⟩ : Th) = t := by simpa using ht
  have M := Lib.hid hm
  clear hm hmin ht
  go_wp2_with fail
  refine (m7pop OK.out g _ M.out (by decide)).mono ?_
  rintro e w7 (⟨h, _, _⟩ | ⟨k, t, ht, hmin, rfl, hm⟩)
  · simp at h
  obtain rfl : k = 0 := by
    rcases k with _ | k
    · rfl
    · simp at ht
  obtain rfl : (⟨3, 5⟩ : Th) = t := by simpa using ht
  have M := Lib.hid hm
  clear hm hmin ht
  go_wp2
  go_ret
  exact ⟨rfl, M.out.below⟩
end
end Go.Proofs.Ytimafmalfmeehaa
