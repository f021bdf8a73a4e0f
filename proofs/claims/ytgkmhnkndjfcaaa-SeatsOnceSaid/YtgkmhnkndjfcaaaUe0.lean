/-
  Seats: plain; what is asked of package seats: its contracts, for whatever lies in memory.
-/
import Derived.Test.YtgkmhnkndjfcaaaSep
import Derived.Deep.DeepCutAuto
import Derived.Laws.OwnMore
namespace Go.Proofs.Ytgkmhnkndjfcaaa
open Go.RowKit

theorem ret_b {x y : Bool} (h : x = y) : Ending.returned (.bool x) = .returned (.bool y) := by rw [h]
theorem cell_on {w w2 : World} {p : Addr} {v : Value} (hb : Below w.heap.size w w2) (h : w.cell? p = some v) : w2.cell? p = some v := (hb.cell (World.block_lt_of_cell? _ _ h)).trans h
theorem bdN {B : Nat} {a w : World} (h : Below B a w) (n : Nat) : Below B a (w.drewN n) := ⟨h.os, h.tape, h.output, h.size, h.block⟩
theorem lt_of_get {α : Type} {l : List α} {i : Nat} {x : α} (h : l[i]? = some x) : i < l.length := by
  rcases Nat.lt_or_ge i l.length with g | g
  · exact g
  · rw [List.getElem?_eq_none g] at h; cases h
theorem get_of {α : Type} {l : List α} {i : Nat} (hi : i < l.length) : ∃ r, l[i]? = some r ∧ l.take (i + 1) = l.take i ++ [r] :=
  ⟨l[i], List.getElem?_eq_getElem hi, by rw [List.take_succ_eq_append_getElem hi]⟩
/-! ### plain: n seats, those in fr are not taken, the longest so first -/
def ups (n : Nat) : List Int := (List.range n).map Int.ofNat
theorem ups_len (n : Nat) : (ups n).length = n := by simp [ups]
theorem ups_succ (n : Nat) : ups (n + 1) = ups n ++ [(n : Int)] := by unfold ups; rw [List.range_succ, List.map_append]; rfl
theorem ups_mem {n : Nat} {x : Int} : x ∈ ups n ↔ 0 ≤ x ∧ x < n := by
  unfold ups
  rw [List.mem_map]
  constructor
  · rintro ⟨k, hk, rfl⟩
    rw [List.mem_range] at hk
    show 0 ≤ (k : Int) ∧ (k : Int) < n
    omega
  · rintro ⟨h0, h1⟩
    exact ⟨x.toNat, List.mem_range.mpr (by omega), by show (x.toNat : Int) = x; omega⟩
theorem ups_nodup (n : Nat) : (ups n).Nodup := by
  unfold ups
  exact List.Pairwise.map _ (fun a b h => by show ¬ (a : Int) = (b : Int); omega) List.nodup_range
def takeV : List Int → Int × Int × List Int
  | [] => (0, 15, [])
  | x :: fr => (x, 0, fr)
def giveV (n : Nat) (fr : List Int) (id : Int) : Int × List Int := if 0 ≤ id ∧ id < n then (if id ∈ fr then (12, fr) else (0, fr ++ [id])) else (1, fr)
def takenB (n : Nat) (fr : List Int) (id : Int) : Bool := decide (0 ≤ id) && decide (id < n) && !decide (id ∈ fr)
def idsV (n : Nat) (fr : List Int) : List Int := (ups n).filter fun x => !decide (x ∈ fr)
/-- what is not taken -/
structure GoodF (n : Nat) (fr : List Int) : Prop where
  n1 : 1 ≤ n
  n64 : n ≤ 64
  nd : fr.Nodup
  rng : ∀ x ∈ fr, 0 ≤ x ∧ x < n
theorem good_new {n : Nat} (h1 : 1 ≤ n) (h2 : n ≤ 64) : GoodF n (ups n) := ⟨h1, h2, ups_nodup n, fun _ hx => ups_mem.mp hx⟩
theorem GoodF.tail {n : Nat} {x : Int} {fr : List Int} (h : GoodF n (x :: fr)) : GoodF n fr := ⟨h.n1, h.n64, (List.nodup_cons.mp h.nd).2, fun y hy => h.rng y (List.mem_cons_of_mem _ hy)⟩
theorem GoodF.take {n : Nat} {fr : List Int} (h : GoodF n fr) : GoodF n (takeV fr).2.2 := by
  cases fr with
  | nil => exact h
  | cons x fr => exact h.tail
theorem GoodF.give {n : Nat} {fr : List Int} (h : GoodF n fr) (id : Int) : GoodF n (giveV n fr id).2 := by
  unfold giveV
  split
  · rename_i hr
    split
    · exact h
    · rename_i hn
      refine ⟨h.n1, h.n64, ?_, fun x hx => ?_⟩
      · rw [List.nodup_append]
        refine ⟨h.nd, by simp, fun a ha b hb e => ?_⟩
        have : b = id := by simpa using hb
        subst this
        subst e
        exact hn ha
      · rcases List.mem_append.mp hx with q | q
        · exact h.rng x q
        · have : x = id := by simpa using q
          subst this
          exact hr
  · exact h
theorem GoodF.len {n : Nat} {fr : List Int} (h : GoodF n fr) : fr.length ≤ n := by
  have := List.Nodup.length_le_of_subset h.nd (l₂ := ups n) (fun x hx => ups_mem.mpr (h.rng x hx))
  rwa [ups_len] at this
theorem filt_len {α : Type} (p : α → Bool) : ∀ l : List α, (l.filter fun x => !p x).length + (l.filter p).length = l.length
  | [] => rfl
  | x :: l => by
    have h := filt_len p l
    rw [List.filter_cons, List.filter_cons, List.length_cons]
    cases p x
    · simp only [Bool.not_false, if_true, List.length_cons, Bool.false_eq_true, if_false]; omega
    · simp only [Bool.not_true, Bool.false_eq_true, if_false, if_true, List.length_cons]; omega
theorem ids_len {n : Nat} {fr : List Int} (h : GoodF n fr) : (idsV n fr).length + fr.length = n := by
  have hp : ((ups n).filter fun x => decide (x ∈ fr)).Perm fr := by
    rw [List.perm_ext_iff_of_nodup ((ups_nodup n).filter _) h.nd]
    intro a
    simp only [List.mem_filter, decide_eq_true_eq, ups_mem]
    exact ⟨fun q => q.2, fun q => ⟨h.rng a q, q⟩⟩
  have h1 := filt_len (fun x => decide (x ∈ fr)) (ups n)
  rw [ups_len, hp.length_eq] at h1
  unfold idsV
  omega
/-! ### what is asked -/
def StaysS (Hp : World → Nat → (Nat → Prop) → Nat → List Int → Prop) (w : World) (g : Nat) (F : Nat → Prop) (n : Nat) (fr : List Int) (w' : World) : Prop := ∃ F', Hp w' g F' n fr ∧ Moves F F' w w'
/-- package seats is as P17.1 says -/
structure SeatsOk (Hp : World → Nat → (Nat → Prop) → Nat → List Int → Prop) : Prop where
  lies : ∀ {w g F n fr}, Hp w g F n fr → Lies F w
  keeps : ∀ {w w' g F G n fr}, Hp w g F n fr → Keeps G w w' → Apart F G → Hp w' g F n fr
  good : ∀ {w g F n fr}, Hp w g F n fr → GoodF n fr
  new_yes : ∀ (n : Nat) w, 1 ≤ n → n ≤ 64 → Calls Try.prog 8 #[.int .i64 n] w fun z w' => ∃ g F, z = .returned (.pointer (some ⟨g, 0, none⟩)) ∧ Hp w' g F n (ups n) ∧ From F w.heap.size ∧ Below w.heap.size w w'
  new_no : ∀ (m : Int) w, m < 1 ∨ 64 < m → Calls Try.prog 8 #[.int .i64 m] w fun z w' => z = .returned (.pointer none) ∧ Below w.heap.size w w'
  take : ∀ g F n fr w, Hp w g F n fr → Calls Try.prog 10 #[.pointer (some ⟨g, 0, none⟩)] w fun z w' => z = .returned (.tuple #[.int .i64 (takeV fr).1, .int .i64 (takeV fr).2.1]) ∧ StaysS Hp w g F n (takeV fr).2.2 w'
  give : ∀ g F n fr (id : Int) w, Hp w g F n fr → Calls Try.prog 12 #[.pointer (some ⟨g, 0, none⟩), .int .i64 id] w fun z w' => z = .returned (.int .i64 (giveV n fr id).1) ∧ StaysS Hp w g F n (giveV n fr id).2 w'
  taken : ∀ g F n fr (id : Int) w, Hp w g F n fr → Calls Try.prog 18 #[.pointer (some ⟨g, 0, none⟩), .int .i64 id] w fun z w' => z = .returned (.bool (takenB n fr id)) ∧ StaysS Hp w g F n fr w'
  left : ∀ g F n fr w, Hp w g F n fr → Calls Try.prog 17 #[.pointer (some ⟨g, 0, none⟩)] w fun z w' => z = .returned (.int .i64 (fr.length : Int)) ∧ StaysS Hp w g F n fr w'
  ids : ∀ g F n fr w, Hp w g F n fr → Calls Try.prog 15 #[.pointer (some ⟨g, 0, none⟩)] w fun z w' => ∃ a len cap, z = .returned (.slice a len cap) ∧ Row .i64 w' a len cap (idsV n fr) ∧ StaysS Hp w g F n fr w'
  take_nil : ∀ w, Calls Try.prog 10 #[.pointer none] w fun z w' => z = .returned (.tuple #[.int .i64 0, .int .i64 1]) ∧ Below w.heap.size w w'
  give_nil : ∀ (id : Int) w, Calls Try.prog 12 #[.pointer none, .int .i64 id] w fun z w' => z = .returned (.int .i64 1) ∧ Below w.heap.size w w'
  taken_nil : ∀ (id : Int) w, Calls Try.prog 18 #[.pointer none, .int .i64 id] w fun z w' => z = .returned (.bool false) ∧ Below w.heap.size w w'
  left_nil : ∀ w, Calls Try.prog 17 #[.pointer none] w fun z w' => z = .returned (.int .i64 0) ∧ Below w.heap.size w w'
  ids_nil : ∀ w, Calls Try.prog 15 #[.pointer none] w fun z w' => (∃ a cap, z = .returned (.slice a 0 cap)) ∧ Below w.heap.size w w'

section
variable {Hp : World → Nat → (Nat → Prop) → Nat → List Int → Prop}
/-- the blocks of G are as they were -/
structure Holds (G : Nat → Prop) (w w' : World) : Prop where
  size : w.heap.size ≤ w'.heap.size
  block : ∀ k, G k → w'.heap[k]? = w.heap[k]?
theorem Holds.blk {G : Nat → Prop} {w w' : World} (h : Holds G w w') {T : TypeId} {b : Nat} {cs : Array Value} (q : Blk w T b cs) (hb : G b) : Blk w' T b cs := (h.block b hb).trans q
theorem Holds.owns {G : Nat → Prop} {w w' : World} (h : Holds G w w') {base : Nat} {e : TypeId} {size : Nat} {v : Value} {n : Nat} {xs : List Value} (q : w.ownsRow base e size v n xs) (hv : ∀ k, v.ownBlock = some k → G k) : w'.ownsRow base e size v n xs := by
  refine ⟨q.1, ?_⟩
  rcases q.2 with hn | ⟨g, cap, cur, hv', hbg, hg, h1, h2, h3, h4⟩
  · exact .inl hn
  · subst hv'
    exact .inr ⟨g, cap, cur, rfl, hbg, by rw [h.block g (hv g rfl)]; exact hg, h1, h2, h3, h4⟩
/-- seats of the law's own, apart of the law's other blocks G -/
def Mine17 (Hp : World → Nat → (Nat → Prop) → Nat → List Int → Prop) (w : World) (G : Nat → Prop) (g n : Nat) (fr : List Int) (wr : World) : Prop := ∃ F, Hp wr g F n fr ∧ From F w.heap.size ∧ Below w.heap.size w wr ∧ Apart F G ∧ Lies G wr ∧ From G w.heap.size
def G0 : Nat → Prop := fun _ => False
theorem Mine17.below {w wr : World} {G : Nat → Prop} {g n : Nat} {fr : List Int} (h : Mine17 Hp w G g n fr wr) : Below w.heap.size w wr := by obtain ⟨_, _, _, h, _⟩ := h; exact h
theorem Mine17.good (ok : SeatsOk Hp) {w wr : World} {G : Nat → Prop} {g n : Nat} {fr : List Int} (h : Mine17 Hp w G g n fr wr) : GoodF n fr := by
  obtain ⟨F, h1, _⟩ := h
  exact ok.good h1
theorem Mine17.stays {w wr w' : World} {G : Nat → Prop} {g n : Nat} {fr : List Int} {F : Nat → Prop} (hF : From F w.heap.size) (hb : Below w.heap.size w wr) (ap : Apart F G) (lg : Lies G wr) (fg : From G w.heap.size) (h : StaysS Hp wr g F n fr w') : Mine17 Hp w G g n fr w' ∧ Holds G wr w' := by
  obtain ⟨F', h1, h2⟩ := h
  exact ⟨⟨F', h1, hF.moves h2 hb.size, h2.keeps.below hb hF hb.size, ap.moves h2 lg, lg.next h2.keeps.size, fg⟩, ⟨h2.keeps.size, fun k q => h2.keeps.block k (lg k q) (fun f => ap k f q)⟩⟩
/-- the law's own writing -/
theorem Mine17.wrote (ok : SeatsOk Hp) {w wr w' : World} {G G' : Nat → Prop} {g n : Nat} {fr : List Int} (h : Mine17 Hp w G g n fr wr) (hk : Keeps G wr w') (hG : ∀ k, G' k → G k ∨ wr.heap.size ≤ k) (hl : Lies G' w') : Mine17 Hp w G' g n fr w' := by
  obtain ⟨F, h1, h2, h3, h4, h5, h6⟩ := h
  refine ⟨F, ok.keeps h1 hk h4, h2, hk.below h3 h6 h3.size, fun k f q => ?_, hl, fun k q => ?_⟩
  · rcases hG k q with r | r
    · exact h4 k f r
    · have := ok.lies h1 k f; omega
  · rcases hG k q with r | r
    · exact h6 k r
    · exact Nat.le_trans h3.size r
theorem Mine17.next (ok : SeatsOk Hp) {w wr w' : World} {G : Nat → Prop} {g n : Nat} {fr : List Int} (h : Mine17 Hp w G g n fr wr) (hb : Below wr.heap.size wr w') : Mine17 Hp w G g n fr w' :=
  h.wrote ok (Keeps.of hb) (fun _ q => .inl q) (by obtain ⟨_, _, _, _, _, h5, _⟩ := h; exact h5.next hb.size)
theorem m17new (ok : SeatsOk Hp) {w wr : World} (hb : Below w.heap.size w wr) (n : Nat) (h1 : 1 ≤ n) (h2 : n ≤ 64) : Calls Try.prog 8 #[.int .i64 n] wr fun z w' => ∃ g, z = .returned (.pointer (some ⟨g, 0, none⟩)) ∧ Mine17 Hp w G0 g n (ups n) w' :=
  (ok.new_yes n wr h1 h2).mono fun _ _ ⟨g, F, h1, h2, h3, h4⟩ => ⟨g, h1, F, h2, fun k q => Nat.le_trans hb.size (h3 k q), below_next hb h4, fun _ _ q => q, (fun _ q => q.elim), (fun _ q => q.elim)⟩
theorem m17take (ok : SeatsOk Hp) {w wr : World} {G : Nat → Prop} {g n : Nat} {fr : List Int} (h : Mine17 Hp w G g n fr wr) : Calls Try.prog 10 #[.pointer (some ⟨g, 0, none⟩)] wr fun z w' => z = .returned (.tuple #[.int .i64 (takeV fr).1, .int .i64 (takeV fr).2.1]) ∧ Mine17 Hp w G g n (takeV fr).2.2 w' ∧ Holds G wr w' := by
  obtain ⟨F, h1, h2, h3, h4, h5, h6⟩ := h
  exact (ok.take g F n fr wr h1).mono fun _ _ ⟨a, b⟩ => ⟨a, Mine17.stays h2 h3 h4 h5 h6 b⟩
theorem m17give (ok : SeatsOk Hp) {w wr : World} {G : Nat → Prop} {g n : Nat} {fr : List Int} (id : Int) (h : Mine17 Hp w G g n fr wr) : Calls Try.prog 12 #[.pointer (some ⟨g, 0, none⟩), .int .i64 id] wr fun z w' => z = .returned (.int .i64 (giveV n fr id).1) ∧ Mine17 Hp w G g n (giveV n fr id).2 w' ∧ Holds G wr w' := by
  obtain ⟨F, h1, h2, h3, h4, h5, h6⟩ := h
  exact (ok.give g F n fr id wr h1).mono fun _ _ ⟨a, b⟩ => ⟨a, Mine17.stays h2 h3 h4 h5 h6 b⟩
theorem m17left (ok : SeatsOk Hp) {w wr : World} {G : Nat → Prop} {g n : Nat} {fr : List Int} (h : Mine17 Hp w G g n fr wr) : Calls Try.prog 17 #[.pointer (some ⟨g, 0, none⟩)] wr fun z w' => z = .returned (.int .i64 (fr.length : Int)) ∧ Mine17 Hp w G g n fr w' ∧ Holds G wr w' := by
  obtain ⟨F, h1, h2, h3, h4, h5, h6⟩ := h
  exact (ok.left g F n fr wr h1).mono fun _ _ ⟨a, b⟩ => ⟨a, Mine17.stays h2 h3 h4 h5 h6 b⟩
theorem m17ids (ok : SeatsOk Hp) {w wr : World} {G : Nat → Prop} {g n : Nat} {fr : List Int} (h : Mine17 Hp w G g n fr wr) : Calls Try.prog 15 #[.pointer (some ⟨g, 0, none⟩)] wr fun z w' => ∃ a len cap, z = .returned (.slice a len cap) ∧ Row .i64 w' a len cap (idsV n fr) ∧ Mine17 Hp w G g n fr w' ∧ Holds G wr w' := by
  obtain ⟨F, h1, h2, h3, h4, h5, h6⟩ := h
  exact (ok.ids g F n fr wr h1).mono fun _ _ ⟨x, y, z, a, r, b⟩ => ⟨x, y, z, a, r, Mine17.stays h2 h3 h4 h5 h6 b⟩
set_option maxRecDepth 20000 in
set_option maxHeartbeats 4000000 in
theorem awake17_any (ok : SeatsOk Hp) (w : World) : Calls Try.prog 7 #[] w fun e w' => e = .returned (.bool true) ∧ Below w.heap.size w w' := by
  go_enter Try.func7, Try.ntmps7
  go_wp2_with fail
  refine (m17new ok (Below.refl _ w) 2 (by omega) (by omega)).mono ?_
  rintro e w1 ⟨g, rfl, hm⟩
  have M := Lib.hid (show Mine17 Hp w G0 g 2 [0, 1] w1 from hm)
  clear hm
  go_wp2_with fail
  refine (m17take ok M.out).mono ?_
  rintro e w2 ⟨rfl, hm, _⟩
  have M := Lib.hid (show Mine17 Hp w G0 g 2 [1] w2 from hm)
  clear hm
  simp only [takeV]
  go_wp2_with fail
  refine (m17take ok M.out).mono ?_
  rintro e w3 ⟨rfl, hm, _⟩
  have M := Lib.hid (show Mine17 Hp w G0 g 2 [] w3 from hm)
  clear hm
  simp only [takeV]
  go_wp2_with fail
  refine (m17take ok M.out).mono ?_
  rintro e w4 ⟨rfl, hm, _⟩
  have M := Lib.hid (show Mine17 Hp w G0 g 2 [] w4 from hm)
  clear hm
  simp only [takeV]
  go_wp2_with fail
  refine (m17give ok 1 M.out).mono ?_
  rintro e w5 ⟨rfl, hm, _⟩
  have v1 : giveV 2 [] 1 = (0, [1]) := by decide
  rw [v1] at hm ⊢
  have M := Lib.hid (show Mine17 Hp w G0 g 2 [1] w5 from hm)
  clear hm v1
  go_wp2_with fail
  refine (m17give ok 0 M.out).mono ?_
  rintro e w6 ⟨rfl, hm, _⟩
  have v1 : giveV 2 [1] 0 = (0, [1, 0]) := by decide
  rw [v1] at hm ⊢
  have M := Lib.hid (show Mine17 Hp w G0 g 2 [1, 0] w6 from hm)
  clear hm v1
  go_wp2_with fail
  refine (m17take ok M.out).mono ?_
  rintro e w7 ⟨rfl, hm, _⟩
  have B := Lib.hid hm.below
  clear hm
  simp only [takeV]
  go_wp2
  go_ret
  exact ⟨rfl, B.out⟩
end
end Go.Proofs.Ytgkmhnkndjfcaaa
