/-
  What is carried through the laws of package quota: a tree of the law's own; its calls.
-/
import Derived.Test.YtbonilmlfelmpaaGreatQz10
import Derived.Test.YtbonilmlfelmpaaGreatQzC
namespace Go.Proofs.YtbonilmlfelmpaaGreat
open Go.RowKit

theorem HpQ.keeps {w w' : World} {g : Nat} {F A G : Nat → Prop} {S : List Sv} {N D : Int} {hs : List Hq} (h : HpQ w g F A S N D hs) (k : Keeps G w w') (hF : Apart F G) (hA : Apart A G) : HpQ w' g F A S N D hs := by
  obtain ⟨t, h1, h2, h3, h4, h5, h6, h7⟩ := h
  have f : ∀ b, ownT t S.length b → ¬ G b := fun b q => hF b ((h5 b).mpr q)
  exact ⟨t, h1, h2.keeps k f (fun b q => hA b ((h6 b).mpr q)), h3.keeps k (f _ (.inr (.inl rfl))), h4, h5, h6, fun ad e => Nat.lt_of_lt_of_le (h7 ad e) k.size⟩
theorem HpQ.lies {w : World} {g : Nat} {F A : Nat → Prop} {S : List Sv} {N D : Int} {hs : List Hq} (h : HpQ w g F A S N D hs) : Lies F w ∧ Lies A w := by
  obtain ⟨t, h1, h2, h3, h4, h5, h6, h7⟩ := h
  have := tree_lt h2 h3 h7
  exact ⟨fun k q => this k (.inl ((h5 k).mp q)), fun k q => this k (.inr ((h6 k).mp q))⟩
theorem HpQ.good {w : World} {g : Nat} {F A : Nat → Prop} {S : List Sv} {N D : Int} {hs : List Hq} (h : HpQ w g F A S N D hs) : GoodQ S N D hs := by
  obtain ⟨t, h1, h2, h3, h4, _⟩ := h
  exact h4
/-- a tree of the law's own, made behind the world w, apart of the law's other blocks G -/
def Mine13 (w : World) (G : Nat → Prop) (g : Nat) (S : List Sv) (N D : Int) (hs : List Hq) (wr : World) : Prop :=
  ∃ F A, HpQ wr g F A S N D hs ∧ From F w.heap.size ∧ From A w.heap.size ∧ Below w.heap.size w wr ∧ Apart F G ∧ Apart A G ∧ Lies G wr ∧ From G w.heap.size
section
variable {w wr w' : World} {G G' : Nat → Prop} {g : Nat} {S : List Sv} {N D : Int} {hs hs' : List Hq}
theorem Mine13.below (h : Mine13 w G g S N D hs wr) : Below w.heap.size w wr := by obtain ⟨_, _, _, _, _, h, _⟩ := h; exact h
theorem Mine13.lies (h : Mine13 w G g S N D hs wr) : Lies G wr := by obtain ⟨_, _, _, _, _, _, _, _, h, _⟩ := h; exact h
theorem Mine13.good (h : Mine13 w G g S N D hs wr) : GoodQ S N D hs := by obtain ⟨_, _, h, _⟩ := h; exact h.good
theorem Mine13.stays {F A : Nat → Prop} (hF : From F w.heap.size) (hA : From A w.heap.size) (hb : Below w.heap.size w wr) (ap : Apart F G) (aa : Apart A G) (lg : Lies G wr) (fg : From G w.heap.size) (h : StayQ wr g F A S N D hs' w') : Mine13 w G g S N D hs' w' ∧ Holds G wr w' ∧ NumsKept wr w' := by
  obtain ⟨h1, h2, h3⟩ := h
  exact ⟨⟨F, A, h1, hF, hA, h2.below hb hF hb.size, ap, aa, lg.next h2.size, fg⟩, ⟨h2.size, fun k q => h2.block k (lg k q) (fun f => ap k f q)⟩, h3⟩
theorem Mine13.wrote (h : Mine13 w G g S N D hs wr) (hk : Keeps G wr w') (hG : ∀ k, G' k → G k ∨ wr.heap.size ≤ k) (hl : Lies G' w') : Mine13 w G' g S N D hs w' := by
  obtain ⟨F, A, h1, h2, h0, h3, h4, h5, h6, h7⟩ := h
  refine ⟨F, A, h1.keeps hk h4 h5, h2, h0, hk.below h3 h7 h3.size, fun k f q => ?_, fun k f q => ?_, hl, fun k q => ?_⟩
  · rcases hG k q with r | r
    · exact h4 k f r
    · have := h1.lies.1 k f; omega
  · rcases hG k q with r | r
    · exact h5 k f r
    · have := h1.lies.2 k f; omega
  · rcases hG k q with r | r
    · exact h7 k r
    · exact Nat.le_trans h3.size r
theorem Mine13.next (h : Mine13 w G g S N D hs wr) (hb : Below wr.heap.size wr w') : Mine13 w G g S N D hs w' :=
  h.wrote (Keeps.of hb) (fun _ q => .inl q) (h.lies.next hb.size)
theorem Mine13.less (h : Mine13 w G g S N D hs wr) (hG : ∀ k, G' k → G k) : Mine13 w G' g S N D hs wr :=
  h.wrote (Keeps.refl _ _) (fun k q => .inl (hG k q)) (fun k q => h.lies k (hG k q))
theorem Mine13.own1 (h : Mine13 w G g S N D hs wr) (o : Obj) : Mine13 w (fun k => G k ∨ k = wr.heap.size) g S N D hs (wr.alloc o) :=
  h.wrote (Keeps.of (wbox _ _)) (fun k q => q.imp id (fun e => by omega)) (fun k q => by
    rcases q with q | q
    · have := h.lies k q; simp; omega
    · simp; omega)
theorem Mine13.own {b : Nat} (h : Mine13 w G g S N D hs wr) (hb : Below wr.heap.size wr w') (h1 : wr.heap.size ≤ b) (h2 : b < w'.heap.size) : Mine13 w (fun k => G k ∨ k = b) g S N D hs w' :=
  h.wrote (Keeps.of hb) (fun k q => q.imp id (fun e => by omega)) (fun k q => by
    rcases q with q | q
    · exact Nat.lt_of_lt_of_le (h.lies k q) hb.size
    · omega)
theorem m13new (v : Value) (N D : Int) (L b : Nat) (sa : Option Addr) (len sc : Nat) (S : List Sv) (w0 w : World) (hw : Below w0.heap.size w0 w) (hv : Rat w b L v N D) (hL : L ≤ 3) (hD : 0 < D) (hS : RowS w sa len sc S) (gS : GoodSv S) (hG : From G w0.heap.size) (hGl : Lies G w) :
    Calls Tryz.prog 8 #[v, .slice sa len sc] w fun z w' => ∃ g, z = .returned (.pointer (some ⟨g, 0, none⟩)) ∧ Mine13 w0 G g S N D [] w' ∧ Below w.heap.size w w' :=
  (qNew_yes v N D L b sa len sc S w hv hL hD hS gS).mono fun _ _ ⟨g, F, A, h1, h2, h3, h4, h5⟩ => ⟨g, h1, ⟨F, A, h2, fun k q => Nat.le_trans hw.size (h3 k q), fun k q => Nat.le_trans hw.size (h4 k q), below_next hw h5, fun k q r => by have := h3 k q; have := hGl k r; omega, fun k q r => by have := h4 k q; have := hGl k r; omega, hGl.next h5.size, hG⟩, h5⟩
theorem m13join (id s E P : Int) (h : Mine13 w G g S N D hs wr) (hl : hs.length ≤ 19) (c : Int) (hs' : List Hq) (hv : joinQ S N D hs id s E P = (c, hs')) : Calls Tryz.prog 20 #[.pointer (some ⟨g, 0, none⟩), .int .i64 id, .int .i64 s, .agg #[.int .i64 E, .int .i64 P]] wr fun z w' => z = .returned (.int .i64 c) ∧ Mine13 w G g S N D hs' w' ∧ Holds G wr w' ∧ NumsKept wr w' := by
  obtain ⟨F, A, h1, h2, h0, h3, h4, h5, h6, h7⟩ := h
  have := qJoin_any g F A S N D hs id s E P wr h1 hl
  rw [hv] at this
  exact this.mono fun _ _ ⟨a, b⟩ => ⟨a, Mine13.stays h2 h0 h3 h4 h5 h6 h7 b⟩
theorem m13ask (id E P : Int) (h : Mine13 w G g S N D hs wr) (hl : hs.length ≤ 19) (c : Int) (hs' : List Hq) (hv : askQ S N D hs id E P = (c, hs')) : Calls Tryz.prog 10 #[.pointer (some ⟨g, 0, none⟩), .int .i64 id, .agg #[.int .i64 E, .int .i64 P]] wr fun z w' => z = .returned (.int .i64 c) ∧ Mine13 w G g S N D hs' w' ∧ Holds G wr w' ∧ NumsKept wr w' := by
  obtain ⟨F, A, h1, h2, h0, h3, h4, h5, h6, h7⟩ := h
  have := qAsk_any g F A S N D hs id E P wr h1 hl
  rw [hv] at this
  exact this.mono fun _ _ ⟨a, b⟩ => ⟨a, Mine13.stays h2 h0 h3 h4 h5 h6 h7 b⟩
theorem m13settle (id : Int) (h : Mine13 w G g S N D hs wr) (hl : hs.length ≤ 19) (c : Int) (hs' : List Hq) (hv : settleQ hs id = (c, hs')) : Calls Tryz.prog 13 #[.pointer (some ⟨g, 0, none⟩), .int .i64 id] wr fun z w' => z = .returned (.int .i64 c) ∧ Mine13 w G g S N D hs' w' ∧ Holds G wr w' ∧ NumsKept wr w' := by
  obtain ⟨F, A, h1, h2, h0, h3, h4, h5, h6, h7⟩ := h
  have := qSettle_any g F A S N D hs id wr h1 hl
  rw [hv] at this
  exact this.mono fun _ _ ⟨a, b⟩ => ⟨a, Mine13.stays h2 h0 h3 h4 h5 h6 h7 b⟩
theorem m13free (id : Int) (h : Mine13 w G g S N D hs wr) (hl : hs.length ≤ 19) (c : Int) (hs' : List Hq) (hv : freeQ hs id = (c, hs')) : Calls Tryz.prog 15 #[.pointer (some ⟨g, 0, none⟩), .int .i64 id] wr fun z w' => z = .returned (.int .i64 c) ∧ Mine13 w G g S N D hs' w' ∧ Holds G wr w' ∧ NumsKept wr w' := by
  obtain ⟨F, A, h1, h2, h0, h3, h4, h5, h6, h7⟩ := h
  have := qFree_any g F A S N D hs id wr h1 hl
  rw [hv] at this
  exact this.mono fun _ _ ⟨a, b⟩ => ⟨a, Mine13.stays h2 h0 h3 h4 h5 h6 h7 b⟩
/-- what a place holds, as it is told -/
theorem m13held (x : Int) (h : Mine13 w G g S N D hs wr) (hl : hs.length ≤ 20) (N' D' : Int) (hv : heldQ S x hs = (N', D')) : Calls Tryz.prog 25 #[.pointer (some ⟨g, 0, none⟩), .int .i64 x] wr fun z w' => ∃ v n d, z = .returned v ∧ Rat w' 0 14 v n d ∧ Lo n d ∧ n * D' = N' * d ∧ Below wr.heap.size wr w' := by
  obtain ⟨F, A, h1, _⟩ := h
  have g0 := h1.good
  refine (qHeld_any g F A S N D hs x wr h1 hl).mono fun z w' hg => ?_
  unfold heldQ at hv hg
  by_cases hb : hasB S x = true
  · rw [if_pos hb] at hv hg
    have := held_tight hg (fun y hy => by obtain ⟨q, hq, rfl⟩ := listAt_sub S x hs y hy; exact g0.each q hq) (Nat.le_trans (listAt_len S x hs) hl)
    rw [hv] at this
    exact this
  · rw [if_neg hb] at hv hg
    cases hv
    obtain ⟨v, n, d, rfl, hr, hlo, he, hbl⟩ := hg
    have k := lo_le hlo (show (0 : Int) ≤ 0 by omega) (show (0 : Int) < 1 by omega) he
    exact ⟨v, n, d, rfl, hr.tight (by omega) (by omega), hlo, he, hbl⟩
theorem m13server (id : Int) (h : Mine13 w G g S N D hs wr) (s : Int) (hs' : serverQ hs id = s) : Calls Tryz.prog 23 #[.pointer (some ⟨g, 0, none⟩), .int .i64 id] wr fun z w' => z = .returned (.int .i64 s) ∧ wr = w' := by
  obtain ⟨F, A, ⟨t, rfl, h2, h3, _⟩, _⟩ := h
  exact qserver_any h2 h3 id s hs'
theorem m13path (s : Int) (h : Mine13 w G g S N D hs wr) : Calls Tryz.prog 18 #[.pointer (some ⟨g, 0, none⟩), .int .i64 s] wr fun z w' => ∃ a len cap, z = .returned (.slice a len cap) ∧ Row .i64 w' a len cap (pathQ S s) ∧ Fresh wr.heap.size a ∧ Below wr.heap.size wr w' := by
  obtain ⟨F, A, ⟨t, rfl, h2, h3, h4, h5, h6, h7⟩, _⟩ := h
  exact qPath_any h2 h7 s
end
end Go.Proofs.YtbonilmlfelmpaaGreat
