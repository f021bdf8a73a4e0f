/-
  Package task as landed: what it holds; what only reads it: contracts.
-/
import Derived.Test.YthaoijmjkmgebaaTr1
import Derived.Test.YthaoijmjkmgebaaTk1
import Derived.Test.YthaoijmjkmgebaaSt6
namespace Go.Proofs.Ythaoijmjkmgebaa
open Go.RowKit

/-- the cells of a task -/
def tkC (t : TS) (s : Nat) (v : Value) : Array Value := #[.int .i64 t.E, .int .i64 t.P, .bool t.early, .pointer (some ⟨s, 0, none⟩), v, .int .i64 t.ran.I, .int .i64 t.ran.R, .int .i64 t.ran.D, .int .i64 t.ran.B, .int .i64 t.ran.G, .int .i64 t.done, .bool t.cut]
/-- block g is a task, with a stepper in block s, and a queue -/
structure TkAt (W : World) (g s : Nat) (v : Value) (t : TS) : Prop where
  box : Blk W 66 g (tkC t s v)
  stp : Stp W s t.E t.P t.O t.came
  que : QueS W v t.l
  ns : g ≠ s
  nv : v.ownBlock ≠ some g
  nvs : v.ownBlock ≠ some s
  good : GoodT t
def HpT (W : World) (g : Nat) (F : Nat → Prop) (t : TS) : Prop := ∃ s v, TkAt W g s v t ∧ ∀ k, F k ↔ k = g ∨ k = s ∨ v.ownBlock = some k
theorem HpT.lies {W : World} {g : Nat} {F : Nat → Prop} {t : TS} (h : HpT W g F t) : Lies F W := by
  obtain ⟨s, v, h, hF⟩ := h
  intro k hk
  rcases (hF k).mp hk with rfl | rfl | q
  · exact h.box.lt
  · exact h.stp.lt
  · exact (QueR.lt h.que k q).2
theorem Stp.keeps {W W' : World} {s : Nat} {E P O n : Int} {F : Nat → Prop} (h : Stp W s E P O n) (k : Keeps F W W') (hg : ¬ F s) : Stp W' s E P O n := by
  obtain ⟨_, _, _, _, _, h, q⟩ := h
  exact ⟨_, _, _, _, _, h.keeps k hg, q⟩
theorem TkAt.keeps {W W' : World} {g s : Nat} {v : Value} {t : TS} {F : Nat → Prop} (h : TkAt W g s v t) (k : Keeps F W W') (h1 : ¬ F g) (h2 : ¬ F s) (h3 : ∀ x, v.ownBlock = some x → ¬ F x) : TkAt W' g s v t :=
  ⟨h.box.keeps k h1, h.stp.keeps k h2, QueR.keeps h.que k h3, h.ns, h.nv, h.nvs, h.good⟩
theorem HpT.keeps {W W' : World} {g : Nat} {F G : Nat → Prop} {t : TS} (h : HpT W g F t) (k : Keeps G W W') (ap : Apart F G) : HpT W' g F t := by
  obtain ⟨s, v, h, hF⟩ := h
  exact ⟨s, v, h.keeps k (ap g ((hF g).mpr (.inl rfl))) (ap s ((hF s).mpr (.inr (.inl rfl)))) (fun x q => ap x ((hF x).mpr (.inr (.inr q)))), hF⟩
theorem HpT.below {W W' : World} {g : Nat} {F : Nat → Prop} {t : TS} (h : HpT W g F t) (hb : Below W.heap.size W W') : HpT W' g F t := h.keeps (G := fun _ => False) (Keeps.of hb) (fun _ _ q => q)
theorem HpT.good {W : World} {g : Nat} {F : Nat → Prop} {t : TS} (h : HpT W g F t) : GoodT t := by
  obtain ⟨_, _, h, _⟩ := h
  exact h.good
theorem HpT.stays {W W' : World} {g : Nat} {F : Nat → Prop} {t : TS} (h : HpT W g F t) (hb : Below W.heap.size W W') : StaysT HpT W g F t W' := ⟨F, h.below hb, Moves.of hb h.lies⟩

theorem tslot_any (at_ : Int) (w : World) (b : Bool) (hb : b = decide (0 ≤ at_ ∧ at_ ≤ 1099511627776)) : Calls Try.prog 34 #[.int .i64 at_] w fun z w' => z = .returned (.bool b) ∧ w = w' := by
  subst hb
  by_cases h0 : 0 ≤ at_
  · have t0 : decide (0 ≤ at_) = true := by simp; omega
    by_cases h1 : at_ ≤ 1099511627776
    · have t1 : decide (at_ ≤ 1099511627776) = true := by simp; omega
      have e : decide (0 ≤ at_ ∧ at_ ≤ 1099511627776) = true := by simp; omega
      rw [e]
      clear e h0 h1
      go_enter Try.func34, Try.ntmps34
      go_wp2
      go_ret
      exact ⟨rfl, rfl⟩
    · have t1 : decide (at_ ≤ 1099511627776) = false := by simp; omega
      have e : decide (0 ≤ at_ ∧ at_ ≤ 1099511627776) = false := by simp; omega
      rw [e]
      clear e h0 h1
      go_enter Try.func34, Try.ntmps34
      go_wp2
      go_ret
      exact ⟨rfl, rfl⟩
  · have t0 : decide (0 ≤ at_) = false := by simp; omega
    have e : decide (0 ≤ at_ ∧ at_ ≤ 1099511627776) = false := by simp; omega
    rw [e]
    clear e h0
    go_enter Try.func34, Try.ntmps34
    go_wp2
    go_ret
    exact ⟨rfl, rfl⟩

section
variable (g : Nat) (F : Nat → Prop) (t : TS) (w : World)
theorem twaits_nil (w : World) : Calls Try.prog 25 #[.pointer none] w fun z w' => z = .returned (.int .i64 0) ∧ w = w' := by
  go_enter Try.func25, Try.ntmps25
  go_wp2
  go_ret
  exact ⟨rfl, rfl⟩
theorem tdone_nil (w : World) : Calls Try.prog 26 #[.pointer none] w fun z w' => z = .returned (.int .i64 0) ∧ w = w' := by
  go_enter Try.func26, Try.ntmps26
  go_wp2
  go_ret
  exact ⟨rfl, rfl⟩
theorem twaits_any (h : HpT w g F t) : Calls Try.prog 25 #[.pointer (some ⟨g, 0, none⟩)] w fun z w' => z = .returned (.int .i64 (t.l.length : Int)) ∧ w = w' := by
  obtain ⟨s, v, h, _⟩ := h
  obtain ⟨a, cap, rfl, _, _⟩ := h.que.val
  have c4 := h.box.cell 4
  simp [tkC] at c4
  obtain ⟨n, hn⟩ : ∃ n, t.l.length = n := ⟨_, rfl⟩
  rw [hn] at c4 ⊢
  clear h hn
  go_enter Try.func25, Try.ntmps25
  go_wp2
  go_ret
  exact ⟨rfl, rfl⟩
theorem tdone_any (h : HpT w g F t) : Calls Try.prog 26 #[.pointer (some ⟨g, 0, none⟩)] w fun z w' => z = .returned (.int .i64 t.done) ∧ w = w' := by
  obtain ⟨s, v, h, _⟩ := h
  have c4 := h.box.cell 10
  simp [tkC] at c4
  clear h
  go_enter Try.func26, Try.ntmps26
  go_wp2
  go_ret
  exact ⟨rfl, rfl⟩
set_option maxHeartbeats 2000000 in
theorem thead_nil (w : World) : Calls Try.prog 23 #[.pointer none] w fun z w' => z = .returned (.tuple #[sub0.v, .bool false]) ∧ Below w.heap.size w w' := by
  obtain ⟨W1, hW1⟩ : ∃ W1, w.alloc (.cells #[.int .i64 0, .int .i64 0, .int .i64 0, .int .i64 0, .int .i64 0] 35) = W1 := ⟨_, rfl⟩
  have B1 := Lib.hid (show Below w.heap.size w W1 by rw [← hW1]; exact wbox _ _)
  have N1 := Lib.hid (show Blk W1 35 w.heap.size #[.int .i64 0, .int .i64 0, .int .i64 0, .int .i64 0, .int .i64 0] by rw [← hW1]; exact Blk.new w _ _)
  have x0 := N1.out.cell 0; have x1 := N1.out.cell 1; have x2 := N1.out.cell 2; have x3 := N1.out.cell 3; have x4 := N1.out.cell 4
  have fx : ∀ o, W1.frozen? ⟨w.heap.size, o, none⟩ = false := fun o => N1.out.free o
  simp at x0 x1 x2 x3 x4
  have sz := N1.out.lt
  go_enter Try.func23, Try.ntmps23
  go_wp2_with fail
  refine (twaits_nil _).mono ?_
  rintro e w2 ⟨rfl, rfl⟩
  go_wp2
  exact bodyPost_ret (v := .tuple #[.agg #[.int .i64 0, .int .i64 0, .int .i64 0, .int .i64 0, .int .i64 0], .bool false]) (by simp [results, Try.results23, go_sem, x0, x1, x2, x3, x4]) rfl ⟨rfl, below_set5 B1.out (Nat.le_refl _)⟩
set_option maxHeartbeats 2000000 in
theorem thead_none (h : HpT w g F t) (hl : t.l = []) : Calls Try.prog 23 #[.pointer (some ⟨g, 0, none⟩)] w fun z w' => z = .returned (.tuple #[sub0.v, .bool false]) ∧ Below w.heap.size w w' := by
  obtain ⟨W1, hW1⟩ : ∃ W1, w.alloc (.cells #[.int .i64 0, .int .i64 0, .int .i64 0, .int .i64 0, .int .i64 0] 35) = W1 := ⟨_, rfl⟩
  have B1 := Lib.hid (show Below w.heap.size w W1 by rw [← hW1]; exact wbox _ _)
  have N1 := Lib.hid (show Blk W1 35 w.heap.size #[.int .i64 0, .int .i64 0, .int .i64 0, .int .i64 0, .int .i64 0] by rw [← hW1]; exact Blk.new w _ _)
  have x0 := N1.out.cell 0; have x1 := N1.out.cell 1; have x2 := N1.out.cell 2; have x3 := N1.out.cell 3; have x4 := N1.out.cell 4
  have fx : ∀ o, W1.frozen? ⟨w.heap.size, o, none⟩ = false := fun o => N1.out.free o
  simp at x0 x1 x2 x3 x4
  have sz := N1.out.lt
  have H1 := Lib.hid (h.below B1.out)
  have HL := Lib.hid (show (t.l.length : Int) = 0 by rw [hl]; rfl)
  clear h hl
  go_enter Try.func23, Try.ntmps23
  go_wp2_with fail
  refine (twaits_any g F t _ H1.out).mono ?_
  rintro e w2 ⟨rfl, rfl⟩
  rw [HL.out]
  go_wp2
  exact bodyPost_ret (v := .tuple #[.agg #[.int .i64 0, .int .i64 0, .int .i64 0, .int .i64 0, .int .i64 0], .bool false]) (by simp [results, Try.results23, go_sem, x0, x1, x2, x3, x4]) rfl ⟨rfl, below_set5 B1.out (Nat.le_refl _)⟩
set_option maxHeartbeats 2000000 in
theorem thead_some (h : HpT w g F t) (s : Sb) (rest : List Sb) (hl : t.l = s :: rest) : Calls Try.prog 23 #[.pointer (some ⟨g, 0, none⟩)] w fun z w' => z = .returned (.tuple #[s.v, .bool true]) ∧ Below w.heap.size w w' := by
  obtain ⟨W1, hW1⟩ : ∃ W1, w.alloc (.cells #[.int .i64 0, .int .i64 0, .int .i64 0, .int .i64 0, .int .i64 0] 35) = W1 := ⟨_, rfl⟩
  have B1 := Lib.hid (show Below w.heap.size w W1 by rw [← hW1]; exact wbox _ _)
  have N1 := Lib.hid (show Blk W1 35 w.heap.size #[.int .i64 0, .int .i64 0, .int .i64 0, .int .i64 0, .int .i64 0] by rw [← hW1]; exact Blk.new w _ _)
  have x0 := N1.out.cell 0; have x1 := N1.out.cell 1; have x2 := N1.out.cell 2; have x3 := N1.out.cell 3; have x4 := N1.out.cell 4
  have fx : ∀ o, W1.frozen? ⟨w.heap.size, o, none⟩ = false := fun o => N1.out.free o
  simp at x0 x1 x2 x3 x4
  have sz := N1.out.lt
  have H1 := Lib.hid (h.below B1.out)
  obtain ⟨sb, v, hk, hF⟩ := H1.out
  obtain ⟨bl, ol, cap, rfl, hat⟩ := QueS.at hk.que (i := 0) (s := s) (by rw [hl]; rfl)
  obtain ⟨n, hn0⟩ : ∃ n, t.l.length = n := ⟨_, rfl⟩
  have n1 : 0 < n := by rw [← hn0, hl]; simp
  have n2 : (0 : Int) < (n : Int) := by omega
  have n3 : ((n : Int) == 0) = false := by simp; omega
  have n4 : decide ((0 : Int) < (n : Int)) = true := by simp; omega
  have y0 := hat.c0; have y1 := hat.c1; have y2 := hat.c2; have y3 := hat.c3; have y4 := hat.c4
  simp only [Nat.zero_mul, Nat.add_zero] at y0 y1 y2 y3 y4
  have c4 := hk.box.cell 4
  simp only [tkC, hn0] at c4
  change _ = some (Value.slice (some ⟨bl, ol, none⟩) n cap) at c4
  have HN := Lib.hid hn0
  clear hk hF hat hl h hn0
  go_enter Try.func23, Try.ntmps23
  go_wp2_with fail
  refine (twaits_any g F t _ H1.out).mono ?_
  rintro e w2 ⟨rfl, rfl⟩
  rw [HN.out]
  go_wp2
  exact bodyPost_ret (v := .tuple #[.agg #[.int .i64 s.I, .int .i64 s.R, .int .i64 s.D, .int .i64 s.B, .int .i64 s.G], .bool true]) (by simp [results, Try.results23, go_sem, x0, x1, x2, x3, x4]) rfl ⟨rfl, below_set5 B1.out (Nat.le_refl _)⟩
theorem list_two (l : List Sb) : l = [] ∨ ∃ s rest, l = s :: rest := by
  cases l with
  | nil => exact .inl rfl
  | cons s rest => exact .inr ⟨s, rest, rfl⟩
theorem head_none {t : TS} (h : t.l = []) : headS t = sub0 ∧ someB t = false := by simp [headS, someB, h]
theorem head_some {t : TS} {s : Sb} {rest : List Sb} (h : t.l = s :: rest) : headS t = s ∧ someB t = true := by simp [headS, someB, h]
theorem thead_any (h : HpT w g F t) : Calls Try.prog 23 #[.pointer (some ⟨g, 0, none⟩)] w fun z w' => z = .returned (.tuple #[(headS t).v, .bool (someB t)]) ∧ Below w.heap.size w w' := by
  rcases list_two t.l with hl | ⟨s, rest, hl⟩
  · obtain ⟨h1, h2⟩ := head_none hl
    rw [h1, h2]
    exact thead_none g F t w h hl
  · obtain ⟨h1, h2⟩ := head_some hl
    rw [h1, h2]
    exact thead_some g F t w h s rest hl
end
end Go.Proofs.Ythaoijmjkmgebaa
