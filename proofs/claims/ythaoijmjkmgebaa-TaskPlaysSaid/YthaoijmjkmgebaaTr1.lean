/-
  The document's own task (regattaref10): what it holds; New, Ready, Run, Last: contracts.
-/
import Derived.Test.YthaoijmjkmgebaaTa0
import Derived.Test.YthaoijmjkmgebaaQu1
namespace Go.Proofs.Ythaoijmjkmgebaa
open Go.RowKit

theorem wideS (l : List Sb) : Wide 5 (l.map Sb.cs) := fun r hr => by
  obtain ⟨s, _, rfl⟩ := List.mem_map.mp hr
  rfl
theorem oneS (s : Sb) : ∀ u ∈ s.cs, u.oneCell' = true := by
  intro u hu
  simp [Sb.cs] at hu
  rcases hu with rfl | rfl | rfl | rfl | rfl <;> rfl
theorem flatS_len (l : List Sb) : (l.map Sb.cs).flatten.length = l.length * 5 := by
  rw [flat_len _ (wideS l), List.length_map]
theorem flatS_at {l : List Sb} {i : Nat} {s : Sb} (h : l[i]? = some s) {k : Nat} (hk : k < 5) : (l.map Sb.cs).flatten[i * 5 + k]? = s.cs[k]? := by
  have hi : i < l.length := by
    rcases Nat.lt_or_ge i l.length with q | q
    · exact q
    · rw [List.getElem?_eq_none q] at h; cases h
  rw [flat_at _ (wideS l) i (by rw [List.length_map]; exact hi) k hk, List.getD_eq_getElem?_getD, List.getElem?_map, h]
  rfl
/-- a subtask in memory -/
structure SbAt (W : World) (b o : Nat) (s : Sb) : Prop where
  c0 : W.cell? ⟨b, o, none⟩ = some (.int .i64 s.I)
  c1 : W.cell? ⟨b, o + 1, none⟩ = some (.int .i64 s.R)
  c2 : W.cell? ⟨b, o + 2, none⟩ = some (.int .i64 s.D)
  c3 : W.cell? ⟨b, o + 3, none⟩ = some (.int .i64 s.B)
  c4 : W.cell? ⟨b, o + 4, none⟩ = some (.int .i64 s.G)
/-- a queue of subtasks -/
def QueS (W : World) (v : Value) (l : List Sb) : Prop := QueR W 0 35 5 v l.length (l.map Sb.cs).flatten
theorem QueS.at {W : World} {v : Value} {l : List Sb} (h : QueS W v l) {i : Nat} {s : Sb} (hs : l[i]? = some s) : ∃ g off cap, v = .slice (some ⟨g, off, none⟩) l.length cap ∧ SbAt W g (off + i * 5) s := by
  have hi : i < l.length := by
    rcases Nat.lt_or_ge i l.length with q | q
    · exact q
    · rw [List.getElem?_eq_none q] at hs; cases hs
  obtain ⟨a, cap, hv, _, _, hc⟩ := h.value
  obtain ⟨g, off, rfl, hq⟩ := hc (by omega)
  refine ⟨g, off, cap, hv, ?_, ?_, ?_, ?_, ?_⟩
  · exact hq (i * 5 + 0) _ (flatS_at hs (by omega))
  · exact hq (i * 5 + 1) _ (flatS_at hs (by omega))
  · exact hq (i * 5 + 2) _ (flatS_at hs (by omega))
  · exact hq (i * 5 + 3) _ (flatS_at hs (by omega))
  · exact hq (i * 5 + 4) _ (flatS_at hs (by omega))
theorem QueS.val {W : World} {v : Value} {l : List Sb} (h : QueS W v l) : ∃ a cap, v = .slice a l.length cap ∧ l.length ≤ cap ∧ cap ≤ 9223372036854775807 := by
  obtain ⟨a, cap, hv, h1, h2, _⟩ := h.value
  exact ⟨a, cap, hv, h1, h2⟩

/-- the cells of the document's task -/
def rtC (t : TS) (v : Value) : Array Value := #[.int .i64 t.E, .int .i64 t.P, .bool t.early, .bool t.cut, .int .i64 t.O, .int .i64 t.came, v, .int .i64 t.ran.I, .int .i64 t.ran.R, .int .i64 t.ran.D, .int .i64 t.ran.B, .int .i64 t.ran.G, .int .i64 t.done]
/-- block r is the document's task -/
def RT (W : World) (r : Nat) (F : Nat → Prop) (t : TS) : Prop :=
  ∃ v, Blk W 46 r (rtC t v) ∧ QueS W v t.l ∧ v.ownBlock ≠ some r ∧ ∀ k, F k ↔ k = r ∨ v.ownBlock = some k
theorem RT.lies {W : World} {r : Nat} {F : Nat → Prop} {t : TS} (h : RT W r F t) : Lies F W := by
  obtain ⟨v, hb, hq, _, hF⟩ := h
  intro k hk
  rcases (hF k).mp hk with rfl | q
  · exact hb.lt
  · exact (QueR.lt hq k q).2
theorem RT.keeps {W W' : World} {r : Nat} {F G : Nat → Prop} {t : TS} (h : RT W r F t) (k : Keeps G W W') (ap : Apart F G) : RT W' r F t := by
  obtain ⟨v, hb, hq, hn, hF⟩ := h
  exact ⟨v, hb.keeps k (ap r ((hF r).mpr (.inl rfl))), QueR.keeps hq k (fun g q => ap g ((hF g).mpr (.inr q))), hn, hF⟩
theorem RT.below {W W' : World} {r : Nat} {F : Nat → Prop} {t : TS} (h : RT W r F t) (hb : Below W.heap.size W W') : RT W' r F t := h.keeps (G := fun _ => False) (Keeps.of hb) (fun _ _ q => q)
theorem rt_new {w : World} (E P at_ : Int) (early : Bool) : RT (w.alloc (.cells (rtC (ts0 E P at_ early) (.slice none 0 0)) 46)) w.heap.size (fun k => k = w.heap.size) (ts0 E P at_ early) :=
  ⟨_, Blk.new _ _ _, QueR.nil _ _ _ _, by simp [Value.ownBlock], fun k => by simp [Value.ownBlock]⟩
theorem r10new_any (E P at_ : Int) (early : Bool) (w : World) : Calls Try.prog 12 #[.agg #[.int .i64 E, .int .i64 P], .int .i64 at_, .bool early] w fun z w' =>
    ∃ r F, z = .returned (.pointer (some ⟨r, 0, none⟩)) ∧ RT w' r F (ts0 E P at_ early) ∧ From F w.heap.size ∧ Below w.heap.size w w' := by
  have N := Lib.hid (show RT ((w.alloc (.cells #[.int .i64 E, .int .i64 P] 26)).alloc (.cells (rtC (ts0 E P at_ early) (.slice none 0 0)) 46)) (w.heap.size + 1) (fun k => k = w.heap.size + 1) (ts0 E P at_ early) by rw [← wsize w (.cells #[.int .i64 E, .int .i64 P] 26)]; exact rt_new E P at_ early)
  go_enter Try.func12, Try.ntmps12
  go_wp2
  go_ret
  exact ⟨_, _, rfl, N.out, fun k q => by omega, wbox2 _ _ _⟩

section
variable (r : Nat) (F : Nat → Prop) (t : TS) (w : World)
set_option maxHeartbeats 2000000 in
theorem r10ready_none (at_ : Int) (h : RT w r F t) (hl : t.l = []) : Calls Try.prog 16 #[.pointer (some ⟨r, 0, none⟩), .int .i64 at_] w fun z w' => z = .returned (.tuple #[sub0.v, .bool false]) ∧ Below w.heap.size w w' := by
  obtain ⟨W1, hW1⟩ : ∃ W1, w.alloc (.cells #[.int .i64 0, .int .i64 0, .int .i64 0, .int .i64 0, .int .i64 0] 35) = W1 := ⟨_, rfl⟩
  have B1 := Lib.hid (show Below w.heap.size w W1 by rw [← hW1]; exact wbox _ _)
  have N1 := Lib.hid (show Blk W1 35 w.heap.size #[.int .i64 0, .int .i64 0, .int .i64 0, .int .i64 0, .int .i64 0] by rw [← hW1]; exact Blk.new w _ _)
  have H1 := Lib.hid (h.below B1.out)
  obtain ⟨v, hb, hq, hn, hF⟩ := H1.out
  rw [hl] at hq
  obtain ⟨a, cap, rfl, _, _⟩ := hq.val
  have c6 := hb.cell 6
  simp [rtC] at c6
  have x0 := N1.out.cell 0; have x1 := N1.out.cell 1; have x2 := N1.out.cell 2; have x3 := N1.out.cell 3; have x4 := N1.out.cell 4
  have fx : ∀ o, W1.frozen? ⟨w.heap.size, o, none⟩ = false := fun o => N1.out.free o
  simp at x0 x1 x2 x3 x4
  have sz := N1.out.lt
  clear hb hq hn hF
  go_enter Try.func16, Try.ntmps16
  go_wp2
  exact bodyPost_ret (v := .tuple #[.agg #[.int .i64 0, .int .i64 0, .int .i64 0, .int .i64 0, .int .i64 0], .bool false]) (by simp [results, Try.results16, go_sem, x0, x1, x2, x3, x4]) rfl ⟨rfl, below_set5 B1.out (Nat.le_refl _)⟩
set_option maxHeartbeats 2000000 in
theorem r10ready_early (at_ : Int) (h : RT w r F t) (s : Sb) (rest : List Sb) (hl : t.l = s :: rest) (he : t.early = true) : Calls Try.prog 16 #[.pointer (some ⟨r, 0, none⟩), .int .i64 at_] w fun z w' => z = .returned (.tuple #[s.v, .bool true]) ∧ Below w.heap.size w w' := by
  obtain ⟨W1, hW1⟩ : ∃ W1, w.alloc (.cells #[.int .i64 0, .int .i64 0, .int .i64 0, .int .i64 0, .int .i64 0] 35) = W1 := ⟨_, rfl⟩
  have B1 := Lib.hid (show Below w.heap.size w W1 by rw [← hW1]; exact wbox _ _)
  have N1 := Lib.hid (show Blk W1 35 w.heap.size #[.int .i64 0, .int .i64 0, .int .i64 0, .int .i64 0, .int .i64 0] by rw [← hW1]; exact Blk.new w _ _)
  have H1 := Lib.hid (h.below B1.out)
  obtain ⟨v, hb, hq, hn, hF⟩ := H1.out
  obtain ⟨bl, ol, cap, rfl, hat⟩ := QueS.at hq (i := 0) (s := s) (by rw [hl]; rfl)
  obtain ⟨n, hn0⟩ : ∃ n, t.l.length = n := ⟨_, rfl⟩
  have n1 : 0 < n := by rw [← hn0, hl]; simp
  have n2 : (0 : Int) < (n : Int) := by omega
  have n3 : ((n : Int) == 0) = false := by simp; omega
  have n4 : decide ((0 : Int) < (n : Int)) = true := by simp; omega
  have y0 := hat.c0; have y1 := hat.c1; have y2 := hat.c2; have y3 := hat.c3; have y4 := hat.c4
  simp only [Nat.zero_mul, Nat.add_zero] at y0 y1 y2 y3 y4
  rw [hn0] at hb
  have c2 := hb.cell 2
  have c6 := hb.cell 6
  simp [rtC] at c2 c6
  have x0 := N1.out.cell 0; have x1 := N1.out.cell 1; have x2 := N1.out.cell 2; have x3 := N1.out.cell 3; have x4 := N1.out.cell 4
  have fx : ∀ o, W1.frozen? ⟨w.heap.size, o, none⟩ = false := fun o => N1.out.free o
  simp at x0 x1 x2 x3 x4
  have sz := N1.out.lt
  rw [he] at c2
  clear hb hq hn hF hat
  go_enter Try.func16, Try.ntmps16
  go_wp2
  exact bodyPost_ret (v := .tuple #[.agg #[.int .i64 s.I, .int .i64 s.R, .int .i64 s.D, .int .i64 s.B, .int .i64 s.G], .bool true]) (by simp [results, Try.results16, go_sem, x0, x1, x2, x3, x4]) rfl ⟨rfl, below_set5 B1.out (Nat.le_refl _)⟩
set_option maxHeartbeats 2000000 in
theorem r10ready_yes (at_ : Int) (h : RT w r F t) (s : Sb) (rest : List Sb) (hl : t.l = s :: rest) (he : t.early = false) (ha : s.R ≤ at_) : Calls Try.prog 16 #[.pointer (some ⟨r, 0, none⟩), .int .i64 at_] w fun z w' => z = .returned (.tuple #[s.v, .bool true]) ∧ Below w.heap.size w w' := by
  obtain ⟨W1, hW1⟩ : ∃ W1, w.alloc (.cells #[.int .i64 0, .int .i64 0, .int .i64 0, .int .i64 0, .int .i64 0] 35) = W1 := ⟨_, rfl⟩
  have B1 := Lib.hid (show Below w.heap.size w W1 by rw [← hW1]; exact wbox _ _)
  have N1 := Lib.hid (show Blk W1 35 w.heap.size #[.int .i64 0, .int .i64 0, .int .i64 0, .int .i64 0, .int .i64 0] by rw [← hW1]; exact Blk.new w _ _)
  have H1 := Lib.hid (h.below B1.out)
  obtain ⟨v, hb, hq, hn, hF⟩ := H1.out
  obtain ⟨bl, ol, cap, rfl, hat⟩ := QueS.at hq (i := 0) (s := s) (by rw [hl]; rfl)
  obtain ⟨n, hn0⟩ : ∃ n, t.l.length = n := ⟨_, rfl⟩
  have n1 : 0 < n := by rw [← hn0, hl]; simp
  have n2 : (0 : Int) < (n : Int) := by omega
  have n3 : ((n : Int) == 0) = false := by simp; omega
  have n4 : decide ((0 : Int) < (n : Int)) = true := by simp; omega
  have y0 := hat.c0; have y1 := hat.c1; have y2 := hat.c2; have y3 := hat.c3; have y4 := hat.c4
  simp only [Nat.zero_mul, Nat.add_zero] at y0 y1 y2 y3 y4
  rw [hn0] at hb
  have c2 := hb.cell 2
  have c6 := hb.cell 6
  simp [rtC] at c2 c6
  have x0 := N1.out.cell 0; have x1 := N1.out.cell 1; have x2 := N1.out.cell 2; have x3 := N1.out.cell 3; have x4 := N1.out.cell 4
  have fx : ∀ o, W1.frozen? ⟨w.heap.size, o, none⟩ = false := fun o => N1.out.free o
  simp at x0 x1 x2 x3 x4
  have sz := N1.out.lt
  rw [he] at c2
  have ta : decide (at_ < s.R) = false := by simp; omega
  clear hb hq hn hF hat
  go_enter Try.func16, Try.ntmps16
  go_wp2
  exact bodyPost_ret (v := .tuple #[.agg #[.int .i64 s.I, .int .i64 s.R, .int .i64 s.D, .int .i64 s.B, .int .i64 s.G], .bool true]) (by simp [results, Try.results16, go_sem, x0, x1, x2, x3, x4]) rfl ⟨rfl, below_set5 B1.out (Nat.le_refl _)⟩
set_option maxHeartbeats 2000000 in
theorem r10ready_no (at_ : Int) (h : RT w r F t) (s : Sb) (rest : List Sb) (hl : t.l = s :: rest) (he : t.early = false) (ha : at_ < s.R) : Calls Try.prog 16 #[.pointer (some ⟨r, 0, none⟩), .int .i64 at_] w fun z w' => z = .returned (.tuple #[sub0.v, .bool false]) ∧ Below w.heap.size w w' := by
  obtain ⟨W1, hW1⟩ : ∃ W1, w.alloc (.cells #[.int .i64 0, .int .i64 0, .int .i64 0, .int .i64 0, .int .i64 0] 35) = W1 := ⟨_, rfl⟩
  have B1 := Lib.hid (show Below w.heap.size w W1 by rw [← hW1]; exact wbox _ _)
  have N1 := Lib.hid (show Blk W1 35 w.heap.size #[.int .i64 0, .int .i64 0, .int .i64 0, .int .i64 0, .int .i64 0] by rw [← hW1]; exact Blk.new w _ _)
  have H1 := Lib.hid (h.below B1.out)
  obtain ⟨v, hb, hq, hn, hF⟩ := H1.out
  obtain ⟨bl, ol, cap, rfl, hat⟩ := QueS.at hq (i := 0) (s := s) (by rw [hl]; rfl)
  obtain ⟨n, hn0⟩ : ∃ n, t.l.length = n := ⟨_, rfl⟩
  have n1 : 0 < n := by rw [← hn0, hl]; simp
  have n2 : (0 : Int) < (n : Int) := by omega
  have n3 : ((n : Int) == 0) = false := by simp; omega
  have n4 : decide ((0 : Int) < (n : Int)) = true := by simp; omega
  have y0 := hat.c0; have y1 := hat.c1; have y2 := hat.c2; have y3 := hat.c3; have y4 := hat.c4
  simp only [Nat.zero_mul, Nat.add_zero] at y0 y1 y2 y3 y4
  rw [hn0] at hb
  have c2 := hb.cell 2
  have c6 := hb.cell 6
  simp [rtC] at c2 c6
  have x0 := N1.out.cell 0; have x1 := N1.out.cell 1; have x2 := N1.out.cell 2; have x3 := N1.out.cell 3; have x4 := N1.out.cell 4
  have fx : ∀ o, W1.frozen? ⟨w.heap.size, o, none⟩ = false := fun o => N1.out.free o
  simp at x0 x1 x2 x3 x4
  have sz := N1.out.lt
  rw [he] at c2
  have ta : decide (at_ < s.R) = true := by simp; omega
  clear hb hq hn hF hat
  go_enter Try.func16, Try.ntmps16
  go_wp2
  exact bodyPost_ret (v := .tuple #[.agg #[.int .i64 0, .int .i64 0, .int .i64 0, .int .i64 0, .int .i64 0], .bool false]) (by simp [results, Try.results16, go_sem, x0, x1, x2, x3, x4]) rfl ⟨rfl, below_set5 B1.out (Nat.le_refl _)⟩
set_option maxHeartbeats 2000000 in
theorem r10run_none (h : RT w r F t) (hl : t.l = []) : Calls Try.prog 14 #[.pointer (some ⟨r, 0, none⟩)] w fun z w' => z = .returned (.tuple #[sub0.v, .bool false]) ∧ Below w.heap.size w w' := by
  obtain ⟨W1, hW1⟩ : ∃ W1, w.alloc (.cells #[.int .i64 0, .int .i64 0, .int .i64 0, .int .i64 0, .int .i64 0] 35) = W1 := ⟨_, rfl⟩
  have B1 := Lib.hid (show Below w.heap.size w W1 by rw [← hW1]; exact wbox _ _)
  have N1 := Lib.hid (show Blk W1 35 w.heap.size #[.int .i64 0, .int .i64 0, .int .i64 0, .int .i64 0, .int .i64 0] by rw [← hW1]; exact Blk.new w _ _)
  have H1 := Lib.hid (h.below B1.out)
  obtain ⟨v, hb, hq, hn, hF⟩ := H1.out
  rw [hl] at hq
  obtain ⟨a, cap, rfl, _, _⟩ := hq.val
  have c6 := hb.cell 6
  simp [rtC] at c6
  have x0 := N1.out.cell 0; have x1 := N1.out.cell 1; have x2 := N1.out.cell 2; have x3 := N1.out.cell 3; have x4 := N1.out.cell 4
  have fx : ∀ o, W1.frozen? ⟨w.heap.size, o, none⟩ = false := fun o => N1.out.free o
  simp at x0 x1 x2 x3 x4
  have sz := N1.out.lt
  clear hb hq hn hF
  go_enter Try.func14, Try.ntmps14
  go_wp2
  exact bodyPost_ret (v := .tuple #[.agg #[.int .i64 0, .int .i64 0, .int .i64 0, .int .i64 0, .int .i64 0], .bool false]) (by simp [results, Try.results14, go_sem, x0, x1, x2, x3, x4]) rfl ⟨rfl, below_set5 B1.out (Nat.le_refl _)⟩
set_option maxRecDepth 20000 in
set_option maxHeartbeats 4000000 in
theorem r10run_some (h : RT w r F t) (s : Sb) (rest : List Sb) (hl : t.l = s :: rest) (hd : t.done ≤ 1000000000) (hd0 : 0 ≤ t.done) : Calls Try.prog 14 #[.pointer (some ⟨r, 0, none⟩)] w fun z w' => z = .returned (.tuple #[s.v, .bool true]) ∧ ∃ F', RT w' r F' (runT t) ∧ Moves F F' w w' := by
  obtain ⟨W1, hW1⟩ : ∃ W1, w.alloc (.cells #[.int .i64 0, .int .i64 0, .int .i64 0, .int .i64 0, .int .i64 0] 35) = W1 := ⟨_, rfl⟩
  have B1 := Lib.hid (show Below w.heap.size w W1 by rw [← hW1]; exact wbox _ _)
  have N1 := Lib.hid (show Blk W1 35 w.heap.size #[.int .i64 0, .int .i64 0, .int .i64 0, .int .i64 0, .int .i64 0] by rw [← hW1]; exact Blk.new w _ _)
  have H1 := Lib.hid (h.below B1.out)
  obtain ⟨v, hb, hq, hn, hF⟩ := H1.out
  obtain ⟨bl, ol, cap, rfl, hat⟩ := QueS.at hq (i := 0) (s := s) (by rw [hl]; rfl)
  obtain ⟨n, hn0⟩ : ∃ n, t.l.length = n := ⟨_, rfl⟩
  have n1 : 0 < n := by rw [← hn0, hl]; simp
  have n2 : (0 : Int) < (n : Int) := by omega
  have n3 : ((n : Int) == 0) = false := by simp; omega
  have n4 : decide ((0 : Int) < (n : Int)) = true := by simp; omega
  have y0 := hat.c0; have y1 := hat.c1; have y2 := hat.c2; have y3 := hat.c3; have y4 := hat.c4
  simp only [Nat.zero_mul, Nat.add_zero] at y0 y1 y2 y3 y4
  rw [hn0] at hb
  have c6 := hb.cell 6
  have c7 := hb.cell 7
  have c8 := hb.cell 8
  have c9 := hb.cell 9
  have c10 := hb.cell 10
  have c11 := hb.cell 11
  have c12 := hb.cell 12
  simp [rtC] at c6 c7 c8 c9 c10 c11 c12
  have x0 := N1.out.cell 0; have x1 := N1.out.cell 1; have x2 := N1.out.cell 2; have x3 := N1.out.cell 3; have x4 := N1.out.cell 4
  have fx : ∀ o, W1.frozen? ⟨w.heap.size, o, none⟩ = false := fun o => N1.out.free o
  simp at x0 x1 x2 x3 x4
  have sz := N1.out.lt
  have f6 : ∀ o, W1.frozen? ⟨r, o, none⟩ = false := fun o => hb.free o
  have nr : ¬ r = w.heap.size := fun e => by
    obtain ⟨_, hb0, _⟩ := h
    have := hb0.lt
    omega
  have wd : IntKind.i64.wrap (t.done + 1) = t.done + 1 := IntWalk.i64_in _ (by omega)
  obtain ⟨_, _, hv, hcl, hcu⟩ := QueS.val hq
  cases hv
  rw [hn0] at hcl hq
  have HQ := Lib.hid (show QueR W1 0 35 5 (.slice (some ⟨bl, ol, none⟩) n cap) n ((s :: rest).map Sb.cs).flatten by have := hq; unfold QueS at this; rw [hn0, hl] at this; exact this)
  have HB := Lib.hid hb
  have HF := Lib.hid hF
  have nbr : ¬ bl = r := fun e => hn (by subst e; rfl)
  have LB := Lib.hid (show bl < w.heap.size by
    obtain ⟨v0, hb0, hq0, hn00, hF0⟩ := h
    exact RT.lies ⟨v0, hb0, hq0, hn00, hF0⟩ bl ((hF bl).mpr (.inr rfl)))
  have NL := Lib.hid (show n = rest.length + 1 by rw [← hn0, hl]; rfl)
  have RUN := Lib.hid (show runT t = { t with l := rest, ran := s, done := t.done + 1 } by unfold runT; rw [if_pos (by rw [hl]; simp)]; simp [headS, hl])
  have m1 : 1 ≤ n := n1
  have m2 : (1 : Int) ≤ (n : Int) := by omega
  have m3 : (n : Int) ≤ (cap : Int) := by omega
  have m4 : n ≤ cap := by omega
  clear hn hF hat hq hb hn0 hl
  by_cases hc1 : cap = 1
  · have k1 : cap ≤ 1 := by omega
    have n0 : n = 1 := by omega
    have rn : rest = [] := List.eq_nil_of_length_eq_zero (by have := NL.out; omega)
    subst hc1 n0 rn
    clear NL
    go_enter Try.func14, Try.ntmps14
    go_upto_region 6 with fail
    obtain ⟨W2, hW2⟩ : ∃ W2, ((((((W1.setCell ⟨r, 7, none⟩ (.int .i64 s.I)).setCell ⟨r, 8, none⟩ (.int .i64 s.R)).setCell ⟨r, 9, none⟩ (.int .i64 s.D)).setCell ⟨r, 10, none⟩ (.int .i64 s.B)).setCell ⟨r, 11, none⟩ (.int .i64 s.G)).setCell ⟨r, 6, none⟩ (.slice (some ⟨bl, ol, none⟩) 0 0)).setCell ⟨r, 12, none⟩ (.int .i64 (t.done + 1)) = W2 := ⟨_, rfl⟩
    have RB := Lib.hid (show Blk W2 46 r (rtC { t with l := [], ran := s, done := t.done + 1 } (.slice (some ⟨bl, ol, none⟩) 0 0)) by rw [← hW2]; exact ((((((HB.out.set 7 _).set 8 _).set 9 _).set 10 _).set 11 _).set 6 _).set 12 _)
    have N2 := Lib.hid (show Blk W2 35 w.heap.size #[.int .i64 0, .int .i64 0, .int .i64 0, .int .i64 0, .int .i64 0] by rw [← hW2]; exact ((((((N1.out.other _ _ (Ne.symm nr)).other _ _ (Ne.symm nr)).other _ _ (Ne.symm nr)).other _ _ (Ne.symm nr)).other _ _ (Ne.symm nr)).other _ _ (Ne.symm nr)).other _ _ (Ne.symm nr))
    have fr := (HF.out r).mpr (.inl rfl)
    have KW := Lib.hid (show Keeps F w W2 by rw [← hW2]; exact (((((((Keeps.of (F := F) B1.out).set (.inl fr) _ _).set (.inl fr) _ _).set (.inl fr) _ _).set (.inl fr) _ _).set (.inl fr) _ _).set (.inl fr) _ _).set (.inl fr) _ _)
    have SZ := Lib.hid (show W2.heap.size = W1.heap.size by rw [← hW2]; simp)
    have QB := Lib.hid (show W2.heap[bl]? = W1.heap[bl]? by rw [← hW2]; simp only [Below.heap_setCell _ (⟨r, 7, none⟩ : Addr) _ bl nbr, Below.heap_setCell _ (⟨r, 8, none⟩ : Addr) _ bl nbr, Below.heap_setCell _ (⟨r, 9, none⟩ : Addr) _ bl nbr, Below.heap_setCell _ (⟨r, 10, none⟩ : Addr) _ bl nbr, Below.heap_setCell _ (⟨r, 11, none⟩ : Addr) _ bl nbr, Below.heap_setCell _ (⟨r, 6, none⟩ : Addr) _ bl nbr, Below.heap_setCell _ (⟨r, 12, none⟩ : Addr) _ bl nbr])
    rw [hW2]
    clear hW2 c6 c7 c8 c9 c10 c11 c12 x0 x1 x2 x3 x4 fx f6
    have c7 := RB.out.cell 7; have c8 := RB.out.cell 8; have c9 := RB.out.cell 9; have c10 := RB.out.cell 10; have c11 := RB.out.cell 11
    have x0 := N2.out.cell 0; have x1 := N2.out.cell 1; have x2 := N2.out.cell 2; have x3 := N2.out.cell 3; have x4 := N2.out.cell 4
    have fx : ∀ o, W2.frozen? ⟨w.heap.size, o, none⟩ = false := fun o => N2.out.free o
    simp [rtC] at c7 c8 c9 c10 c11 x0 x1 x2 x3 x4
    go_wp2
    refine bodyPost_ret (v := .tuple #[.agg #[.int .i64 s.I, .int .i64 s.R, .int .i64 s.D, .int .i64 s.B, .int .i64 s.G], .bool true]) (by simp [results, Try.results14, go_sem, x0, x1, x2, x3, x4]) rfl ⟨rfl, F, ?_, ?_⟩
    · rw [RUN.out]
      refine ⟨.slice (some ⟨bl, ol, none⟩) 0 0, ((((RB.out.other _ _ nr).other _ _ nr).other _ _ nr).other _ _ nr).other _ _ nr, ?_, fun e => nbr (by simpa [Value.ownBlock] using e), fun k => (HF.out k)⟩
      have HD := QueR.empty HQ.out (show 0 ≤ 1 by omega)
      exact HD.carry (fun g hg => by
        simp only [Value.ownBlock, Option.some.injEq] at hg
        subst hg
        have ne := Nat.ne_of_lt LB.out
        simp only [Below.heap_setCell _ (⟨w.heap.size, 0, none⟩ : Addr) _ bl ne, Below.heap_setCell _ (⟨w.heap.size, 1, none⟩ : Addr) _ bl ne, Below.heap_setCell _ (⟨w.heap.size, 2, none⟩ : Addr) _ bl ne, Below.heap_setCell _ (⟨w.heap.size, 3, none⟩ : Addr) _ bl ne, Below.heap_setCell _ (⟨w.heap.size, 4, none⟩ : Addr) _ bl ne]
        exact QB.out)
    · exact ⟨((((KW.out.set (.inr (Nat.le_refl _)) _ _).set (.inr (Nat.le_refl _)) _ _).set (.inr (Nat.le_refl _)) _ _).set (.inr (Nat.le_refl _)) _ _).set (.inr (Nat.le_refl _)) _ _, fun k q => .inl q, fun k q => by have := h.lies k q; have := B1.out.size; have := SZ.out; simp; omega⟩
  · have k1 : ¬ cap ≤ 1 := by omega
    go_enter Try.func14, Try.ntmps14
    go_upto_region 6 with fail
    obtain ⟨W2, hW2⟩ : ∃ W2, ((((((W1.setCell ⟨r, 7, none⟩ (.int .i64 s.I)).setCell ⟨r, 8, none⟩ (.int .i64 s.R)).setCell ⟨r, 9, none⟩ (.int .i64 s.D)).setCell ⟨r, 10, none⟩ (.int .i64 s.B)).setCell ⟨r, 11, none⟩ (.int .i64 s.G)).setCell ⟨r, 6, none⟩ (.slice (some ⟨bl, ol + 5, none⟩) (n - 1) (cap - 1))).setCell ⟨r, 12, none⟩ (.int .i64 (t.done + 1)) = W2 := ⟨_, rfl⟩
    have RB := Lib.hid (show Blk W2 46 r (rtC { t with l := rest, ran := s, done := t.done + 1 } (.slice (some ⟨bl, ol + 5, none⟩) (n - 1) (cap - 1))) by rw [← hW2]; exact ((((((HB.out.set 7 _).set 8 _).set 9 _).set 10 _).set 11 _).set 6 _).set 12 _)
    have N2 := Lib.hid (show Blk W2 35 w.heap.size #[.int .i64 0, .int .i64 0, .int .i64 0, .int .i64 0, .int .i64 0] by rw [← hW2]; exact ((((((N1.out.other _ _ (Ne.symm nr)).other _ _ (Ne.symm nr)).other _ _ (Ne.symm nr)).other _ _ (Ne.symm nr)).other _ _ (Ne.symm nr)).other _ _ (Ne.symm nr)).other _ _ (Ne.symm nr))
    have fr := (HF.out r).mpr (.inl rfl)
    have KW := Lib.hid (show Keeps F w W2 by rw [← hW2]; exact (((((((Keeps.of (F := F) B1.out).set (.inl fr) _ _).set (.inl fr) _ _).set (.inl fr) _ _).set (.inl fr) _ _).set (.inl fr) _ _).set (.inl fr) _ _).set (.inl fr) _ _)
    have SZ := Lib.hid (show W2.heap.size = W1.heap.size by rw [← hW2]; simp)
    have QB := Lib.hid (show W2.heap[bl]? = W1.heap[bl]? by rw [← hW2]; simp only [Below.heap_setCell _ (⟨r, 7, none⟩ : Addr) _ bl nbr, Below.heap_setCell _ (⟨r, 8, none⟩ : Addr) _ bl nbr, Below.heap_setCell _ (⟨r, 9, none⟩ : Addr) _ bl nbr, Below.heap_setCell _ (⟨r, 10, none⟩ : Addr) _ bl nbr, Below.heap_setCell _ (⟨r, 11, none⟩ : Addr) _ bl nbr, Below.heap_setCell _ (⟨r, 6, none⟩ : Addr) _ bl nbr, Below.heap_setCell _ (⟨r, 12, none⟩ : Addr) _ bl nbr])
    rw [hW2]
    clear hW2 c6 c7 c8 c9 c10 c11 c12 x0 x1 x2 x3 x4 fx f6
    have c7 := RB.out.cell 7; have c8 := RB.out.cell 8; have c9 := RB.out.cell 9; have c10 := RB.out.cell 10; have c11 := RB.out.cell 11
    have x0 := N2.out.cell 0; have x1 := N2.out.cell 1; have x2 := N2.out.cell 2; have x3 := N2.out.cell 3; have x4 := N2.out.cell 4
    have fx : ∀ o, W2.frozen? ⟨w.heap.size, o, none⟩ = false := fun o => N2.out.free o
    simp [rtC] at c7 c8 c9 c10 c11 x0 x1 x2 x3 x4
    go_wp2
    refine bodyPost_ret (v := .tuple #[.agg #[.int .i64 s.I, .int .i64 s.R, .int .i64 s.D, .int .i64 s.B, .int .i64 s.G], .bool true]) (by simp [results, Try.results14, go_sem, x0, x1, x2, x3, x4]) rfl ⟨rfl, F, ?_, ?_⟩
    · rw [RUN.out]
      refine ⟨.slice (some ⟨bl, ol + 5, none⟩) (n - 1) (cap - 1), ((((RB.out.other _ _ nr).other _ _ nr).other _ _ nr).other _ _ nr).other _ _ nr, ?_, fun e => nbr (by simpa [Value.ownBlock] using e), fun k => (HF.out k)⟩
      have HD := QueR.drop (k := 1) HQ.out m1
      rw [show n - 1 = rest.length by have := NL.out; omega] at HD ⊢
      exact HD.carry (fun g hg => by
        simp only [Value.ownBlock, Option.some.injEq] at hg
        subst hg
        have ne := Nat.ne_of_lt LB.out
        simp only [Below.heap_setCell _ (⟨w.heap.size, 0, none⟩ : Addr) _ bl ne, Below.heap_setCell _ (⟨w.heap.size, 1, none⟩ : Addr) _ bl ne, Below.heap_setCell _ (⟨w.heap.size, 2, none⟩ : Addr) _ bl ne, Below.heap_setCell _ (⟨w.heap.size, 3, none⟩ : Addr) _ bl ne, Below.heap_setCell _ (⟨w.heap.size, 4, none⟩ : Addr) _ bl ne]
        exact QB.out)
    · exact ⟨((((KW.out.set (.inr (Nat.le_refl _)) _ _).set (.inr (Nat.le_refl _)) _ _).set (.inr (Nat.le_refl _)) _ _).set (.inr (Nat.le_refl _)) _ _).set (.inr (Nat.le_refl _)) _ _, fun k q => .inl q, fun k q => by have := h.lies k q; have := B1.out.size; have := SZ.out; simp; omega⟩
end
end Go.Proofs.Ythaoijmjkmgebaa
