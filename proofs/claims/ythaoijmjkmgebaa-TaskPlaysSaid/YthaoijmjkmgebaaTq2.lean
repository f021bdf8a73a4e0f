/-
  Package task as landed: Ready, When, Last, Weight: contracts.
-/
import Derived.Test.YthaoijmjkmgebaaTq1
namespace Go.Proofs.Ythaoijmjkmgebaa
open Go.RowKit
section
variable (g : Nat) (F : Nat → Prop) (t : TS) (w : World)
set_option maxHeartbeats 2000000 in
theorem tready_nil (at_ : Int) (w : World) : Calls Try.prog 15 #[.pointer none, .int .i64 at_] w fun z w' => z = .returned (.tuple #[sub0.v, .bool false]) ∧ Below w.heap.size w w' := by
  obtain ⟨W1, hW1⟩ : ∃ W1, w.alloc (.cells #[.int .i64 0, .int .i64 0, .int .i64 0, .int .i64 0, .int .i64 0] 35) = W1 := ⟨_, rfl⟩
  have B1 := Lib.hid (show Below w.heap.size w W1 by rw [← hW1]; exact wbox _ _)
  have N1 := Lib.hid (show Blk W1 35 w.heap.size #[.int .i64 0, .int .i64 0, .int .i64 0, .int .i64 0, .int .i64 0] by rw [← hW1]; exact Blk.new w _ _)
  go_enter Try.func15, Try.ntmps15
  go_wp2_with fail
  refine (thead_nil _).mono ?_
  rintro e w2 ⟨rfl, hb⟩
  rw [show sub0.v = .agg #[.int .i64 0, .int .i64 0, .int .i64 0, .int .i64 0, .int .i64 0] from rfl]
  go_upto_region 2 with fail
  obtain ⟨W3, hW3⟩ : ∃ W3, w2.alloc (.cells #[.int .i64 0, .int .i64 0, .int .i64 0, .int .i64 0, .int .i64 0] 35) = W3 := ⟨_, rfl⟩
  have B3 := Lib.hid (show Below w.heap.size w W3 by rw [← hW3]; exact below_next (below_next B1.out hb) (wbox _ _))
  have P3 := Lib.hid (show Blk W3 35 w2.heap.size #[.int .i64 0, .int .i64 0, .int .i64 0, .int .i64 0, .int .i64 0] by rw [← hW3]; exact Blk.new w2 _ _)
  have N3 := Lib.hid (show Blk W3 35 w.heap.size #[.int .i64 0, .int .i64 0, .int .i64 0, .int .i64 0, .int .i64 0] by rw [← hW3]; exact (N1.out.below hb).alloc _)
  have x0 := N3.out.cell 0; have x1 := N3.out.cell 1; have x2 := N3.out.cell 2; have x3 := N3.out.cell 3; have x4 := N3.out.cell 4
  have fx : ∀ o, W3.frozen? ⟨w.heap.size, o, none⟩ = false := fun o => N3.out.free o
  simp at x0 x1 x2 x3 x4
  have sz := N3.out.lt
  have p0 := P3.out.cell 0; have p1 := P3.out.cell 1; have p2 := P3.out.cell 2; have p3 := P3.out.cell 3; have p4 := P3.out.cell 4
  simp at p0 p1 p2 p3 p4
  rw [hW3]
  clear hW3
  go_wp2
  exact bodyPost_ret (v := .tuple #[.agg #[.int .i64 0, .int .i64 0, .int .i64 0, .int .i64 0, .int .i64 0], .bool false]) (by simp [results, Try.results15, go_sem, x0, x1, x2, x3, x4]) rfl ⟨rfl, below_set5 B3.out (Nat.le_refl _)⟩
set_option maxHeartbeats 2000000 in
theorem tready_none (at_ : Int) (h : HpT w g F t) (hl : t.l = []) : Calls Try.prog 15 #[.pointer (some ⟨g, 0, none⟩), .int .i64 at_] w fun z w' => z = .returned (.tuple #[sub0.v, .bool false]) ∧ Below w.heap.size w w' := by
  obtain ⟨W1, hW1⟩ : ∃ W1, w.alloc (.cells #[.int .i64 0, .int .i64 0, .int .i64 0, .int .i64 0, .int .i64 0] 35) = W1 := ⟨_, rfl⟩
  have B1 := Lib.hid (show Below w.heap.size w W1 by rw [← hW1]; exact wbox _ _)
  have N1 := Lib.hid (show Blk W1 35 w.heap.size #[.int .i64 0, .int .i64 0, .int .i64 0, .int .i64 0, .int .i64 0] by rw [← hW1]; exact Blk.new w _ _)
  have H1 := Lib.hid (h.below B1.out)
  have HL := Lib.hid hl
  clear h hl
  go_enter Try.func15, Try.ntmps15
  go_wp2_with fail
  refine (thead_none g F t _ H1.out HL.out).mono ?_
  rintro e w2 ⟨rfl, hb⟩
  rw [show sub0.v = .agg #[.int .i64 0, .int .i64 0, .int .i64 0, .int .i64 0, .int .i64 0] from rfl]
  go_upto_region 2 with fail
  obtain ⟨W3, hW3⟩ : ∃ W3, w2.alloc (.cells #[.int .i64 0, .int .i64 0, .int .i64 0, .int .i64 0, .int .i64 0] 35) = W3 := ⟨_, rfl⟩
  have B3 := Lib.hid (show Below w.heap.size w W3 by rw [← hW3]; exact below_next (below_next B1.out hb) (wbox _ _))
  have P3 := Lib.hid (show Blk W3 35 w2.heap.size #[.int .i64 0, .int .i64 0, .int .i64 0, .int .i64 0, .int .i64 0] by rw [← hW3]; exact Blk.new w2 _ _)
  have N3 := Lib.hid (show Blk W3 35 w.heap.size #[.int .i64 0, .int .i64 0, .int .i64 0, .int .i64 0, .int .i64 0] by rw [← hW3]; exact (N1.out.below hb).alloc _)
  have x0 := N3.out.cell 0; have x1 := N3.out.cell 1; have x2 := N3.out.cell 2; have x3 := N3.out.cell 3; have x4 := N3.out.cell 4
  have fx : ∀ o, W3.frozen? ⟨w.heap.size, o, none⟩ = false := fun o => N3.out.free o
  simp at x0 x1 x2 x3 x4
  have sz := N3.out.lt
  have p0 := P3.out.cell 0; have p1 := P3.out.cell 1; have p2 := P3.out.cell 2; have p3 := P3.out.cell 3; have p4 := P3.out.cell 4
  simp at p0 p1 p2 p3 p4
  rw [hW3]
  clear hW3
  go_wp2
  exact bodyPost_ret (v := .tuple #[.agg #[.int .i64 0, .int .i64 0, .int .i64 0, .int .i64 0, .int .i64 0], .bool false]) (by simp [results, Try.results15, go_sem, x0, x1, x2, x3, x4]) rfl ⟨rfl, below_set5 B3.out (Nat.le_refl _)⟩
set_option maxHeartbeats 2000000 in
theorem tready_early (at_ : Int) (h : HpT w g F t) (s : Sb) (rest : List Sb) (hl : t.l = s :: rest) (he : t.early = true) : Calls Try.prog 15 #[.pointer (some ⟨g, 0, none⟩), .int .i64 at_] w fun z w' => z = .returned (.tuple #[s.v, .bool true]) ∧ Below w.heap.size w w' := by
  obtain ⟨W1, hW1⟩ : ∃ W1, w.alloc (.cells #[.int .i64 0, .int .i64 0, .int .i64 0, .int .i64 0, .int .i64 0] 35) = W1 := ⟨_, rfl⟩
  have B1 := Lib.hid (show Below w.heap.size w W1 by rw [← hW1]; exact wbox _ _)
  have N1 := Lib.hid (show Blk W1 35 w.heap.size #[.int .i64 0, .int .i64 0, .int .i64 0, .int .i64 0, .int .i64 0] by rw [← hW1]; exact Blk.new w _ _)
  have H1 := Lib.hid (h.below B1.out)
  have HL := Lib.hid hl
  clear h hl
  go_enter Try.func15, Try.ntmps15
  go_wp2_with fail
  refine (thead_some g F t _ H1.out s rest HL.out).mono ?_
  rintro e w2 ⟨rfl, hb⟩
  rw [show s.v = .agg #[.int .i64 s.I, .int .i64 s.R, .int .i64 s.D, .int .i64 s.B, .int .i64 s.G] from rfl]
  go_upto_region 2 with fail
  obtain ⟨W3, hW3⟩ : ∃ W3, w2.alloc (.cells #[.int .i64 s.I, .int .i64 s.R, .int .i64 s.D, .int .i64 s.B, .int .i64 s.G] 35) = W3 := ⟨_, rfl⟩
  have B3 := Lib.hid (show Below w.heap.size w W3 by rw [← hW3]; exact below_next (below_next B1.out hb) (wbox _ _))
  have P3 := Lib.hid (show Blk W3 35 w2.heap.size #[.int .i64 s.I, .int .i64 s.R, .int .i64 s.D, .int .i64 s.B, .int .i64 s.G] by rw [← hW3]; exact Blk.new w2 _ _)
  have N3 := Lib.hid (show Blk W3 35 w.heap.size #[.int .i64 0, .int .i64 0, .int .i64 0, .int .i64 0, .int .i64 0] by rw [← hW3]; exact (N1.out.below hb).alloc _)
  have x0 := N3.out.cell 0; have x1 := N3.out.cell 1; have x2 := N3.out.cell 2; have x3 := N3.out.cell 3; have x4 := N3.out.cell 4
  have fx : ∀ o, W3.frozen? ⟨w.heap.size, o, none⟩ = false := fun o => N3.out.free o
  simp at x0 x1 x2 x3 x4
  have sz := N3.out.lt
  have p0 := P3.out.cell 0; have p1 := P3.out.cell 1; have p2 := P3.out.cell 2; have p3 := P3.out.cell 3; have p4 := P3.out.cell 4
  simp at p0 p1 p2 p3 p4
  obtain ⟨sb, v, hk, _⟩ := H1.out
  have c2 := ((hk.box.below hb).alloc (.cells #[.int .i64 s.I, .int .i64 s.R, .int .i64 s.D, .int .i64 s.B, .int .i64 s.G] 35)).cell 2
  simp only [tkC] at c2
  change _ = some (Value.bool t.early) at c2
  rw [hW3] at c2
  clear hk
  rw [he] at c2
  rw [hW3]
  clear hW3
  go_wp2
  exact bodyPost_ret (v := .tuple #[.agg #[.int .i64 s.I, .int .i64 s.R, .int .i64 s.D, .int .i64 s.B, .int .i64 s.G], .bool true]) (by simp [results, Try.results15, go_sem, x0, x1, x2, x3, x4]) rfl ⟨rfl, below_set5 B3.out (Nat.le_refl _)⟩
set_option maxHeartbeats 2000000 in
theorem tready_yes (at_ : Int) (h : HpT w g F t) (s : Sb) (rest : List Sb) (hl : t.l = s :: rest) (he : t.early = false) (ha : s.R ≤ at_) : Calls Try.prog 15 #[.pointer (some ⟨g, 0, none⟩), .int .i64 at_] w fun z w' => z = .returned (.tuple #[s.v, .bool true]) ∧ Below w.heap.size w w' := by
  obtain ⟨W1, hW1⟩ : ∃ W1, w.alloc (.cells #[.int .i64 0, .int .i64 0, .int .i64 0, .int .i64 0, .int .i64 0] 35) = W1 := ⟨_, rfl⟩
  have B1 := Lib.hid (show Below w.heap.size w W1 by rw [← hW1]; exact wbox _ _)
  have N1 := Lib.hid (show Blk W1 35 w.heap.size #[.int .i64 0, .int .i64 0, .int .i64 0, .int .i64 0, .int .i64 0] by rw [← hW1]; exact Blk.new w _ _)
  have H1 := Lib.hid (h.below B1.out)
  have HL := Lib.hid hl
  have ta : decide (at_ < s.R) = false := by simp; omega
  clear h hl ha
  go_enter Try.func15, Try.ntmps15
  go_wp2_with fail
  refine (thead_some g F t _ H1.out s rest HL.out).mono ?_
  rintro e w2 ⟨rfl, hb⟩
  rw [show s.v = .agg #[.int .i64 s.I, .int .i64 s.R, .int .i64 s.D, .int .i64 s.B, .int .i64 s.G] from rfl]
  go_upto_region 2 with fail
  obtain ⟨W3, hW3⟩ : ∃ W3, w2.alloc (.cells #[.int .i64 s.I, .int .i64 s.R, .int .i64 s.D, .int .i64 s.B, .int .i64 s.G] 35) = W3 := ⟨_, rfl⟩
  have B3 := Lib.hid (show Below w.heap.size w W3 by rw [← hW3]; exact below_next (below_next B1.out hb) (wbox _ _))
  have P3 := Lib.hid (show Blk W3 35 w2.heap.size #[.int .i64 s.I, .int .i64 s.R, .int .i64 s.D, .int .i64 s.B, .int .i64 s.G] by rw [← hW3]; exact Blk.new w2 _ _)
  have N3 := Lib.hid (show Blk W3 35 w.heap.size #[.int .i64 0, .int .i64 0, .int .i64 0, .int .i64 0, .int .i64 0] by rw [← hW3]; exact (N1.out.below hb).alloc _)
  have x0 := N3.out.cell 0; have x1 := N3.out.cell 1; have x2 := N3.out.cell 2; have x3 := N3.out.cell 3; have x4 := N3.out.cell 4
  have fx : ∀ o, W3.frozen? ⟨w.heap.size, o, none⟩ = false := fun o => N3.out.free o
  simp at x0 x1 x2 x3 x4
  have sz := N3.out.lt
  have p0 := P3.out.cell 0; have p1 := P3.out.cell 1; have p2 := P3.out.cell 2; have p3 := P3.out.cell 3; have p4 := P3.out.cell 4
  simp at p0 p1 p2 p3 p4
  obtain ⟨sb, v, hk, _⟩ := H1.out
  have c2 := ((hk.box.below hb).alloc (.cells #[.int .i64 s.I, .int .i64 s.R, .int .i64 s.D, .int .i64 s.B, .int .i64 s.G] 35)).cell 2
  simp only [tkC] at c2
  change _ = some (Value.bool t.early) at c2
  rw [hW3] at c2
  clear hk
  rw [he] at c2
  rw [hW3]
  clear hW3
  go_wp2
  exact bodyPost_ret (v := .tuple #[.agg #[.int .i64 s.I, .int .i64 s.R, .int .i64 s.D, .int .i64 s.B, .int .i64 s.G], .bool true]) (by simp [results, Try.results15, go_sem, x0, x1, x2, x3, x4]) rfl ⟨rfl, below_set5 B3.out (Nat.le_refl _)⟩
set_option maxHeartbeats 2000000 in
theorem tready_no (at_ : Int) (h : HpT w g F t) (s : Sb) (rest : List Sb) (hl : t.l = s :: rest) (he : t.early = false) (ha : at_ < s.R) : Calls Try.prog 15 #[.pointer (some ⟨g, 0, none⟩), .int .i64 at_] w fun z w' => z = .returned (.tuple #[sub0.v, .bool false]) ∧ Below w.heap.size w w' := by
  obtain ⟨W1, hW1⟩ : ∃ W1, w.alloc (.cells #[.int .i64 0, .int .i64 0, .int .i64 0, .int .i64 0, .int .i64 0] 35) = W1 := ⟨_, rfl⟩
  have B1 := Lib.hid (show Below w.heap.size w W1 by rw [← hW1]; exact wbox _ _)
  have N1 := Lib.hid (show Blk W1 35 w.heap.size #[.int .i64 0, .int .i64 0, .int .i64 0, .int .i64 0, .int .i64 0] by rw [← hW1]; exact Blk.new w _ _)
  have H1 := Lib.hid (h.below B1.out)
  have HL := Lib.hid hl
  have ta : decide (at_ < s.R) = true := by simp; omega
  clear h hl ha
  go_enter Try.func15, Try.ntmps15
  go_wp2_with fail
  refine (thead_some g F t _ H1.out s rest HL.out).mono ?_
  rintro e w2 ⟨rfl, hb⟩
  rw [show s.v = .agg #[.int .i64 s.I, .int .i64 s.R, .int .i64 s.D, .int .i64 s.B, .int .i64 s.G] from rfl]
  go_upto_region 2 with fail
  obtain ⟨W3, hW3⟩ : ∃ W3, w2.alloc (.cells #[.int .i64 s.I, .int .i64 s.R, .int .i64 s.D, .int .i64 s.B, .int .i64 s.G] 35) = W3 := ⟨_, rfl⟩
  have B3 := Lib.hid (show Below w.heap.size w W3 by rw [← hW3]; exact below_next (below_next B1.out hb) (wbox _ _))
  have P3 := Lib.hid (show Blk W3 35 w2.heap.size #[.int .i64 s.I, .int .i64 s.R, .int .i64 s.D, .int .i64 s.B, .int .i64 s.G] by rw [← hW3]; exact Blk.new w2 _ _)
  have N3 := Lib.hid (show Blk W3 35 w.heap.size #[.int .i64 0, .int .i64 0, .int .i64 0, .int .i64 0, .int .i64 0] by rw [← hW3]; exact (N1.out.below hb).alloc _)
  have x0 := N3.out.cell 0; have x1 := N3.out.cell 1; have x2 := N3.out.cell 2; have x3 := N3.out.cell 3; have x4 := N3.out.cell 4
  have fx : ∀ o, W3.frozen? ⟨w.heap.size, o, none⟩ = false := fun o => N3.out.free o
  simp at x0 x1 x2 x3 x4
  have sz := N3.out.lt
  have p0 := P3.out.cell 0; have p1 := P3.out.cell 1; have p2 := P3.out.cell 2; have p3 := P3.out.cell 3; have p4 := P3.out.cell 4
  simp at p0 p1 p2 p3 p4
  obtain ⟨sb, v, hk, _⟩ := H1.out
  have c2 := ((hk.box.below hb).alloc (.cells #[.int .i64 s.I, .int .i64 s.R, .int .i64 s.D, .int .i64 s.B, .int .i64 s.G] 35)).cell 2
  simp only [tkC] at c2
  change _ = some (Value.bool t.early) at c2
  rw [hW3] at c2
  clear hk
  rw [he] at c2
  rw [hW3]
  clear hW3
  go_wp2
  exact bodyPost_ret (v := .tuple #[.agg #[.int .i64 0, .int .i64 0, .int .i64 0, .int .i64 0, .int .i64 0], .bool false]) (by simp [results, Try.results15, go_sem, x0, x1, x2, x3, x4]) rfl ⟨rfl, below_set5 B3.out (Nat.le_refl _)⟩
theorem tready_any (at_ : Int) (h : HpT w g F t) : Calls Try.prog 15 #[.pointer (some ⟨g, 0, none⟩), .int .i64 at_] w fun z w' => z = .returned (.tuple #[(readyS t at_).v, .bool (readyB t at_)]) ∧ Below w.heap.size w w' := by
  rcases list_two t.l with hl | ⟨s, rest, hl⟩
  · obtain ⟨h1, h2⟩ := head_none hl
    have e : readyB t at_ = false := by simp [readyB, h2]
    rw [readyS, e]
    exact tready_none g F t w at_ h hl
  · obtain ⟨h1, h2⟩ := head_some hl
    by_cases he : t.early = true
    · have e : readyB t at_ = true := by simp [readyB, h2, he]
      rw [readyS, e, h1]
      exact tready_early g F t w at_ h s rest hl he
    · have he' : t.early = false := by simpa using he
      by_cases ha : s.R ≤ at_
      · have e : readyB t at_ = true := by simp [readyB, h1, h2, he', ha]
        rw [readyS, e, h1]
        exact tready_yes g F t w at_ h s rest hl he' ha
      · have e : readyB t at_ = false := by simp [readyB, h1, h2, he']; omega
        rw [readyS, e]
        exact tready_no g F t w at_ h s rest hl he' (by omega)
set_option maxHeartbeats 2000000 in
theorem twhen_nil (w : World) : Calls Try.prog 24 #[.pointer none] w fun z w' => z = .returned (.tuple #[.int .i64 0, .bool false]) ∧ Below w.heap.size w w' := by
  have B1 := Lib.hid (Below.refl w.heap.size w)
  go_enter Try.func24, Try.ntmps24
  go_wp2_with fail
  refine (thead_nil _).mono ?_
  rintro e w2 ⟨rfl, hb⟩
  rw [show sub0.v = .agg #[.int .i64 0, .int .i64 0, .int .i64 0, .int .i64 0, .int .i64 0] from rfl]
  go_upto_region 2 with fail
  obtain ⟨W3, hW3⟩ : ∃ W3, w2.alloc (.cells #[.int .i64 0, .int .i64 0, .int .i64 0, .int .i64 0, .int .i64 0] 35) = W3 := ⟨_, rfl⟩
  have B3 := Lib.hid (show Below w.heap.size w W3 by rw [← hW3]; exact below_next (below_next B1.out hb) (wbox _ _))
  have P3 := Lib.hid (show Blk W3 35 w2.heap.size #[.int .i64 0, .int .i64 0, .int .i64 0, .int .i64 0, .int .i64 0] by rw [← hW3]; exact Blk.new w2 _ _)
  have p0 := P3.out.cell 0; have p1 := P3.out.cell 1; have p2 := P3.out.cell 2; have p3 := P3.out.cell 3; have p4 := P3.out.cell 4
  simp at p0 p1 p2 p3 p4
  rw [hW3]
  clear hW3
  go_wp2
  exact bodyPost_ret (v := .tuple #[.int .i64 0, .bool false]) (by simp [results, Try.results24, go_sem]) rfl ⟨rfl, B3.out⟩
set_option maxHeartbeats 2000000 in
theorem twhen_none (h : HpT w g F t) (hl : t.l = []) : Calls Try.prog 24 #[.pointer (some ⟨g, 0, none⟩)] w fun z w' => z = .returned (.tuple #[.int .i64 0, .bool false]) ∧ Below w.heap.size w w' := by
  have B1 := Lib.hid (Below.refl w.heap.size w)
  have H1 := Lib.hid h
  have HL := Lib.hid hl
  clear h hl
  go_enter Try.func24, Try.ntmps24
  go_wp2_with fail
  refine (thead_none g F t _ H1.out HL.out).mono ?_
  rintro e w2 ⟨rfl, hb⟩
  rw [show sub0.v = .agg #[.int .i64 0, .int .i64 0, .int .i64 0, .int .i64 0, .int .i64 0] from rfl]
  go_upto_region 2 with fail
  obtain ⟨W3, hW3⟩ : ∃ W3, w2.alloc (.cells #[.int .i64 0, .int .i64 0, .int .i64 0, .int .i64 0, .int .i64 0] 35) = W3 := ⟨_, rfl⟩
  have B3 := Lib.hid (show Below w.heap.size w W3 by rw [← hW3]; exact below_next (below_next B1.out hb) (wbox _ _))
  have P3 := Lib.hid (show Blk W3 35 w2.heap.size #[.int .i64 0, .int .i64 0, .int .i64 0, .int .i64 0, .int .i64 0] by rw [← hW3]; exact Blk.new w2 _ _)
  have p0 := P3.out.cell 0; have p1 := P3.out.cell 1; have p2 := P3.out.cell 2; have p3 := P3.out.cell 3; have p4 := P3.out.cell 4
  simp at p0 p1 p2 p3 p4
  rw [hW3]
  clear hW3
  go_wp2
  exact bodyPost_ret (v := .tuple #[.int .i64 0, .bool false]) (by simp [results, Try.results24, go_sem]) rfl ⟨rfl, B3.out⟩
set_option maxHeartbeats 2000000 in
theorem twhen_early (h : HpT w g F t) (s : Sb) (rest : List Sb) (hl : t.l = s :: rest) (he : t.early = true) : Calls Try.prog 24 #[.pointer (some ⟨g, 0, none⟩)] w fun z w' => z = .returned (.tuple #[.int .i64 0, .bool true]) ∧ Below w.heap.size w w' := by
  have B1 := Lib.hid (Below.refl w.heap.size w)
  have H1 := Lib.hid h
  have HL := Lib.hid hl
  clear h hl
  go_enter Try.func24, Try.ntmps24
  go_wp2_with fail
  refine (thead_some g F t _ H1.out s rest HL.out).mono ?_
  rintro e w2 ⟨rfl, hb⟩
  rw [show s.v = .agg #[.int .i64 s.I, .int .i64 s.R, .int .i64 s.D, .int .i64 s.B, .int .i64 s.G] from rfl]
  go_upto_region 2 with fail
  obtain ⟨W3, hW3⟩ : ∃ W3, w2.alloc (.cells #[.int .i64 s.I, .int .i64 s.R, .int .i64 s.D, .int .i64 s.B, .int .i64 s.G] 35) = W3 := ⟨_, rfl⟩
  have B3 := Lib.hid (show Below w.heap.size w W3 by rw [← hW3]; exact below_next (below_next B1.out hb) (wbox _ _))
  have P3 := Lib.hid (show Blk W3 35 w2.heap.size #[.int .i64 s.I, .int .i64 s.R, .int .i64 s.D, .int .i64 s.B, .int .i64 s.G] by rw [← hW3]; exact Blk.new w2 _ _)
  have p0 := P3.out.cell 0; have p1 := P3.out.cell 1; have p2 := P3.out.cell 2; have p3 := P3.out.cell 3; have p4 := P3.out.cell 4
  simp at p0 p1 p2 p3 p4
  obtain ⟨sb, v, hk, _⟩ := H1.out
  have c2 := ((hk.box.below hb).alloc (.cells #[.int .i64 s.I, .int .i64 s.R, .int .i64 s.D, .int .i64 s.B, .int .i64 s.G] 35)).cell 2
  simp only [tkC] at c2
  change _ = some (Value.bool t.early) at c2
  rw [hW3] at c2
  clear hk
  rw [he] at c2
  rw [hW3]
  clear hW3
  go_wp2
  exact bodyPost_ret (v := .tuple #[.int .i64 0, .bool true]) (by simp [results, Try.results24, go_sem]) rfl ⟨rfl, B3.out⟩
set_option maxHeartbeats 2000000 in
theorem twhen_late (h : HpT w g F t) (s : Sb) (rest : List Sb) (hl : t.l = s :: rest) (he : t.early = false) : Calls Try.prog 24 #[.pointer (some ⟨g, 0, none⟩)] w fun z w' => z = .returned (.tuple #[.int .i64 s.R, .bool true]) ∧ Below w.heap.size w w' := by
  have B1 := Lib.hid (Below.refl w.heap.size w)
  have H1 := Lib.hid h
  have HL := Lib.hid hl
  clear h hl
  go_enter Try.func24, Try.ntmps24
  go_wp2_with fail
  refine (thead_some g F t _ H1.out s rest HL.out).mono ?_
  rintro e w2 ⟨rfl, hb⟩
  rw [show s.v = .agg #[.int .i64 s.I, .int .i64 s.R, .int .i64 s.D, .int .i64 s.B, .int .i64 s.G] from rfl]
  go_upto_region 2 with fail
  obtain ⟨W3, hW3⟩ : ∃ W3, w2.alloc (.cells #[.int .i64 s.I, .int .i64 s.R, .int .i64 s.D, .int .i64 s.B, .int .i64 s.G] 35) = W3 := ⟨_, rfl⟩
  have B3 := Lib.hid (show Below w.heap.size w W3 by rw [← hW3]; exact below_next (below_next B1.out hb) (wbox _ _))
  have P3 := Lib.hid (show Blk W3 35 w2.heap.size #[.int .i64 s.I, .int .i64 s.R, .int .i64 s.D, .int .i64 s.B, .int .i64 s.G] by rw [← hW3]; exact Blk.new w2 _ _)
  have p0 := P3.out.cell 0; have p1 := P3.out.cell 1; have p2 := P3.out.cell 2; have p3 := P3.out.cell 3; have p4 := P3.out.cell 4
  simp at p0 p1 p2 p3 p4
  obtain ⟨sb, v, hk, _⟩ := H1.out
  have c2 := ((hk.box.below hb).alloc (.cells #[.int .i64 s.I, .int .i64 s.R, .int .i64 s.D, .int .i64 s.B, .int .i64 s.G] 35)).cell 2
  simp only [tkC] at c2
  change _ = some (Value.bool t.early) at c2
  rw [hW3] at c2
  clear hk
  rw [he] at c2
  rw [hW3]
  clear hW3
  go_wp2
  exact bodyPost_ret (v := .tuple #[.int .i64 s.R, .bool true]) (by simp [results, Try.results24, go_sem]) rfl ⟨rfl, B3.out⟩
theorem twhen_any (h : HpT w g F t) : Calls Try.prog 24 #[.pointer (some ⟨g, 0, none⟩)] w fun z w' => z = .returned (.tuple #[.int .i64 (whenV t), .bool (someB t)]) ∧ Below w.heap.size w w' := by
  rcases list_two t.l with hl | ⟨s, rest, hl⟩
  · obtain ⟨h1, h2⟩ := head_none hl
    have e : whenV t = 0 := by unfold whenV; rw [h1]; split <;> rfl
    rw [e, h2]
    exact twhen_none g F t w h hl
  · obtain ⟨h1, h2⟩ := head_some hl
    by_cases he : t.early = true
    · have e : whenV t = 0 := by unfold whenV; rw [if_pos he]
      rw [e, h2]
      exact twhen_early g F t w h s rest hl he
    · have e : whenV t = s.R := by unfold whenV; rw [if_neg he, h1]
      rw [e, h2]
      exact twhen_late g F t w h s rest hl (by simpa using he)
set_option maxHeartbeats 2000000 in
theorem tlast_nil (w : World) : Calls Try.prog 21 #[.pointer none] w fun z w' => z = .returned (.tuple #[sub0.v, .bool false]) ∧ Below w.heap.size w w' := by
  obtain ⟨W1, hW1⟩ : ∃ W1, w.alloc (.cells #[.int .i64 0, .int .i64 0, .int .i64 0, .int .i64 0, .int .i64 0] 35) = W1 := ⟨_, rfl⟩
  have B1 := Lib.hid (show Below w.heap.size w W1 by rw [← hW1]; exact wbox _ _)
  have N1 := Lib.hid (show Blk W1 35 w.heap.size #[.int .i64 0, .int .i64 0, .int .i64 0, .int .i64 0, .int .i64 0] by rw [← hW1]; exact Blk.new w _ _)
  have x0 := N1.out.cell 0; have x1 := N1.out.cell 1; have x2 := N1.out.cell 2; have x3 := N1.out.cell 3; have x4 := N1.out.cell 4
  have fx : ∀ o, W1.frozen? ⟨w.heap.size, o, none⟩ = false := fun o => N1.out.free o
  simp at x0 x1 x2 x3 x4
  have sz := N1.out.lt
  go_enter Try.func21, Try.ntmps21
  go_wp2_with fail
  refine (twaits_nil _).mono ?_
  rintro e w2 ⟨rfl, rfl⟩
  go_wp2_with fail
  refine (tdone_nil _).mono ?_
  rintro e w2 ⟨rfl, rfl⟩
  go_wp2
  exact bodyPost_ret (v := .tuple #[.agg #[.int .i64 0, .int .i64 0, .int .i64 0, .int .i64 0, .int .i64 0], .bool false]) (by simp [results, Try.results21, go_sem, x0, x1, x2, x3, x4]) rfl ⟨rfl, below_set5 B1.out (Nat.le_refl _)⟩
set_option maxHeartbeats 2000000 in
theorem tlast_none (h : HpT w g F t) (hl : t.l = []) (hd : t.done = 0) : Calls Try.prog 21 #[.pointer (some ⟨g, 0, none⟩)] w fun z w' => z = .returned (.tuple #[sub0.v, .bool false]) ∧ Below w.heap.size w w' := by
  obtain ⟨W1, hW1⟩ : ∃ W1, w.alloc (.cells #[.int .i64 0, .int .i64 0, .int .i64 0, .int .i64 0, .int .i64 0] 35) = W1 := ⟨_, rfl⟩
  have B1 := Lib.hid (show Below w.heap.size w W1 by rw [← hW1]; exact wbox _ _)
  have N1 := Lib.hid (show Blk W1 35 w.heap.size #[.int .i64 0, .int .i64 0, .int .i64 0, .int .i64 0, .int .i64 0] by rw [← hW1]; exact Blk.new w _ _)
  have x0 := N1.out.cell 0; have x1 := N1.out.cell 1; have x2 := N1.out.cell 2; have x3 := N1.out.cell 3; have x4 := N1.out.cell 4
  have fx : ∀ o, W1.frozen? ⟨w.heap.size, o, none⟩ = false := fun o => N1.out.free o
  simp at x0 x1 x2 x3 x4
  have sz := N1.out.lt
  have H1 := Lib.hid (h.below B1.out)
  have HL := Lib.hid (show (t.l.length : Int) = 0 by rw [hl]; rfl)
  have HD := Lib.hid hd
  clear h hl hd
  go_enter Try.func21, Try.ntmps21
  go_wp2_with fail
  refine (twaits_any g F t _ H1.out).mono ?_
  rintro e w2 ⟨rfl, rfl⟩
  rw [HL.out]
  go_wp2_with fail
  refine (tdone_any g F t _ H1.out).mono ?_
  rintro e w2 ⟨rfl, rfl⟩
  rw [HD.out]
  go_wp2
  exact bodyPost_ret (v := .tuple #[.agg #[.int .i64 0, .int .i64 0, .int .i64 0, .int .i64 0, .int .i64 0], .bool false]) (by simp [results, Try.results21, go_sem, x0, x1, x2, x3, x4]) rfl ⟨rfl, below_set5 B1.out (Nat.le_refl _)⟩
set_option maxHeartbeats 2000000 in
theorem tlast_ran (h : HpT w g F t) (hl : t.l = []) (hd : 0 < t.done) (s : Sb) (hs : t.ran = s) : Calls Try.prog 21 #[.pointer (some ⟨g, 0, none⟩)] w fun z w' => z = .returned (.tuple #[s.v, .bool true]) ∧ Below w.heap.size w w' := by
  obtain ⟨W1, hW1⟩ : ∃ W1, w.alloc (.cells #[.int .i64 0, .int .i64 0, .int .i64 0, .int .i64 0, .int .i64 0] 35) = W1 := ⟨_, rfl⟩
  have B1 := Lib.hid (show Below w.heap.size w W1 by rw [← hW1]; exact wbox _ _)
  have N1 := Lib.hid (show Blk W1 35 w.heap.size #[.int .i64 0, .int .i64 0, .int .i64 0, .int .i64 0, .int .i64 0] by rw [← hW1]; exact Blk.new w _ _)
  have x0 := N1.out.cell 0; have x1 := N1.out.cell 1; have x2 := N1.out.cell 2; have x3 := N1.out.cell 3; have x4 := N1.out.cell 4
  have fx : ∀ o, W1.frozen? ⟨w.heap.size, o, none⟩ = false := fun o => N1.out.free o
  simp at x0 x1 x2 x3 x4
  have sz := N1.out.lt
  have H1 := Lib.hid (h.below B1.out)
  have HL := Lib.hid (show (t.l.length : Int) = 0 by rw [hl]; rfl)
  obtain ⟨d, hd0⟩ : ∃ d, t.done = d := ⟨_, rfl⟩
  have HD := Lib.hid hd0
  have td : (d == 0) = false := by simp; omega
  obtain ⟨sb, v, hk, _⟩ := H1.out
  have y0 := hk.box.cell 5; have y1 := hk.box.cell 6; have y2 := hk.box.cell 7; have y3 := hk.box.cell 8; have y4 := hk.box.cell 9
  simp only [tkC, hs] at y0 y1 y2 y3 y4
  change _ = some (Value.int .i64 s.I) at y0
  change _ = some (Value.int .i64 s.R) at y1
  change _ = some (Value.int .i64 s.D) at y2
  change _ = some (Value.int .i64 s.B) at y3
  change _ = some (Value.int .i64 s.G) at y4
  clear h hl hd hk hd0 hs
  go_enter Try.func21, Try.ntmps21
  go_wp2_with fail
  refine (twaits_any g F t _ H1.out).mono ?_
  rintro e w2 ⟨rfl, rfl⟩
  rw [HL.out]
  go_wp2_with fail
  refine (tdone_any g F t _ H1.out).mono ?_
  rintro e w2 ⟨rfl, rfl⟩
  rw [HD.out]
  go_wp2
  exact bodyPost_ret (v := .tuple #[.agg #[.int .i64 s.I, .int .i64 s.R, .int .i64 s.D, .int .i64 s.B, .int .i64 s.G], .bool true]) (by simp [results, Try.results21, go_sem, x0, x1, x2, x3, x4]) rfl ⟨rfl, below_set5 B1.out (Nat.le_refl _)⟩
set_option maxHeartbeats 2000000 in
theorem tlast_some (h : HpT w g F t) (n : Nat) (hn : t.l.length = n + 1) (s : Sb) (hs : t.l[n]? = some s) : Calls Try.prog 21 #[.pointer (some ⟨g, 0, none⟩)] w fun z w' => z = .returned (.tuple #[s.v, .bool true]) ∧ Below w.heap.size w w' := by
  obtain ⟨W1, hW1⟩ : ∃ W1, w.alloc (.cells #[.int .i64 0, .int .i64 0, .int .i64 0, .int .i64 0, .int .i64 0] 35) = W1 := ⟨_, rfl⟩
  have B1 := Lib.hid (show Below w.heap.size w W1 by rw [← hW1]; exact wbox _ _)
  have N1 := Lib.hid (show Blk W1 35 w.heap.size #[.int .i64 0, .int .i64 0, .int .i64 0, .int .i64 0, .int .i64 0] by rw [← hW1]; exact Blk.new w _ _)
  have x0 := N1.out.cell 0; have x1 := N1.out.cell 1; have x2 := N1.out.cell 2; have x3 := N1.out.cell 3; have x4 := N1.out.cell 4
  have fx : ∀ o, W1.frozen? ⟨w.heap.size, o, none⟩ = false := fun o => N1.out.free o
  simp at x0 x1 x2 x3 x4
  have sz := N1.out.lt
  have H1 := Lib.hid (h.below B1.out)
  obtain ⟨sb, v, hk, hF⟩ := H1.out
  obtain ⟨bl, ol, cap, rfl, hat⟩ := QueS.at hk.que (i := n) (s := s) hs
  have HN := Lib.hid (show (t.l.length : Int) = ((n + 1 : Nat) : Int) by rw [hn])
  have fw := hk.good.few
  have y0 := hat.c0; have y1 := hat.c1; have y2 := hat.c2; have y3 := hat.c3; have y4 := hat.c4
  have c4 := hk.box.cell 4
  simp only [tkC, hn] at c4
  change _ = some (Value.slice (some ⟨bl, ol, none⟩) (n + 1) cap) at c4
  rw [hn] at fw
  obtain ⟨m, hm⟩ : ∃ m, n + 1 = m := ⟨_, rfl⟩
  rw [hm] at c4 fw HN
  have HL := HN
  have n2 : decide ((0 : Int) < (m : Int)) = true := by simp; omega
  have n3 : IntKind.i64.wrap ((m : Int) - 1) = (n : Int) := by rw [show (m : Int) - 1 = (n : Int) by omega]; exact IntWalk.i64_in _ (by omega)
  have n4 : n < m := by omega
  clear hk hF hat hs h hn
  go_enter Try.func21, Try.ntmps21
  go_wp2_with fail
  refine (twaits_any g F t _ H1.out).mono ?_
  rintro e w2 ⟨rfl, rfl⟩
  rw [HL.out]
  go_wp2
  exact bodyPost_ret (v := .tuple #[.agg #[.int .i64 s.I, .int .i64 s.R, .int .i64 s.D, .int .i64 s.B, .int .i64 s.G], .bool true]) (by simp [results, Try.results21, go_sem, x0, x1, x2, x3, x4]) rfl ⟨rfl, below_set5 B1.out (Nat.le_refl _)⟩
theorem tlast_any (h : HpT w g F t) : Calls Try.prog 21 #[.pointer (some ⟨g, 0, none⟩)] w fun z w' => z = .returned (.tuple #[(lastS t).v, .bool (lastB t)]) ∧ Below w.heap.size w w' := by
  by_cases h0 : 0 < t.l.length
  · obtain ⟨n, hn⟩ : ∃ n, t.l.length = n + 1 := ⟨t.l.length - 1, by omega⟩
    have e2 : lastB t = true := by simp [lastB, h0]
    have hs : t.l[n]? = some (t.l.getLastD sub0) := by
      have : t.l ≠ [] := by intro q; rw [q] at h0; simp at h0
      rw [List.getLastD_eq_getLast?, List.getLast?_eq_getElem?, hn]
      simp [List.getElem?_eq_getElem (show n < t.l.length by omega)]
    have e1 : lastS t = t.l.getLastD sub0 := by unfold lastS; rw [if_pos h0]
    rw [e1, e2]
    exact tlast_some g F t w h n hn _ hs
  · have hl : t.l = [] := List.eq_nil_of_length_eq_zero (by omega)
    have e1 : lastS t = t.ran := by unfold lastS; rw [if_neg h0]
    by_cases hd : 0 < t.done
    · have e2 : lastB t = true := by simp [lastB, hd]
      rw [e1, e2]
      exact tlast_ran g F t w h hl hd _ rfl
    · have hg := h.good
      have hd' : t.done = 0 := by have := hg.done0; omega
      have e2 : lastB t = false := by simp [lastB, hl, hd']
      rw [e1, e2, hg.ran0 hd']
      exact tlast_none g F t w h hl hd'
theorem below_set2 {w W : World} {g : Nat} {u v : Value} (h : Below w.heap.size w W) (hg : w.heap.size ≤ g) : Below w.heap.size w ((W.setCell ⟨g, 0, none⟩ u).setCell ⟨g, 1, none⟩ v) := (h.setCell hg _).setCell hg _
theorem tweight_nil (w : World) : Calls Try.prog 27 #[.pointer none] w fun z w' => z = .returned (.agg #[.int .i64 0, .int .i64 0]) ∧ Below w.heap.size w w' := by
  obtain ⟨W1, hW1⟩ : ∃ W1, w.alloc (.cells #[.int .i64 0, .int .i64 0] 26) = W1 := ⟨_, rfl⟩
  have B1 := Lib.hid (show Below w.heap.size w W1 by rw [← hW1]; exact wbox _ _)
  have N1 := Lib.hid (show Blk W1 26 w.heap.size #[.int .i64 0, .int .i64 0] by rw [← hW1]; exact Blk.new w _ _)
  have x0 := N1.out.cell 0; have x1 := N1.out.cell 1
  have fx : ∀ o, W1.frozen? ⟨w.heap.size, o, none⟩ = false := fun o => N1.out.free o
  simp at x0 x1
  have sz := N1.out.lt
  go_enter Try.func27, Try.ntmps27
  go_wp2
  exact bodyPost_ret (v := .agg #[.int .i64 0, .int .i64 0]) (by simp [results, Try.results27, go_sem, x0, x1]) rfl ⟨rfl, below_set2 B1.out (Nat.le_refl _)⟩
theorem tweight_any (h : HpT w g F t) : Calls Try.prog 27 #[.pointer (some ⟨g, 0, none⟩)] w fun z w' => z = .returned (.agg #[.int .i64 t.E, .int .i64 t.P]) ∧ Below w.heap.size w w' := by
  obtain ⟨W1, hW1⟩ : ∃ W1, w.alloc (.cells #[.int .i64 0, .int .i64 0] 26) = W1 := ⟨_, rfl⟩
  have B1 := Lib.hid (show Below w.heap.size w W1 by rw [← hW1]; exact wbox _ _)
  have N1 := Lib.hid (show Blk W1 26 w.heap.size #[.int .i64 0, .int .i64 0] by rw [← hW1]; exact Blk.new w _ _)
  have x0 := N1.out.cell 0; have x1 := N1.out.cell 1
  have fx : ∀ o, W1.frozen? ⟨w.heap.size, o, none⟩ = false := fun o => N1.out.free o
  simp at x0 x1
  have sz := N1.out.lt
  obtain ⟨s, v, h, _⟩ := h.below B1.out
  have c0 := h.box.cell 0; have c1 := h.box.cell 1
  simp [tkC] at c0 c1
  clear h
  go_enter Try.func27, Try.ntmps27
  go_wp2
  exact bodyPost_ret (v := .agg #[.int .i64 t.E, .int .i64 t.P]) (by simp [results, Try.results27, go_sem, x0, x1]) rfl ⟨rfl, below_set2 B1.out (Nat.le_refl _)⟩
end
end Go.Proofs.Ythaoijmjkmgebaa
