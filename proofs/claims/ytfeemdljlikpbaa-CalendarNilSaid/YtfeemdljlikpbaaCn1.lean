/-
  Package calendar as landed: of no calendar, and of a zero one; CalendarNil's walk.
-/
import Derived.Test.YtfeemdljlikpbaaCz6
namespace Go.Proofs.Ytfeemdljlikpbaa
open Go.RowKit Go.Maps

theorem shut_nilpE (w : World) : Calls Try.prog 35 #[.pointer none] w fun e w' => e = .returned (.bool true) ∧ w = w' := by
  go_enter Try.func35, Try.ntmps35
  go_wp2
  go_ret
  exact ⟨rfl, rfl⟩
theorem len_nilpE (w : World) : Calls Try.prog 34 #[.pointer none] w fun e w' => e = .returned (.int .i64 0) ∧ w = w' := by
  go_enter Try.func34, Try.ntmps34
  go_wp2
  go_ret
  exact ⟨rfl, rfl⟩
set_option maxHeartbeats 2000000 in
theorem min_nilpE (w : World) : Calls Try.prog 29 #[.pointer none] w fun e w' => e = .returned (.tuple #[.int .i64 0, .agg #[.int .i64 0, .int .i64 0, .int .i64 0], .bool false]) ∧ Below w.heap.size w w' := by
  obtain ⟨W1, hW1⟩ : ∃ W1, w.alloc (.cells #[.int .i64 0, .int .i64 0, .int .i64 0] 31) = W1 := ⟨_, rfl⟩
  have B1 := Lib.hid (show Below w.heap.size w W1 by rw [← hW1]; exact wbox _ _)
  have X1 := Lib.hid (show Blk W1 31 w.heap.size #[.int .i64 0, .int .i64 0, .int .i64 0] by rw [← hW1]; exact Blk.new _ _ _)
  have x0 := X1.out.cell 0
  have x1 := X1.out.cell 1
  have x2 := X1.out.cell 2
  have fx : ∀ o, W1.frozen? ⟨w.heap.size, o, none⟩ = false := fun o => X1.out.free o
  simp at x0 x1 x2
  go_enter Try.func29, Try.ntmps29
  go_wp2_with fail
  refine (len_nilpE _).mono ?_
  rintro e w1 ⟨rfl, rfl⟩
  go_wp2_with fail
  go_region
  all_goals
    go_wp2
    exact bodyPost_ret (v := .tuple #[.int .i64 0, .agg #[.int .i64 0, .int .i64 0, .int .i64 0], .bool false]) (by simp [results, Try.results29, go_sem, x0, x1, x2]) rfl ⟨rfl, (((B1.out.setCell (by simp) _).setCell (by simp) _).setCell (by simp) _).drew⟩
theorem remove_nilpE (id : Int) (w : World) : Calls Try.prog 27 #[.pointer none, .int .i64 id] w fun e w' => e = .returned (.tuple #[.agg #[.int .i64 0, .int .i64 0, .int .i64 0], .bool false]) ∧ Below w.heap.size w w' := by
  obtain ⟨W2, hW2, hB, hA, hN⟩ := two_evE w
  have B2 := Lib.hid hB
  have A2 := Lib.hid hA
  have x0 := hA.cell 0
  have x1 := hA.cell 1
  have x2 := hA.cell 2
  have fx : ∀ o, W2.frozen? ⟨w.heap.size, o, none⟩ = false := fun o => A2.out.free o
  have y0 := hN.cell 0
  have y1 := hN.cell 1
  have y2 := hN.cell 2
  simp at x0 x1 x2 y0 y1 y2
  clear hB hA hN
  go_enter Try.func27, Try.ntmps27
  go_wp2_with fail
  refine (shut_nilpE _).mono ?_
  rintro e w1 ⟨rfl, rfl⟩
  go_wp2
  exact bodyPost_ret (v := .tuple #[.agg #[.int .i64 0, .int .i64 0, .int .i64 0], .bool false]) (by simp [results, Try.results27, go_sem, x0, x1, x2]) rfl ⟨rfl, ((B2.out.setCell (by simp) _).setCell (by simp) _).setCell (by simp) _⟩
theorem get_nilpE (id : Int) (w : World) : Calls Try.prog 31 #[.pointer none, .int .i64 id] w fun e w' => e = .returned (.tuple #[.agg #[.int .i64 0, .int .i64 0, .int .i64 0], .bool false]) ∧ Below w.heap.size w w' := by
  obtain ⟨W2, hW2, hB, hA, hN⟩ := two_evE w
  have B2 := Lib.hid hB
  have A2 := Lib.hid hA
  have x0 := hA.cell 0
  have x1 := hA.cell 1
  have x2 := hA.cell 2
  have fx : ∀ o, W2.frozen? ⟨w.heap.size, o, none⟩ = false := fun o => A2.out.free o
  have y0 := hN.cell 0
  have y1 := hN.cell 1
  have y2 := hN.cell 2
  simp at x0 x1 x2 y0 y1 y2
  clear hB hA hN
  go_enter Try.func31, Try.ntmps31
  go_wp2
  exact bodyPost_ret (v := .tuple #[.agg #[.int .i64 0, .int .i64 0, .int .i64 0], .bool false]) (by simp [results, Try.results31, go_sem, x0, x1, x2]) rfl ⟨rfl, ((B2.out.setCell (by simp) _).setCell (by simp) _).setCell (by simp) _⟩
/-- a calendar without a heap: no one, or a zero one -/
def NilC (p : Value) (w : World) : Prop := ∀ w', Below w.heap.size w w' → Calls Try.prog 26 #[p] w' fun e w'' => e = .returned (.agg #[.pointer none]) ∧ Below w'.heap.size w' w''
theorem NilC.next {p : Value} {w w' : World} (h : NilC p w) (k : Below w.heap.size w w') : NilC p w' := fun w'' k' => h w'' (below_next k k')
theorem NilC.at {p : Value} {w : World} (h : NilC p w) : Calls Try.prog 26 #[p] w fun e w'' => e = .returned (.agg #[.pointer none]) ∧ Below w.heap.size w w'' := h w (Below.refl _ _)
theorem nilC_none (w : World) : NilC (.pointer none) w := fun w _ => by
  obtain ⟨W1, hW1⟩ : ∃ W1, w.alloc (.cells #[.pointer none] 51) = W1 := ⟨_, rfl⟩
  have B1 := Lib.hid (show Below w.heap.size w W1 by rw [← hW1]; exact wbox _ _)
  have X1 := Lib.hid (show Blk W1 51 w.heap.size #[.pointer none] by rw [← hW1]; exact Blk.new _ _ _)
  have x0 := X1.out.cell 0
  have fx : ∀ o, W1.frozen? ⟨w.heap.size, o, none⟩ = false := fun o => X1.out.free o
  simp at x0
  go_enter Try.func26, Try.ntmps26
  go_wp2
  exact bodyPost_ret (v := .agg #[.pointer none]) (by simp [results, Try.results26, go_sem, x0]) rfl ⟨rfl, B1.out.setCell (by simp) _⟩
theorem nilC_zero {g : Nat} {w : World} (hb : Blk w 53 g #[.pointer none]) : NilC (.pointer (some ⟨g, 0, none⟩)) w := fun w' k => all_any g (.pointer none) none rfl w' (hb.below k)
set_option maxHeartbeats 2000000 in
theorem znext_any (p : Value) (w : World) (h : NilC p w) : Calls Try.prog 16 #[p] w fun z w' => z = .returned (.tuple #[.agg #[.int .i64 0, .int .i64 0, .int .i64 0], .bool false]) ∧ Below w.heap.size w w' := by
  have hw := within_run
  obtain ⟨W1, hW1⟩ : ∃ W1, w.alloc (.cells #[.int .i64 0, .int .i64 0, .int .i64 0] 31) = W1 := ⟨_, rfl⟩
  have B1 := Lib.hid (show Below w.heap.size w W1 by rw [← hW1]; exact wbox _ _)
  have X1 := Lib.hid (show Blk W1 31 w.heap.size #[.int .i64 0, .int .i64 0, .int .i64 0] by rw [← hW1]; exact Blk.new _ _ _)
  have NC := Lib.hid (h.next B1.out)
  clear h
  go_enter Try.func16, Try.ntmps16
  go_wp2_with fail
  refine NC.out.at.mono ?_
  rintro e w2 ⟨rfl, hb⟩
  have B2 := Lib.hid (below_next B1.out hb)
  have X2 := Lib.hid (X1.out.below hb)
  clear hb
  go_wp2_with fail
  refine (min_nilpE _).mono ?_
  rintro e w3 ⟨rfl, hb⟩
  obtain ⟨W4, hW4⟩ : ∃ W4, w3.alloc (.cells #[.int .i64 0, .int .i64 0, .int .i64 0] 31) = W4 := ⟨_, rfl⟩
  have B4 := Lib.hid (show Below w.heap.size w W4 by rw [← hW4]; exact below_next (below_next B2.out hb) (wbox _ _))
  have X4 := Lib.hid (show Blk W4 31 w.heap.size #[.int .i64 0, .int .i64 0, .int .i64 0] by rw [← hW4]; exact (X2.out.below hb).alloc _)
  have Y4 := Lib.hid (show Blk W4 31 w3.heap.size #[.int .i64 0, .int .i64 0, .int .i64 0] by rw [← hW4]; exact Blk.new _ _ _)
  have sz : w.heap.size < w3.heap.size := (X2.out.below hb).lt
  have SZ := Lib.hid (Nat.le_of_lt sz)
  have n1 : ¬ w.heap.size = w3.heap.size := by omega
  have n2 : ¬ w3.heap.size = w.heap.size := by omega
  have x0 := X4.out.cell 0; have x1 := X4.out.cell 1; have x2 := X4.out.cell 2
  have y0 := Y4.out.cell 0; have y1 := Y4.out.cell 1; have y2 := Y4.out.cell 2
  have fx : ∀ o, W4.frozen? ⟨w.heap.size, o, none⟩ = false := fun o => X4.out.free o
  have fy : ∀ o, W4.frozen? ⟨w3.heap.size, o, none⟩ = false := fun o => Y4.out.free o
  simp at x0 x1 x2 y0 y1 y2
  clear hb sz
  go_wp2
  exact bodyPost_ret (v := .tuple #[.agg #[.int .i64 0, .int .i64 0, .int .i64 0], .bool false]) (by simp [results, Try.results16, go_sem, x0, x1, x2]) rfl ⟨rfl, (((((B4.out.setCell SZ.out _).setCell SZ.out _).setCell SZ.out _).setCell (by simp) _).setCell (by simp) _).setCell (by simp) _⟩
theorem zat_one (p : Value) (w : World) (h : NilC p w) : Calls Try.prog 17 #[p, .int .i64 1, .int .i64 1] w fun z w' => z = .returned (.tuple #[.int .i64 0, .bool false]) ∧ Below w.heap.size w w' := by
  have hw := within_run
  have NC := Lib.hid h
  clear h
  go_enter Try.func17, Try.ntmps17
  go_wp2_with fail
  refine (may_yes (i := 1) (k := 1) (by decide) (by decide) (by decide) (by decide) _).mono ?_
  rintro e w1 ⟨rfl, rfl⟩
  go_wp2_with fail
  refine NC.out.at.mono ?_
  rintro e w2 ⟨rfl, hb⟩
  have B2 := Lib.hid hb
  clear hb
  go_wp2_with fail
  refine (number_any 1 1 _ (by decide) (by decide) (by decide) (by decide)).mono ?_
  rintro e w3 ⟨rfl, rfl⟩
  go_wp2_with fail
  refine (get_nilpE _ _).mono ?_
  rintro e w3 ⟨rfl, hb⟩
  have SZ := Lib.hid (below_next B2.out hb).size
  have B4 := Lib.hid (below_next (below_next B2.out hb) (wbox w3 (Obj.cells #[.int .i64 0, .int .i64 0, .int .i64 0] 31)))
  clear hb
  go_wp2
  go_ret2
  exact ⟨rfl, B4.out⟩
theorem zdrop_one (p : Value) (w : World) (h : NilC p w) : Calls Try.prog 11 #[p, .int .i64 1, .int .i64 1] w fun z w' => z = .returned (.tuple #[.agg #[.int .i64 0, .int .i64 0, .int .i64 0], .bool false]) ∧ Below w.heap.size w w' := by
  have hw := within_run
  obtain ⟨W1, hW1⟩ : ∃ W1, w.alloc (.cells #[.int .i64 0, .int .i64 0, .int .i64 0] 31) = W1 := ⟨_, rfl⟩
  have B1 := Lib.hid (show Below w.heap.size w W1 by rw [← hW1]; exact wbox _ _)
  have X1 := Lib.hid (show Blk W1 31 w.heap.size #[.int .i64 0, .int .i64 0, .int .i64 0] by rw [← hW1]; exact Blk.new _ _ _)
  have NC := Lib.hid (h.next B1.out)
  clear h
  go_enter Try.func11, Try.ntmps11
  go_wp2_with fail
  refine (may_yes (i := 1) (k := 1) (by decide) (by decide) (by decide) (by decide) _).mono ?_
  rintro e w1 ⟨rfl, rfl⟩
  go_wp2_with fail
  refine NC.out.at.mono ?_
  rintro e w2 ⟨rfl, hb⟩
  have B2 := Lib.hid (below_next B1.out hb)
  have X2 := Lib.hid (X1.out.below hb)
  clear hb
  go_wp2_with fail
  refine (number_any 1 1 _ (by decide) (by decide) (by decide) (by decide)).mono ?_
  rintro e w3 ⟨rfl, rfl⟩
  go_wp2_with fail
  refine (remove_nilpE _ _).mono ?_
  rintro e w3 ⟨rfl, hb⟩
  have B3 := Lib.hid (below_next B2.out hb)
  have X3 := Lib.hid (X2.out.below hb)
  have x0 := X3.out.cell 0; have x1 := X3.out.cell 1; have x2 := X3.out.cell 2
  have fx : ∀ o, w3.frozen? ⟨w.heap.size, o, none⟩ = false := fun o => X3.out.free o
  simp at x0 x1 x2
  clear hb
  go_wp2
  exact bodyPost_ret (v := .tuple #[.agg #[.int .i64 0, .int .i64 0, .int .i64 0], .bool false]) (by simp [results, Try.results11, go_sem, x0, x1, x2]) rfl ⟨rfl, ((B3.out.setCell (by simp) _).setCell (by simp) _).setCell (by simp) _⟩
theorem zlen_any (p : Value) (w : World) (h : NilC p w) : Calls Try.prog 21 #[p] w fun z w' => z = .returned (.int .i64 0) ∧ Below w.heap.size w w' := by
  have hw := within_run
  have NC := Lib.hid h
  clear h
  go_enter Try.func21, Try.ntmps21
  go_wp2_with fail
  refine NC.out.at.mono ?_
  rintro e w2 ⟨rfl, hb⟩
  have B2 := Lib.hid hb
  clear hb
  go_wp2_with fail
  refine (len_nilpE _).mono ?_
  rintro e w3 ⟨rfl, rfl⟩
  go_wp2
  go_ret
  exact ⟨rfl, B2.out⟩
theorem zput_any (p : Value) (e : Ev) (w : World) (h : NilC p w) : Calls Try.prog 19 #[p, .agg #[.int .i64 e.d, .int .i64 e.i, .int .i64 e.k]] w fun z w' => z = .returned (.int .i64 1) ∧ Below w.heap.size w w' := by
  obtain ⟨W1, hW1⟩ : ∃ W1, w.alloc (.cells #[.int .i64 e.d, .int .i64 e.i, .int .i64 e.k] 31) = W1 := ⟨_, rfl⟩
  have B1 := Lib.hid (show Below w.heap.size w W1 by rw [← hW1]; exact wbox _ _)
  have NC := Lib.hid (h.next B1.out)
  clear h
  go_enter Try.func19, Try.ntmps19
  go_wp2_with fail
  refine NC.out.at.mono ?_
  rintro z w2 ⟨rfl, hb⟩
  have B2 := Lib.hid (below_next (below_next B1.out hb) (wbox w2 (Obj.cells #[.pointer none] 51)))
  clear hb
  go_wp2
  go_ret
  exact ⟨rfl, B2.out⟩
theorem zdue_any (p : Value) (t : Int) (w : World) (h : NilC p w) : Calls Try.prog 14 #[p, .int .i64 t] w fun z w' => z = .returned (.slice none 0 0) ∧ Below w.heap.size w w' := by
  have NC := Lib.hid h
  clear h
  go_enter Try.func14, Try.ntmps14
  go_wp2_with fail
  go_step3
  go_wp2_with fail
  refine NC.out.at.mono ?_
  rintro z w2 ⟨rfl, hb⟩
  have B2 := Lib.hid (below_next hb (wbox w2 (Obj.cells #[.pointer none] 51)))
  clear hb
  go_wp2_with fail
  go_step3
  go_wp2
  go_loopw [6] (fun v wr => v = .slice none 0 0 ∧ wr = w2.alloc (Obj.cells #[.pointer none] 51)) (fun _ _ => 0)
  case atStart => exact ⟨rfl, rfl⟩
  case round =>
    obtain ⟨rfl, rfl⟩ := hrel
    go_wp2_with fail
    refine (min_nilpE _).mono ?_
    rintro z w3 ⟨rfl, hb⟩
    have B3 := Lib.hid (below_next (below_next B2.out hb) (wbox w3 (Obj.cells #[.int .i64 0, .int .i64 0, .int .i64 0] 31)))
    clear hb
    go_wp2
    rw [Exit.noGoto_ret]
    go_ret
    exact ⟨rfl, B3.out⟩
end Go.Proofs.Ytfeemdljlikpbaa
