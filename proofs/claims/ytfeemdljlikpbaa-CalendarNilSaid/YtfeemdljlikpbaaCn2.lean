/-
  The walk of the law CalendarNil.
-/
import Derived.Test.YtfeemdljlikpbaaCn1
namespace Go.Proofs.Ytfeemdljlikpbaa
open Go.RowKit Go.Maps

theorem bad_ways (e : Ev) : (BadE e ∧ decide (0 ≤ e.i) = false) ∨ (BadE e ∧ decide (0 ≤ e.i) = true ∧ decide (e.i < 1024) = false) ∨ (BadE e ∧ decide (0 ≤ e.i) = true ∧ decide (e.i < 1024) = true ∧ decide (0 ≤ e.k) = false) ∨ (BadE e ∧ decide (0 ≤ e.i) = true ∧ decide (e.i < 1024) = true ∧ decide (0 ≤ e.k) = true ∧ decide (e.k < 8) = false) ∨ (BadE e ∧ decide (0 ≤ e.i) = true ∧ decide (e.i < 1024) = true ∧ decide (0 ≤ e.k) = true ∧ decide (e.k < 8) = true ∧ decide (0 ≤ e.d) = false) ∨ (¬ BadE e ∧ decide (0 ≤ e.i) = true ∧ decide (e.i < 1024) = true ∧ decide (0 ≤ e.k) = true ∧ decide (e.k < 8) = true ∧ decide (0 ≤ e.d) = true) := by
  simp only [decide_eq_true_eq, decide_eq_false_iff_not]
  unfold BadE
  omega
set_option maxRecDepth 20000 in
set_option maxHeartbeats 8000000 in
theorem cnil_walk (e : Ev) (w : World) : Calls Try.prog 6 #[.agg #[.int .i64 e.d, .int .i64 e.i, .int .i64 e.k]] w fun z w' => z = .returned (.bool true) ∧ Below w.heap.size w w' := by
  obtain ⟨W0, hW0⟩ : ∃ W0, w.alloc (.cells #[.int .i64 e.d, .int .i64 e.i, .int .i64 e.k] 31) = W0 := ⟨_, rfl⟩
  have B0 := Lib.hid (show Below w.heap.size w W0 by rw [← hW0]; exact wbox _ _)
  have E0 := Lib.hid (show Blk W0 31 w.heap.size #[.int .i64 e.d, .int .i64 e.i, .int .i64 e.k] by rw [← hW0]; exact Blk.new w _ _)
  obtain ⟨W1, hW1⟩ : ∃ W1, W0.alloc (.cells #[.pointer none] 53) = W1 := ⟨_, rfl⟩
  have B1 := Lib.hid (show Below w.heap.size w W1 by rw [← hW1]; exact below_next B0.out (wbox _ _))
  have E1 := Lib.hid (show Blk W1 31 w.heap.size #[.int .i64 e.d, .int .i64 e.i, .int .i64 e.k] by rw [← hW1]; exact E0.out.alloc _)
  have O1 := Lib.hid (nilC_zero (show Blk W1 53 W0.heap.size #[.pointer none] by rw [← hW1]; exact Blk.new _ _ _))
  have W := Lib.hid (bad_ways e)
  go_enter Try.func6, Try.ntmps6
  go_wp2_with fail
  refine (m8new calOk W1 (Below.refl _ _)).mono ?_
  rintro z w2 ⟨g, rfl, hm⟩
  have M2 := Lib.hid hm
  clear hm hW0 hW1
  go_wp2_with fail
  refine (zdrop_one _ _ (nilC_none _)).mono ?_
  rintro z w3 ⟨rfl, hb⟩
  have M3 := Lib.hid (M2.out.next calOk (below_next hb (wbox w3 (Obj.cells #[.int .i64 0, .int .i64 0, .int .i64 0] 31))))
  clear hb
  go_wp2_with fail
  refine (znext_any _ _ (O1.out.next M3.out.below)).mono ?_
  rintro z w4 ⟨rfl, hb⟩
  have M4 := Lib.hid (M3.out.next calOk (below_next hb (wbox w4 (Obj.cells #[.int .i64 0, .int .i64 0, .int .i64 0] 31))))
  clear hb
  go_wp2_with fail
  refine (zat_one _ _ (nilC_none _)).mono ?_
  rintro z w5 ⟨rfl, hb⟩
  have M5 := Lib.hid (M4.out.next calOk hb)
  clear hb
  have E5 := Lib.hid (E1.out.below M5.out.below)
  have e0 := E5.out.cell 0; have e1 := E5.out.cell 1; have e2 := E5.out.cell 2
  simp only [List.getElem?_toArray, List.getElem?_cons_zero, List.getElem?_cons_succ] at e0 e1 e2
  obtain ⟨n0, hn0⟩ : ∃ n0, w.heap.size = n0 := ⟨_, rfl⟩
  have NN := Lib.hid hn0
  rw [hn0] at e0 e1 e2 E1 ⊢
  clear hn0
  have pl : placeV [] e.i e.k = -1 := rfl
  have PB := Lib.hid (fun (hb : BadE e) => (m8put calOk g [] e M5.out (by decide)).mono (R' := fun z w' => z = .returned (.int .i64 1) ∧ Below W1.heap.size W1 w') fun z w' h => by
    rcases h with ⟨_, h, hm, _⟩ | ⟨h, _⟩ | ⟨h, _⟩
    · exact ⟨h, hm.below⟩
    · exact absurd hb h
    · exact absurd hb h)
  have PG := Lib.hid (fun (hb : ¬ BadE e) => (m8put calOk g [] e M5.out (by decide)).mono (R' := fun z w' => z = .returned (.int .i64 0) ∧ Below W1.heap.size W1 w') fun z w' h => by
    rcases h with ⟨h, _⟩ | ⟨_, h, _⟩ | ⟨_, _, h, hm, _⟩
    · exact absurd h hb
    · omega
    · exact ⟨h, hm.below⟩)
  clear pl
  have WW := W.out
  rcases WW with ⟨hb, b1⟩ | ⟨hb, b1, b2⟩ | ⟨hb, b1, b2, b3⟩ | ⟨hb, b1, b2, b3, b4⟩ | ⟨hb, b1, b2, b3, b4, b5⟩ | ⟨hb, b1, b2, b3, b4, b5⟩
  all_goals
    have HB := Lib.hid hb
    clear hb
    go_wp2_with fail
    first
      | refine (PB.out HB.out).mono ?_
      | refine (PG.out HB.out).mono ?_
    rintro z w6 ⟨rfl, hb⟩
    have B6 := Lib.hid hb
    clear hb e0 e1 e2
    go_wp2_with fail
    refine (l8awake calOk _).mono ?_
    rintro z w7 ⟨rfl, hb⟩
    have B7 := Lib.hid (below_next B6.out hb)
    clear hb
    have E7 := Lib.hid (E1.out.below B7.out)
    have e0 := E7.out.cell 0; have e1 := E7.out.cell 1; have e2 := E7.out.cell 2
    simp only [List.getElem?_toArray, List.getElem?_cons_zero, List.getElem?_cons_succ] at e0 e1 e2
    go_wp2_with fail
    refine (zput_any _ e _ (nilC_none _)).mono ?_
    rintro z w8 ⟨rfl, hb⟩
    have B8 := Lib.hid (below_next B7.out hb)
    clear hb e0 e1 e2
    have E8 := Lib.hid (E1.out.below B8.out)
    have e0 := E8.out.cell 0; have e1 := E8.out.cell 1; have e2 := E8.out.cell 2
    simp only [List.getElem?_toArray, List.getElem?_cons_zero, List.getElem?_cons_succ] at e0 e1 e2
    go_wp2_with fail
    refine (zput_any _ e _ (O1.out.next B8.out)).mono ?_
    rintro z w9 ⟨rfl, hb⟩
    have B9 := Lib.hid (below_next B8.out hb)
    clear hb e0 e1 e2
    go_wp2_with fail
    refine (zdue_any _ 9 _ (nilC_none _)).mono ?_
    rintro z wa ⟨rfl, hb⟩
    have Ba := Lib.hid (below_next B9.out hb)
    clear hb
    go_wp2_with fail
    refine (zdue_any _ 9 _ (O1.out.next Ba.out)).mono ?_
    rintro z wb ⟨rfl, hb⟩
    have Bb := Lib.hid (below_next Ba.out hb)
    clear hb
    go_wp2_with fail
    refine (zlen_any _ _ (nilC_none _)).mono ?_
    rintro z wc ⟨rfl, hb⟩
    have Bc := Lib.hid (below_next Bb.out hb)
    clear hb
    go_wp2_with fail
    refine (zlen_any _ _ (O1.out.next Bc.out)).mono ?_
    rintro z wd ⟨rfl, hb⟩
    have Bd := Lib.hid (below_next Bc.out hb)
    clear hb
    go_wp2
    go_ret
    exact ⟨rfl, NN.out ▸ below_next B1.out Bd.out⟩
end Go.Proofs.Ytfeemdljlikpbaa
