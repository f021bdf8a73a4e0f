/-
  What package window's own functions give back: contracts.
-/
import Derived.Test.YtgfhlllddfdapaaWin4
namespace Go.Proofs.Ytgfhlllddfdapaa
open Go.RowKit

theorem wcheck_any (E P : Int) (w : World) (t : Bool) (ht : t = true ↔ MayBe E P) :
    Calls Try.prog 17 #[.agg #[.int .i64 E, .int .i64 P]] w fun e w' => e = .returned (.bool t) ∧ Below w.heap.size w w' := by
  unfold MayBe at ht
  by_cases h1 : 1 ≤ E
  · have b1 : decide (1 ≤ E) = true := by simp; omega
    by_cases h2 : E ≤ P
    · have b2 : decide (E ≤ P) = true := by simp; omega
      by_cases h3 : P ≤ 1048576
      · have b3 : decide (P ≤ 1048576) = true := by simp; omega
        obtain rfl : t = true := ht.mpr ⟨h1, h2, h3⟩
        clear ht
        go_enter Try.func17, Try.ntmps17
        go_wp2
        go_ret
        exact ⟨rfl, wbox _ _⟩
      · have b3 : decide (P ≤ 1048576) = false := by simp; omega
        obtain rfl : t = false := by cases t; rfl; exact absurd (ht.mp rfl) (by omega)
        clear ht
        go_enter Try.func17, Try.ntmps17
        go_wp2
        go_ret
        exact ⟨rfl, wbox _ _⟩
    · have b2 : decide (E ≤ P) = false := by simp; omega
      obtain rfl : t = false := by cases t; rfl; exact absurd (ht.mp rfl) (by omega)
      clear ht
      go_enter Try.func17, Try.ntmps17
      go_wp2
      go_ret
      exact ⟨rfl, wbox _ _⟩
  · have b1 : decide (1 ≤ E) = false := by simp; omega
    obtain rfl : t = false := by cases t; rfl; exact absurd (ht.mp rfl) (by omega)
    clear ht
    go_enter Try.func17, Try.ntmps17
    go_wp2
    go_ret
    exact ⟨rfl, wbox _ _⟩
theorem wcheck_yes (E P : Int) (w : World) (hM : MayBe E P) :
    Calls Try.prog 17 #[.agg #[.int .i64 E, .int .i64 P]] w fun e w' => e = .returned (.bool true) ∧ Below w.heap.size w w' := wcheck_any E P w true ⟨fun _ => hM, fun _ => rfl⟩
theorem wheavy_yes (E P : Int) (w : World) (hM : MayBe E P) (t : Bool) (ht : t = decide (P ≤ 2 * E)) :
    Calls Try.prog 15 #[.agg #[.int .i64 E, .int .i64 P]] w fun e w' => e = .returned (.bool t) ∧ Below w.heap.size w w' := by
  have HM := Lib.hid hM
  have T := Lib.hid ht
  have K := Lib.hid (Blk.new w 25 #[Value.int .i64 E, Value.int .i64 P])
  clear hM ht
  go_enter Try.func15, Try.ntmps15
  go_wp2_with fail
  refine (wcheck_yes E P _ HM.out).mono ?_
  rintro e w1 ⟨rfl, hb⟩
  have B := Lib.hid (below_next (wbox _ _) hb)
  have k0 := (K.out.below hb).cell 0
  have k1 := (K.out.below hb).cell 1
  simp at k0 k1
  clear hb
  go_wp2_with fail
  refine (mheavy_any E P _ HM.out t T.out).mono ?_
  rintro e w2 ⟨rfl, hb⟩
  have B := Lib.hid (below_next B.out hb)
  clear hb
  go_wp2
  go_ret
  exact ⟨rfl, B.out⟩
/-- a number of a subtask -/
def Nth (i : Int) : Prop := 1 ≤ i ∧ i ≤ 1099511627776
theorem subtask_yes (E P i : Int) (w : World) (hM : MayBe E P) (hi : Nth i) :
    Calls Try.prog 18 #[.agg #[.int .i64 E, .int .i64 P], .int .i64 i] w fun e w' => e = .returned (.bool true) ∧ Below w.heap.size w w' := by
  have HM := Lib.hid hM
  clear hM
  obtain ⟨i0, i1⟩ := hi
  go_enter Try.func18, Try.ntmps18
  go_wp2_with fail
  refine (wcheck_yes E P _ HM.out).mono ?_
  rintro e w1 ⟨rfl, hb⟩
  have B := Lib.hid (below_next (wbox _ _) hb)
  clear hb
  go_wp2
  go_ret
  exact ⟨rfl, B.out⟩
theorem wrelease_yes (E P i : Int) (w : World) (hM : MayBe E P) (hi : Nth i) :
    Calls Try.prog 10 #[.agg #[.int .i64 E, .int .i64 P], .int .i64 i] w fun e w' => e = .returned (.int .i64 (wR E P i)) ∧ Below w.heap.size w w' := by
  have HM := Lib.hid hM; have HI := Lib.hid hi
  clear hM hi
  have K := Lib.hid (Blk.new w 25 #[Value.int .i64 E, Value.int .i64 P])
  go_enter Try.func10, Try.ntmps10
  go_wp2_with fail
  refine (subtask_yes E P i _ HM.out HI.out).mono ?_
  rintro e w1 ⟨rfl, hb⟩
  have B := Lib.hid (below_next (wbox _ _) hb)
  have k0 := (K.out.below hb).cell 0
  have k1 := (K.out.below hb).cell 1
  simp at k0 k1
  clear hb
  go_wp2_with fail
  refine (mrelease_any E P i _ HM.out HI.out.1 HI.out.2).mono ?_
  rintro e w2 ⟨rfl, hb⟩
  have B := Lib.hid (below_next B.out hb)
  clear hb
  go_wp2
  go_ret
  exact ⟨rfl, B.out⟩
theorem wdeadline_yes (E P i : Int) (w : World) (hM : MayBe E P) (hi : Nth i) :
    Calls Try.prog 11 #[.agg #[.int .i64 E, .int .i64 P], .int .i64 i] w fun e w' => e = .returned (.int .i64 (wD E P i)) ∧ Below w.heap.size w w' := by
  have HM := Lib.hid hM; have HI := Lib.hid hi
  clear hM hi
  have K := Lib.hid (Blk.new w 25 #[Value.int .i64 E, Value.int .i64 P])
  go_enter Try.func11, Try.ntmps11
  go_wp2_with fail
  refine (subtask_yes E P i _ HM.out HI.out).mono ?_
  rintro e w1 ⟨rfl, hb⟩
  have B := Lib.hid (below_next (wbox _ _) hb)
  have k0 := (K.out.below hb).cell 0
  have k1 := (K.out.below hb).cell 1
  simp at k0 k1
  clear hb
  go_wp2_with fail
  refine (mdeadline_any E P i _ HM.out HI.out.1 HI.out.2).mono ?_
  rintro e w2 ⟨rfl, hb⟩
  have B := Lib.hid (below_next B.out hb)
  clear hb
  go_wp2
  go_ret
  exact ⟨rfl, B.out⟩
theorem wbit_yes (E P i : Int) (w : World) (hM : MayBe E P) (hi : Nth i) :
    Calls Try.prog 12 #[.agg #[.int .i64 E, .int .i64 P], .int .i64 i] w fun e w' => e = .returned (.int .i64 (wB E P i)) ∧ Below w.heap.size w w' := by
  have HM := Lib.hid hM; have HI := Lib.hid hi
  clear hM hi
  have K := Lib.hid (Blk.new w 25 #[Value.int .i64 E, Value.int .i64 P])
  go_enter Try.func12, Try.ntmps12
  go_wp2_with fail
  refine (subtask_yes E P i _ HM.out HI.out).mono ?_
  rintro e w1 ⟨rfl, hb⟩
  have B := Lib.hid (below_next (wbox _ _) hb)
  have k0 := (K.out.below hb).cell 0
  have k1 := (K.out.below hb).cell 1
  simp at k0 k1
  clear hb
  go_wp2_with fail
  refine (mbit_any E P i _ HM.out HI.out.1 HI.out.2).mono ?_
  rintro e w2 ⟨rfl, hb⟩
  have B := Lib.hid (below_next B.out hb)
  clear hb
  go_wp2
  go_ret
  exact ⟨rfl, B.out⟩
theorem wgroup_yes (E P i : Int) (w : World) (hM : MayBe E P) (hi : Nth i) :
    Calls Try.prog 14 #[.agg #[.int .i64 E, .int .i64 P], .int .i64 i] w fun e w' => e = .returned (.int .i64 (wG E P i)) ∧ Below w.heap.size w w' := by
  have HM := Lib.hid hM; have HI := Lib.hid hi
  clear hM hi
  have K := Lib.hid (Blk.new w 25 #[Value.int .i64 E, Value.int .i64 P])
  go_enter Try.func14, Try.ntmps14
  go_wp2_with fail
  refine (subtask_yes E P i _ HM.out HI.out).mono ?_
  rintro e w1 ⟨rfl, hb⟩
  have B := Lib.hid (below_next (wbox _ _) hb)
  have k0 := (K.out.below hb).cell 0
  have k1 := (K.out.below hb).cell 1
  simp at k0 k1
  clear hb
  go_wp2_with fail
  refine (mgroup_any E P i _ HM.out HI.out.1 HI.out.2).mono ?_
  rintro e w2 ⟨rfl, hb⟩
  have B := Lib.hid (below_next B.out hb)
  clear hb
  go_wp2
  go_ret
  exact ⟨rfl, B.out⟩
theorem wlong_yes (E P i : Int) (w : World) (hM : MayBe E P) (hi : Nth i) :
    Calls Try.prog 13 #[.agg #[.int .i64 E, .int .i64 P], .int .i64 i] w fun e w' => e = .returned (.int .i64 (wD E P i - wR E P i)) ∧ Below w.heap.size w w' := by
  have HM := Lib.hid hM; have HI := Lib.hid hi
  obtain ⟨d0, d1⟩ := wD_fit hM hi.1 hi.2
  obtain ⟨r0, r1⟩ := wR_fit hM hi.1 hi.2
  have HW := Lib.hid (show IntKind.i64.wrap (wD E P i - wR E P i) = wD E P i - wR E P i from IntWalk.i64_in _ (by omega))
  clear hM hi
  go_enter Try.func13, Try.ntmps13
  go_wp2
  obtain ⟨W0, hW0⟩ : ∃ W0, w.alloc (Obj.cells #[Value.int .i64 E, Value.int .i64 P] 25) = W0 := ⟨_, rfl⟩
  have K := Lib.hid (show Blk W0.drew 25 w.heap.size #[Value.int .i64 E, Value.int .i64 P] by rw [← hW0]; exact Blk.new _ _ _)
  have B := Lib.hid (show Below w.heap.size w W0.drew by rw [← hW0]; exact (wbox _ _).drew)
  have KEPT := Lib.hid (show ∀ w' : World, Below W0.drew.heap.size W0.drew w' → w'.cell? ⟨w.heap.size, 0, none⟩ = some (.int .i64 E) ∧ w'.cell? ⟨w.heap.size, 1, none⟩ = some (.int .i64 P) from fun w' h => ⟨(K.out.below h).cell 0, (K.out.below h).cell 1⟩)
  have BB := Lib.hid (Below.refl W0.drew.heap.size W0.drew)
  rw [hW0]
  clear hW0
  go_region_held3 (fun w' => w'.cell? ⟨w.heap.size, 0, none⟩ = some (.int .i64 E) ∧ w'.cell? ⟨w.heap.size, 1, none⟩ = some (.int .i64 P))
    (exact KEPT.out _ BB.out)
    (first
      | (go_at_call 11; (with_reducible refine (wdeadline_yes E P i _ HM.out HI.out).mono ?_); rintro e w1 ⟨rfl, hb⟩; have BB := Lib.hid (below_next BB.out hb); clear hb)
      | (go_at_call 10; (with_reducible refine (wrelease_yes E P i _ HM.out HI.out).mono ?_); rintro e w2 ⟨rfl, hb⟩; have BB := Lib.hid (below_next BB.out hb); clear hb))
  all_goals
    go_wp2
    go_ret
    exact ⟨ret_one HW.out, below_next B.out BB.out⟩
end Go.Proofs.Ytgfhlllddfdapaa
