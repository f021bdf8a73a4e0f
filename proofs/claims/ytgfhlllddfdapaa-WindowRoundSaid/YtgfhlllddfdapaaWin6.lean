/-
  What package window's later, sub and Of give back: contracts.
-/
import Derived.Test.YtgfhlllddfdapaaWin5
import Derived.Laws.Cover1
namespace Go.Proofs.Ytgfhlllddfdapaa
open Go.RowKit

/-- a subtask, by value -/
def subV (I R D B G : Int) : Value := .agg #[.int .i64 I, .int .i64 R, .int .i64 D, .int .i64 B, .int .i64 G]
theorem mrelease_nth (E P i : Int) (w : World) (hM : MayBe E P) (hi : Nth i) :
    Calls Try.prog 19 #[.agg #[.int .i64 E, .int .i64 P], .int .i64 i] w fun e w' => e = .returned (.int .i64 (wR E P i)) ∧ Below w.heap.size w w' := mrelease_any E P i w hM hi.1 hi.2
theorem mdeadline_nth (E P i : Int) (w : World) (hM : MayBe E P) (hi : Nth i) :
    Calls Try.prog 20 #[.agg #[.int .i64 E, .int .i64 P], .int .i64 i] w fun e w' => e = .returned (.int .i64 (wD E P i)) ∧ Below w.heap.size w w' := mdeadline_any E P i w hM hi.1 hi.2
theorem mbit_nth (E P i : Int) (w : World) (hM : MayBe E P) (hi : Nth i) :
    Calls Try.prog 21 #[.agg #[.int .i64 E, .int .i64 P], .int .i64 i] w fun e w' => e = .returned (.int .i64 (wB E P i)) ∧ Below w.heap.size w w' := mbit_any E P i w hM hi.1 hi.2
theorem mgroup_nth (E P i : Int) (w : World) (hM : MayBe E P) (hi : Nth i) :
    Calls Try.prog 22 #[.agg #[.int .i64 E, .int .i64 P], .int .i64 i] w fun e w' => e = .returned (.int .i64 (wG E P i)) ∧ Below w.heap.size w w' := mgroup_any E P i w hM hi.1 hi.2

set_option maxHeartbeats 4000000 in
theorem msub_any (E P i : Int) (w : World) (hM : MayBe E P) (hi : Nth i) :
    Calls Try.prog 25 #[.agg #[.int .i64 E, .int .i64 P], .int .i64 i] w fun e w' => e = .returned (subV i (wR E P i) (wD E P i) (wB E P i) (wG E P i)) ∧ Below w.heap.size w w' := by
  have HM := Lib.hid hM; have HI := Lib.hid hi
  clear hM hi
  go_enter Try.func25, Try.ntmps25
  go_wp2
  obtain ⟨W0, hW0⟩ : ∃ W0, (w.alloc (Obj.cells #[Value.int .i64 E, Value.int .i64 P] 39)).alloc (Obj.cells #[Value.int .i64 0, Value.int .i64 0, Value.int .i64 0, Value.int .i64 0, Value.int .i64 0] 33) = W0 := ⟨_, rfl⟩
  have K := Lib.hid (show Blk W0.drew 39 w.heap.size #[Value.int .i64 E, Value.int .i64 P] by rw [← hW0]; exact (Blk.new _ _ _).alloc _)
  have L := Lib.hid (show Blk W0.drew 33 (w.heap.size + 1) #[Value.int .i64 0, Value.int .i64 0, Value.int .i64 0, Value.int .i64 0, Value.int .i64 0] by rw [← hW0]; exact (Blk.new2 _ _ _ _))
  have B := Lib.hid (show Below w.heap.size w W0.drew by rw [← hW0]; exact (wbox2 _ _ _).drew)
  have KEPT := Lib.hid (show ∀ w' : World, Below W0.drew.heap.size W0.drew w' → w'.cell? ⟨w.heap.size, 0, none⟩ = some (.int .i64 E) ∧ w'.cell? ⟨w.heap.size, 1, none⟩ = some (.int .i64 P) from fun w' h => ⟨(K.out.below h).cell 0, (K.out.below h).cell 1⟩)
  have BB := Lib.hid (Below.refl W0.drew.heap.size W0.drew)
  rw [hW0]
  clear hW0
  go_region_held3 (fun w' => w'.cell? ⟨w.heap.size, 0, none⟩ = some (.int .i64 E) ∧ w'.cell? ⟨w.heap.size, 1, none⟩ = some (.int .i64 P))
    (first | exact KEPT.out _ BB.out | go_keep)
    (first
      | (go_at_call 19; (with_reducible refine (mrelease_nth E P i _ HM.out HI.out).mono ?_); rintro e w1 ⟨rfl, hb⟩; have BB := Lib.hid (below_next BB.out hb); clear hb)
      | (go_at_call 20; (with_reducible refine (mdeadline_nth E P i _ HM.out HI.out).mono ?_); rintro e w2 ⟨rfl, hb⟩; have BB := Lib.hid (below_next BB.out hb); clear hb)
      | (go_at_call 21; (with_reducible refine (mbit_nth E P i _ HM.out HI.out).mono ?_); rintro e w3 ⟨rfl, hb⟩; have BB := Lib.hid (below_next BB.out hb); clear hb)
      | (go_at_call 22; (with_reducible refine (mgroup_nth E P i _ HM.out HI.out).mono ?_); rintro e w4 ⟨rfl, hb⟩; have BB := Lib.hid (below_next BB.out hb); have L := Lib.hid (L.out.below BB.out); have s0 := L.out.cell 0; have s1 := L.out.cell 1; have s2 := L.out.cell 2; have s3 := L.out.cell 3; have s4 := L.out.cell 4; have f0 := L.out.free 0; have f1 := L.out.free 1; have f2 := L.out.free 2; have f3 := L.out.free 3; have f4 := L.out.free 4; simp at s0 s1 s2 s3 s4; clear hb))
  all_goals
    go_wp2
    have u1 : w.heap.size ≤ w.heap.size + 1 := by omega
    exact bodyPost_ret (v := subV i (wR E P i) (wD E P i) (wB E P i) (wG E P i)) (by simp [subV, results, Try.results25, go_sem, s0, s1, s2, s3, s4]) rfl ⟨rfl, (((((below_next B.out BB.out).setCell u1 _).setCell u1 _).setCell u1 _).setCell u1 _).setCell u1 _⟩
theorem max_three (P : Program) (w : World) (ts : Array TypeId) (t : TypeId) (R D G M : Int) (h : M = if G > (if D > R then D else R) then G else (if D > R then D else R)) :
    (Builtin.max_ ts t #[.int .i64 R, .int .i64 D, .int .i64 G]).run P w = .ok (.int .i64 M) w := by
  rw [h]; simp only [run_max_int3]
theorem later_any (I R D B G o : Int) (w : World) (R0 : 0 ≤ R) (D0 : R ≤ D) (o0 : 0 ≤ o) (h1 : D + o ≤ 4611686018427387904) (hG : G = 0 ∨ D ≤ G ∧ G + o ≤ 4611686018427387904) (G' : Int) (hG' : G' = if G = 0 then 0 else G + o) :
    Calls Try.prog 24 #[subV I R D B G, .int .i64 o] w fun e w' => e = .returned (.tuple #[subV I (R + o) (D + o) B G', .int .i64 0]) ∧ Below w.heap.size w w' := by
  obtain ⟨M, m0, m1, hM⟩ : ∃ M : Int, 0 ≤ M ∧ o ≤ 4611686018427387904 - M ∧ ∀ (w : World) (ts : Array TypeId) (t : TypeId), (Builtin.max_ ts t #[.int .i64 R, .int .i64 D, .int .i64 G]).run Try.prog w = .ok (.int .i64 M) w := by
    refine ⟨_, ?_, ?_, fun w ts t => max_three _ w ts t R D G _ rfl⟩
    · split <;> split <;> omega
    · split <;> split <;> omega
  have bM : decide (4611686018427387904 - M < o) = false := by simp; omega
  unfold subV
  by_cases g : G = 0
  · subst g
    obtain rfl : G' = 0 := by rw [hG', if_pos rfl]
    clear hG hG'
    go_enter Try.func24, Try.ntmps24
    go_wp2
    refine bodyPost_ret (v := .tuple #[.agg #[.int .i64 I, .int .i64 (R + o), .int .i64 (D + o), .int .i64 B, .int .i64 0], .int .i64 0]) (by simp [results, Try.results24, go_sem]) rfl ⟨rfl, wbox2 _ _ _⟩
  · obtain rfl : G' = G + o := by rw [hG', if_neg g]
    have h2 : 0 ≤ G ∧ G + o ≤ 4611686018427387904 := by omega
    obtain ⟨h2, h3⟩ := h2
    have g0 : (G == 0) = false := by simp; omega
    clear hG hG' g
    go_enter Try.func24, Try.ntmps24
    go_wp2
    refine bodyPost_ret (v := .tuple #[.agg #[.int .i64 I, .int .i64 (R + o), .int .i64 (D + o), .int .i64 B, .int .i64 (G + o)], .int .i64 0]) (by simp [results, Try.results24, go_sem]) rfl ⟨rfl, wbox2 _ _ _⟩
theorem wof_yes (E P i o : Int) (w : World) (hM : MayBe E P) (hi : Nth i) (o0 : 0 ≤ o) (o1 : o ≤ 1152921504606846976) (G' : Int) (hG' : G' = if wG E P i = 0 then 0 else wG E P i + o) :
    Calls Try.prog 16 #[.agg #[.int .i64 E, .int .i64 P], .int .i64 i, .int .i64 o] w fun e w' => e = .returned (.tuple #[subV i (wR E P i + o) (wD E P i + o) (wB E P i) G', .int .i64 0]) ∧ Below w.heap.size w w' := by
  have HM := Lib.hid hM; have HI := Lib.hid hi; have HG := Lib.hid hG'
  have RF := Lib.hid (wR_fit hM hi.1 hi.2)
  have DF := Lib.hid (wD_fit hM hi.1 hi.2)
  have NS := Lib.hid (next_some (i := i) (show 0 < E by have := hM.1; omega) (show 0 < P by have := hM.1; have := hM.2.1; omega))
  have GF := Lib.hid (show wG E P i = 0 ∨ wD E P i ≤ wG E P i ∧ wG E P i + o ≤ 4611686018427387904 by
    by_cases h : 2 * E < P
    · exact .inl (group_light h)
    · have h1 := group_bd (i := i) (show 0 < E by have := hM.1; omega) hM.2.1 h
      have h2 := DF.out.2
      have h3 := hM.2.2
      exact .inr ⟨h1.1, by omega⟩)
  have K := Lib.hid (Blk.new w 25 #[Value.int .i64 E, Value.int .i64 P] |>.alloc (Obj.cells #[Value.int .i64 0, Value.int .i64 0, Value.int .i64 0, Value.int .i64 0, Value.int .i64 0] 33))
  have L := Lib.hid (Blk.new2 w (Obj.cells #[Value.int .i64 E, Value.int .i64 P] 25) 33 #[Value.int .i64 0, Value.int .i64 0, Value.int .i64 0, Value.int .i64 0, Value.int .i64 0])
  clear hM hi hG'
  go_enter Try.func16, Try.ntmps16
  go_wp2_with fail
  refine (subtask_yes E P i _ HM.out HI.out).mono ?_
  rintro e w1 ⟨rfl, hb⟩
  have B := Lib.hid (below_next (wbox2 _ _ _) hb)
  have L := Lib.hid (L.out.below hb)
  have k0 := (K.out.below hb).cell 0
  have k1 := (K.out.below hb).cell 1
  simp at k0 k1
  clear hb
  go_wp2_with fail
  refine (msub_any E P i _ HM.out HI.out).mono ?_
  rintro e w2 ⟨rfl, hb⟩
  have B := Lib.hid (below_next B.out hb)
  have L := Lib.hid (L.out.below hb)
  clear hb k0 k1
  go_wp2_with fail
  refine (later_any i (wR E P i) (wD E P i) (wB E P i) (wG E P i) o _ RF.out.1 (Int.le_of_lt NS.out) o0 (by have := DF.out.2; omega) GF.out G' HG.out).mono ?_
  rintro e w3 ⟨rfl, hb⟩
  have B := Lib.hid (below_next B.out hb)
  have L := Lib.hid (L.out.below hb)
  have s0 := L.out.cell 0; have s1 := L.out.cell 1; have s2 := L.out.cell 2; have s3 := L.out.cell 3; have s4 := L.out.cell 4
  have f0 := L.out.free 0; have f1 := L.out.free 1; have f2 := L.out.free 2; have f3 := L.out.free 3; have f4 := L.out.free 4
  simp at s0 s1 s2 s3 s4
  clear hb
  unfold subV
  go_wp2
  have u1 : w.heap.size ≤ w.heap.size + 1 := by omega
  exact bodyPost_ret (v := .tuple #[subV i (wR E P i + o) (wD E P i + o) (wB E P i) G', .int .i64 0]) (by simp [subV, results, Try.results16, go_sem, s0, s1, s2, s3, s4]) rfl ⟨rfl, ((((B.out.setCell u1 _).setCell u1 _).setCell u1 _).setCell u1 _).setCell u1 _⟩
end Go.Proofs.Ytgfhlllddfdapaa
