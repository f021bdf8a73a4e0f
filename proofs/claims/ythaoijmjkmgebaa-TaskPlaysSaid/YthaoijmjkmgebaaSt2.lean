/-
  What package stepper's counters give back: contracts.
-/
import Derived.Test.YthaoijmjkmgebaaSt1
import Derived.Test.YthaoijmjkmgebaaWr5
import Derived.Laws.StructEq
import Derived.Deep.LoopGhost
namespace Go.Proofs.Ythaoijmjkmgebaa
open Go.RowKit

/-- a counter is none just if it goes by 0 -/
theorem ctr_ne (a r s m b : Int) (hb : ¬ b = 0) (w : World) :
    (binOp .neq 70 (.agg #[.int .i64 a, .int .i64 r, .int .i64 s, .int .i64 m, .int .i64 b]) (.agg #[.int .i64 0, .int .i64 0, .int .i64 0, .int .i64 0, .int .i64 0])).run Try.prog w = .ok (.bool true) w := by
  simp [go_sem, hb]
theorem ctr_eq (a r s m b : Int) (hb : ¬ b = 0) (w : World) :
    (binOp .eql 70 (.agg #[.int .i64 a, .int .i64 r, .int .i64 s, .int .i64 m, .int .i64 b]) (.agg #[.int .i64 0, .int .i64 0, .int .i64 0, .int .i64 0, .int .i64 0])).run Try.prog w = .ok (.bool false) w := by
  simp [go_sem, hb]
theorem cbit_any (a r s m b t : Int) (w : World) (ht : t = if 0 < r then 1 else 0) :
    Calls Try.prog 56 #[.agg #[.int .i64 a, .int .i64 r, .int .i64 s, .int .i64 m, .int .i64 b]] w fun e w' => e = .returned (.int .i64 t) ∧ Below w.heap.size w w' := by
  by_cases c : 0 < r
  · rw [if_pos c] at ht
    subst ht
    go_enter Try.func56, Try.ntmps56
    go_wp2
    go_ret
    exact ⟨rfl, wbox _ _⟩
  · rw [if_neg c] at ht
    subst ht
    go_enter Try.func56, Try.ntmps56
    go_wp2
    go_ret
    exact ⟨rfl, wbox _ _⟩
theorem cup_any (a r s m b t : Int) (w : World) (ht : t = if 0 < r then 1 else 0) (a0 : 0 ≤ a) (a1 : a ≤ 4611686018427387904) :
    Calls Try.prog 53 #[.agg #[.int .i64 a, .int .i64 r, .int .i64 s, .int .i64 m, .int .i64 b]] w fun e w' => e = .returned (.int .i64 (a + t)) ∧ Below w.heap.size w w' := by
  have t0 : 0 ≤ t ∧ t ≤ 1 := by rw [ht]; split <;> omega
  obtain ⟨t0, t1⟩ := t0
  have HT := Lib.hid ht
  clear ht
  have HW := Lib.hid (show IntKind.i64.wrap (a + t) = a + t from IntWalk.i64_in _ (by omega))
  go_enter Try.func53, Try.ntmps53
  go_wp2
  obtain ⟨W0, hW0⟩ : ∃ W0, w.alloc (Obj.cells #[Value.int .i64 a, Value.int .i64 r, Value.int .i64 s, Value.int .i64 m, Value.int .i64 b] 70) = W0 := ⟨_, rfl⟩
  have K := Lib.hid (show Blk W0.drew 70 w.heap.size #[Value.int .i64 a, Value.int .i64 r, Value.int .i64 s, Value.int .i64 m, Value.int .i64 b] by rw [← hW0]; exact Blk.new _ _ _)
  have B := Lib.hid (show Below w.heap.size w W0.drew by rw [← hW0]; exact (wbox _ _).drew)
  have KEPT := Lib.hid (show ∀ w' : World, Below W0.drew.heap.size W0.drew w' → w'.cell? ⟨w.heap.size, 0, none⟩ = some (.int .i64 a) ∧ w'.cell? ⟨w.heap.size, 1, none⟩ = some (.int .i64 r) ∧ w'.cell? ⟨w.heap.size, 2, none⟩ = some (.int .i64 s) ∧ w'.cell? ⟨w.heap.size, 3, none⟩ = some (.int .i64 m) ∧ w'.cell? ⟨w.heap.size, 4, none⟩ = some (.int .i64 b) from fun w' h => ⟨(K.out.below h).cell 0, (K.out.below h).cell 1, (K.out.below h).cell 2, (K.out.below h).cell 3, (K.out.below h).cell 4⟩)
  have BB := Lib.hid (Below.refl W0.drew.heap.size W0.drew)
  rw [hW0]
  clear hW0
  go_region_held3 (fun w' => w'.cell? ⟨w.heap.size, 0, none⟩ = some (.int .i64 a) ∧ w'.cell? ⟨w.heap.size, 1, none⟩ = some (.int .i64 r) ∧ w'.cell? ⟨w.heap.size, 2, none⟩ = some (.int .i64 s) ∧ w'.cell? ⟨w.heap.size, 3, none⟩ = some (.int .i64 m) ∧ w'.cell? ⟨w.heap.size, 4, none⟩ = some (.int .i64 b))
    (exact KEPT.out _ BB.out)
    (first | (go_at_call 56; (with_reducible refine (cbit_any a r s m b t _ HT.out).mono ?_); rintro e w1 ⟨rfl, hb⟩; have BB := Lib.hid (below_next BB.out hb); clear hb))
  all_goals
    go_wp2
    go_ret
    exact ⟨ret_one HW.out, below_next B.out BB.out⟩
theorem cnext_any (a r s m b a' r' : Int) (w : World) (a0 : 0 ≤ a) (a1 : a ≤ 2305843009213693952) (r0 : 0 ≤ r) (r1 : r < b) (s0 : 0 ≤ s) (s1 : s ≤ 1048576) (m0 : 0 ≤ m) (m1 : m < b) (b1 : b ≤ 1048576)
    (h : (r + m < b ∧ a' = a + s ∧ r' = r + m) ∨ (b ≤ r + m ∧ a' = a + s + 1 ∧ r' = r + m - b)) :
    Calls Try.prog 51 #[.agg #[.int .i64 a, .int .i64 r, .int .i64 s, .int .i64 m, .int .i64 b]] w fun e w' => e = .returned (.agg #[.int .i64 a', .int .i64 r', .int .i64 s, .int .i64 m, .int .i64 b]) ∧ Below w.heap.size w w' := by
  rcases h with ⟨h1, rfl, rfl⟩ | ⟨h1, rfl, rfl⟩
  · have t1 : decide (b ≤ r + m) = false := by simp; omega
    clear h1
    go_enter Try.func51, Try.ntmps51
    go_wp2
    refine bodyPost_ret (v := .agg #[.int .i64 (a + s), .int .i64 (r + m), .int .i64 s, .int .i64 m, .int .i64 b]) (by simp [results, Try.results51, go_sem]) rfl ⟨rfl, wbox2 _ _ _⟩
  · have t1 : decide (b ≤ r + m) = true := by simp; omega
    clear h1
    go_enter Try.func51, Try.ntmps51
    go_wp2
    refine bodyPost_ret (v := .agg #[.int .i64 (a + s + 1), .int .i64 (r + m - b), .int .i64 s, .int .i64 m, .int .i64 b]) (by simp [results, Try.results51, go_sem]) rfl ⟨rfl, wbox2 _ _ _⟩
theorem ccount_any (a b : Int) (w : World) (a0 : 0 ≤ a) (a1 : a ≤ 1048576) (b0 : 0 < b) :
    Calls Try.prog 40 #[.int .i64 a, .int .i64 b] w fun e w' => e = .returned (.agg #[.int .i64 0, .int .i64 0, .int .i64 (a / b), .int .i64 (a % b), .int .i64 b]) ∧ Below w.heap.size w w' := by
  have hm : a.tmod b = a % b := Int.tmod_eq_emod_of_nonneg a0
  have hd : a.tdiv b = a / b := Int.tdiv_eq_ediv_of_nonneg a0
  have d0 : 0 ≤ a / b := Int.ediv_nonneg a0 (by omega)
  have d1 : a / b ≤ a := Int.ediv_le_self _ a0
  have nb : ¬ b = 0 := by omega
  have wd : IntKind.i64.wrap (a / b) = a / b := IntWalk.i64_in _ (by omega)
  go_enter Try.func40, Try.ntmps40
  go_wp2
  go_region
  all_goals
    go_wp2
    refine bodyPost_ret (v := .agg #[.int .i64 0, .int .i64 0, .int .i64 (a / b), .int .i64 (a % b), .int .i64 b]) (by simp [results, Try.results40, go_sem]) rfl ⟨rfl, ?_⟩
    exact (wbox _ _).drew
end Go.Proofs.Ythaoijmjkmgebaa
