/-
  What package fluid's share, Low, High and Due give back: contracts.
-/
import Derived.Test.YtnmiiebfpeoafaaFl1
namespace Go.Proofs.Ytnmiiebfpeoafaa
open Go.RowKit

/-- what share asks of the function that rounds: R is what it makes of a number that is not below 0, and one above -/
def Rounds (f : Nat) (R : Int → Int → Int) : Prop :=
  ∀ (a b : Int) (w : World), 0 ≤ a → a ≤ 4611686018427387904 → 0 < b → Calls Try.prog f #[.int .i64 a, .int .i64 b] w fun e w' => e = .returned (.tuple #[.int .i64 (R a b), .int .i64 0]) ∧ w = w'
theorem rounds_floor : Rounds 29 (fun a b => a / b) := fun a b w h0 h1 h2 => efloor_any a b w h0 h1 h2
theorem rounds_ceil : Rounds 30 cdv := fun a b w h0 h1 h2 => eceil_any a b w h0 h1 h2

theorem fshare_low (E P t : Int) (w : World) :
    Calls Try.prog 28 #[.func (.func 29) #[] #[], .agg #[.int .i64 E, .int .i64 P], .int .i64 t] w fun e w' => e = .returned (.int .i64 (lowV E P t)) ∧ Below w.heap.size w w' := by
  by_cases hM : MayBe E P
  · have HM := Lib.hid hM
    by_cases ht : Sl t
    · rw [lowV_yes ⟨hM, ht⟩]
      have HT := Lib.hid (show decide (Sl t) = true from decide_eq_true ht)
      have T := Lib.hid ht
      have F1 := Lib.hid (fit_et hM ht)
      have K := Lib.hid (Blk.new w 24 #[Value.int .i64 E, Value.int .i64 P])
      have P0 := Lib.hid (show 0 < P by have := hM.1; have := hM.2.1; omega)
      clear hM ht
      go_enter Try.func28, Try.ntmps28
      go_wp2_with fail
      refine (wcheck_yes E P _ HM.out).mono ?_
      rintro e w1 ⟨rfl, hb⟩
      have B := Lib.hid (below_next (wbox _ _) hb)
      have K := Lib.hid (K.out.below hb)
      have k0 := K.out.cell 0
      have k1 := K.out.cell 1
      simp at k0 k1
      clear hb
      go_wp2_with fail
      refine (fnum_any t _ true HT.out).mono ?_
      rintro e w2 ⟨rfl, rfl⟩
      go_wp2_with fail
      refine (emul_any E t _ (by have := HM.out.1; omega) (by have := HM.out.2.1; have := HM.out.2.2; omega) T.out.1 (by have := T.out.2; omega) (by have := F1.out; omega)).mono ?_
      rintro e w2 ⟨rfl, rfl⟩
      go_wp2_with fail
      refine (rounds_floor (E * t) P _ F1.out.1 (by have := F1.out; omega) P0.out).mono ?_
      rintro e w2 ⟨rfl, rfl⟩
      go_wp2
      go_ret
      exact ⟨rfl, B.out⟩
    · rw [lowV_no (fun h => ht h.2)]
      have HT := Lib.hid (show decide (Sl t) = false from decide_eq_false ht)
      clear hM ht
      go_enter Try.func28, Try.ntmps28
      go_wp2_with fail
      refine (wcheck_yes E P _ HM.out).mono ?_
      rintro e w1 ⟨rfl, hb⟩
      have B := Lib.hid (below_next (wbox _ _) hb)
      clear hb
      go_wp2_with fail
      refine (fnum_any t _ false HT.out).mono ?_
      rintro e w2 ⟨rfl, rfl⟩
      go_wp2
      go_ret
      exact ⟨rfl, B.out⟩
  · rw [lowV_no (fun h => hM h.1)]
    have HM := Lib.hid (show false = true ↔ MayBe E P from ⟨fun g => (by cases g), fun g => absurd g hM⟩)
    clear hM
    go_enter Try.func28, Try.ntmps28
    go_wp2_with fail
    refine (wcheck_any E P _ false HM.out).mono ?_
    rintro e w1 ⟨rfl, hb⟩
    have B := Lib.hid (below_next (wbox _ _) hb)
    clear hb
    go_wp2
    go_ret
    exact ⟨rfl, B.out⟩
theorem fshare_high (E P t : Int) (w : World) :
    Calls Try.prog 28 #[.func (.func 30) #[] #[], .agg #[.int .i64 E, .int .i64 P], .int .i64 t] w fun e w' => e = .returned (.int .i64 (highV E P t)) ∧ Below w.heap.size w w' := by
  by_cases hM : MayBe E P
  · have HM := Lib.hid hM
    by_cases ht : Sl t
    · rw [highV_yes ⟨hM, ht⟩]
      have HT := Lib.hid (show decide (Sl t) = true from decide_eq_true ht)
      have T := Lib.hid ht
      have F1 := Lib.hid (fit_et hM ht)
      have K := Lib.hid (Blk.new w 24 #[Value.int .i64 E, Value.int .i64 P])
      have P0 := Lib.hid (show 0 < P by have := hM.1; have := hM.2.1; omega)
      clear hM ht
      go_enter Try.func28, Try.ntmps28
      go_wp2_with fail
      refine (wcheck_yes E P _ HM.out).mono ?_
      rintro e w1 ⟨rfl, hb⟩
      have B := Lib.hid (below_next (wbox _ _) hb)
      have K := Lib.hid (K.out.below hb)
      have k0 := K.out.cell 0
      have k1 := K.out.cell 1
      simp at k0 k1
      clear hb
      go_wp2_with fail
      refine (fnum_any t _ true HT.out).mono ?_
      rintro e w2 ⟨rfl, rfl⟩
      go_wp2_with fail
      refine (emul_any E t _ (by have := HM.out.1; omega) (by have := HM.out.2.1; have := HM.out.2.2; omega) T.out.1 (by have := T.out.2; omega) (by have := F1.out; omega)).mono ?_
      rintro e w2 ⟨rfl, rfl⟩
      go_wp2_with fail
      refine (rounds_ceil (E * t) P _ F1.out.1 (by have := F1.out; omega) P0.out).mono ?_
      rintro e w2 ⟨rfl, rfl⟩
      go_wp2
      go_ret
      exact ⟨rfl, B.out⟩
    · rw [highV_no (fun h => ht h.2)]
      have HT := Lib.hid (show decide (Sl t) = false from decide_eq_false ht)
      clear hM ht
      go_enter Try.func28, Try.ntmps28
      go_wp2_with fail
      refine (wcheck_yes E P _ HM.out).mono ?_
      rintro e w1 ⟨rfl, hb⟩
      have B := Lib.hid (below_next (wbox _ _) hb)
      clear hb
      go_wp2_with fail
      refine (fnum_any t _ false HT.out).mono ?_
      rintro e w2 ⟨rfl, rfl⟩
      go_wp2
      go_ret
      exact ⟨rfl, B.out⟩
  · rw [highV_no (fun h => hM h.1)]
    have HM := Lib.hid (show false = true ↔ MayBe E P from ⟨fun g => (by cases g), fun g => absurd g hM⟩)
    clear hM
    go_enter Try.func28, Try.ntmps28
    go_wp2_with fail
    refine (wcheck_any E P _ false HM.out).mono ?_
    rintro e w1 ⟨rfl, hb⟩
    have B := Lib.hid (below_next (wbox _ _) hb)
    clear hb
    go_wp2
    go_ret
    exact ⟨rfl, B.out⟩
theorem flow_any (E P t v : Int) (w : World) (hv : lowV E P t = v) :
    Calls Try.prog 12 #[.agg #[.int .i64 E, .int .i64 P], .int .i64 t] w fun e w' => e = .returned (.int .i64 v) ∧ Below w.heap.size w w' := by
  subst hv
  go_enter Try.func12, Try.ntmps12
  go_wp2_with fail
  refine (fshare_low E P t _).mono ?_
  rintro e w1 ⟨rfl, hb⟩
  have B := Lib.hid (below_next (wbox _ _) hb)
  clear hb
  go_wp2
  go_ret
  exact ⟨rfl, B.out⟩
theorem fhigh_any (E P t v : Int) (w : World) (hv : highV E P t = v) :
    Calls Try.prog 13 #[.agg #[.int .i64 E, .int .i64 P], .int .i64 t] w fun e w' => e = .returned (.int .i64 v) ∧ Below w.heap.size w w' := by
  subst hv
  go_enter Try.func13, Try.ntmps13
  go_wp2_with fail
  refine (fshare_high E P t _).mono ?_
  rintro e w1 ⟨rfl, hb⟩
  have B := Lib.hid (below_next (wbox _ _) hb)
  clear hb
  go_wp2
  go_ret
  exact ⟨rfl, B.out⟩
/-- one slot more has more -/
def dueB (E P t : Int) : Bool := decide (lowV E P t < lowV E P (IntKind.i64.wrap (t + 1)))
set_option maxHeartbeats 1000000 in
theorem fdue_any (E P t : Int) (w : World) (b : Bool) (hb : dueB E P t = b) :
    Calls Try.prog 20 #[.agg #[.int .i64 E, .int .i64 P], .int .i64 t] w fun e w' => e = .returned (.bool b) ∧ Below w.heap.size w w' := by
  subst hb
  unfold dueB
  obtain ⟨L, hL⟩ : ∃ L, lowV E P t = L := ⟨_, rfl⟩
  obtain ⟨s, hs⟩ : ∃ s, IntKind.i64.wrap (t + 1) = s := ⟨_, rfl⟩
  rw [hL, hs]
  obtain ⟨M, hM⟩ : ∃ M, lowV E P s = M := ⟨_, rfl⟩
  rw [hM]
  have HL := Lib.hid hL; have HM := Lib.hid hM
  clear hL hM
  have K := Lib.hid (Blk.new w 24 #[Value.int .i64 E, Value.int .i64 P])
  obtain ⟨d, hd⟩ : ∃ d, decide (L < M) = d := ⟨_, rfl⟩
  rw [hd]
  go_enter Try.func20, Try.ntmps20
  go_wp2_with fail
  obtain ⟨W0, hW0⟩ : ∃ W0, w.alloc (.cells #[Value.int .i64 E, Value.int .i64 P] 24) = W0 := ⟨_, rfl⟩
  have B0 := Lib.hid (show Below w.heap.size w W0 from hW0 ▸ wbox _ _)
  rw [hW0] at K
  rw [hW0]
  clear hW0
  have KEPT := Lib.hid (show ∀ w' : World, Below W0.heap.size W0 w' → w'.cell? ⟨w.heap.size, 0, none⟩ = some (.int .i64 E) ∧ w'.cell? ⟨w.heap.size, 1, none⟩ = some (.int .i64 P) from fun w' h => ⟨(K.out.below h).cell 0, (K.out.below h).cell 1⟩)
  have BB := Lib.hid ((Below.refl W0.heap.size W0).drew)
  go_region_held3 (fun w' => w'.cell? ⟨w.heap.size, 0, none⟩ = some (.int .i64 E) ∧ w'.cell? ⟨w.heap.size, 1, none⟩ = some (.int .i64 P)) (exact KEPT.out _ BB.out)
    (first
      | (go_at_call 12; (first | with_reducible refine (flow_any E P s M _ HM.out).mono ?_ | with_reducible refine (flow_any E P t L _ HL.out).mono ?_); rintro e w1 ⟨rfl, hb⟩; have BB := Lib.hid (below_next BB.out hb); clear hb))
  all_goals
    go_wp2
    go_ret
    exact ⟨rfl, below_next B0.out BB.out⟩
end Go.Proofs.Ytnmiiebfpeoafaa
