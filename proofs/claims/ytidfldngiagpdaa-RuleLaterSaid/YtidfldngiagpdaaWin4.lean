/-
  What the methods of package window's own weight give back: contracts.
-/
import Derived.Test.YtidfldngiagpdaaWin3
import Derived.Deep.RegionHeld3
namespace Go.Proofs.Ytidfldngiagpdaa
open Go.RowKit

/-! ### how great they may be -/
theorem mul_bd {a b x y : Int} (a0 : 0 ≤ a) (h1 : a ≤ x) (b0 : 0 ≤ b) (h2 : b ≤ y) : 0 ≤ a * b ∧ a * b ≤ x * y :=
  ⟨Int.mul_nonneg a0 b0, Int.mul_le_mul h1 h2 b0 (by omega)⟩
/-- numbers of a weight and of a subtask, as the walks want them -/
theorem fit_w {E P i : Int} (hM : MayBe E P) (i0 : 0 ≤ i) (i1 : i ≤ 1099511627776) : 0 ≤ i * P ∧ i * P ≤ 1152921504606846976 := by
  obtain ⟨h1, h2, h3⟩ := hM
  have := mul_bd i0 i1 (show 0 ≤ P by omega) h3
  omega
theorem wR_fit {E P i : Int} (hM : MayBe E P) (i0 : 1 ≤ i) (i1 : i ≤ 1099511627776) : 0 ≤ wR E P i ∧ wR E P i ≤ 1152921504606846976 := by
  have h := fit_w hM (show 0 ≤ i - 1 by omega) (by omega)
  obtain ⟨h1, h2, h3⟩ := hM
  refine ⟨wR_nonneg (by omega) (by omega) i0, ?_⟩
  have := Int.ediv_le_self E h.1
  unfold wR; omega
theorem wD_fit {E P i : Int} (hM : MayBe E P) (i0 : 1 ≤ i) (i1 : i ≤ 1099511627776) : 1 ≤ wD E P i ∧ wD E P i ≤ 1152921504606846976 := by
  have h := fit_w hM (show 0 ≤ i by omega) i1
  obtain ⟨h1, h2, h3⟩ := hM
  refine ⟨wD_pos (by omega) (by omega) i0, cdv_min (by omega) ?_⟩
  have : (1152921504606846976 : Int) * 1 ≤ 1152921504606846976 * E := Int.mul_le_mul_of_nonneg_left h1 (by omega)
  omega
theorem wD_heavy {E P i : Int} (hM : MayBe E P) (hh : ¬ 2 * E < P) (i0 : 1 ≤ i) : wD E P i ≤ 2 * i := by
  obtain ⟨h1, h2, h3⟩ := hM
  refine cdv_min (by omega) ?_
  have : i * P ≤ i * (2 * E) := Int.mul_le_mul_of_nonneg_left (by omega) (by omega)
  have e : i * (2 * E) = 2 * i * E := by grind
  omega
theorem wK_fit {E P i : Int} (hM : MayBe E P) (hh : ¬ 2 * E < P) (i0 : 1 ≤ i) (i1 : i ≤ 1099511627776) :
    (wD E P i - 1) * (P - E) ≤ 2305843009213693952 ∧ 1 ≤ wK E P i ∧ wK E P i ≤ 2199023255552 ∧ wK E P i * P ≤ 2305843009213693952 := by
  have h := (wD_fit hM i0 i1).1
  have h2 := wD_heavy hM hh i0
  obtain ⟨g1, g2, g3⟩ := hM
  have a := mul_bd (show 0 ≤ wD E P i - 1 by omega) (show wD E P i - 1 ≤ 2199023255551 by omega) (show 0 ≤ P - E by omega) (show P - E ≤ 1048576 by omega)
  have k0 : 0 ≤ (wD E P i - 1) * (P - E) / P := Int.ediv_nonneg a.1 (by omega)
  have k1 : (wD E P i - 1) * (P - E) / P < 2199023255552 := by
    refine Int.ediv_lt_of_lt_mul (by omega) ?_
    have : (wD E P i - 1) * (P - E) ≤ (wD E P i - 1) * P := Int.mul_le_mul_of_nonneg_left (by omega) (by omega)
    have : (wD E P i - 1) * P ≤ 2199023255551 * P := Int.mul_le_mul_of_nonneg_right (by omega) (by omega)
    omega
  have k2 : wK E P i = (wD E P i - 1) * (P - E) / P + 1 := rfl
  have b := mul_bd (show 0 ≤ wK E P i by omega) (show wK E P i ≤ 2199023255552 by omega) (show 0 ≤ P by omega) g3
  omega
theorem wB_is {E P i : Int} (hE : 0 < E) : wD E P i - i * P / E = wB E P i := by
  have := next_release (P := P) (i := i) hE
  unfold wR at this
  rw [Int.add_sub_cancel] at this
  omega

/-! ### the methods -/
theorem mheavy_any (E P : Int) (w : World) (hM : MayBe E P) (t : Bool) (ht : t = decide (P ≤ 2 * E)) :
    Calls Try.prog 35 #[.agg #[.int .i64 E, .int .i64 P]] w fun e w' => e = .returned (.bool t) ∧ Below w.heap.size w w' := by
  obtain ⟨h1, h2, h3⟩ := hM
  subst ht
  go_enter Try.func35, Try.ntmps35
  go_wp2
  go_ret
  exact ⟨rfl, wbox _ _⟩
end Go.Proofs.Ytidfldngiagpdaa
