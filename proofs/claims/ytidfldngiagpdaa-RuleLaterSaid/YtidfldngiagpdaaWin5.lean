/-
  What package window's own functions give back: contracts.
-/
import Derived.Test.YtidfldngiagpdaaWin4
namespace Go.Proofs.Ytidfldngiagpdaa
open Go.RowKit

theorem wcheck_any (E P : Int) (w : World) (t : Bool) (ht : t = true ↔ MayBe E P) :
    Calls Try.prog 31 #[.agg #[.int .i64 E, .int .i64 P]] w fun e w' => e = .returned (.bool t) ∧ Below w.heap.size w w' := by
  unfold MayBe at ht
  by_cases h1 : 1 ≤ E
  · have b1 : decide (1 ≤ E) = true := by simp; omega
    by_cases h2 : E ≤ P
    · have b2 : decide (E ≤ P) = true := by simp; omega
      by_cases h3 : P ≤ 1048576
      · have b3 : decide (P ≤ 1048576) = true := by simp; omega
        obtain rfl : t = true := ht.mpr ⟨h1, h2, h3⟩
        clear ht
        go_enter Try.func31, Try.ntmps31
        go_wp2
        go_ret
        exact ⟨rfl, wbox _ _⟩
      · have b3 : decide (P ≤ 1048576) = false := by simp; omega
        obtain rfl : t = false := by cases t; rfl; exact absurd (ht.mp rfl) (by omega)
        clear ht
        go_enter Try.func31, Try.ntmps31
        go_wp2
        go_ret
        exact ⟨rfl, wbox _ _⟩
    · have b2 : decide (E ≤ P) = false := by simp; omega
      obtain rfl : t = false := by cases t; rfl; exact absurd (ht.mp rfl) (by omega)
      clear ht
      go_enter Try.func31, Try.ntmps31
      go_wp2
      go_ret
      exact ⟨rfl, wbox _ _⟩
  · have b1 : decide (1 ≤ E) = false := by simp; omega
    obtain rfl : t = false := by cases t; rfl; exact absurd (ht.mp rfl) (by omega)
    clear ht
    go_enter Try.func31, Try.ntmps31
    go_wp2
    go_ret
    exact ⟨rfl, wbox _ _⟩
theorem wcheck_yes (E P : Int) (w : World) (hM : MayBe E P) :
    Calls Try.prog 31 #[.agg #[.int .i64 E, .int .i64 P]] w fun e w' => e = .returned (.bool true) ∧ Below w.heap.size w w' := wcheck_any E P w true ⟨fun _ => hM, fun _ => rfl⟩
theorem wheavy_yes (E P : Int) (w : World) (hM : MayBe E P) (t : Bool) (ht : t = decide (P ≤ 2 * E)) :
    Calls Try.prog 30 #[.agg #[.int .i64 E, .int .i64 P]] w fun e w' => e = .returned (.bool t) ∧ Below w.heap.size w w' := by
  have HM := Lib.hid hM
  have T := Lib.hid ht
  have K := Lib.hid (Blk.new w 25 #[Value.int .i64 E, Value.int .i64 P])
  clear hM ht
  go_enter Try.func30, Try.ntmps30
  go_wp2_with fail
  refine (wcheck_yes E P _ HM.out).mono ?_
  rintro e w1 ⟨rfl, hb⟩
  have B := Lib.hid (below_next (wbox _ _) hb)
  have k0 := (K.out.below hb).cell 0
  have k1 := (K.out.below hb).cell 1
  simp at k0 k1
  clear hb
  go_wp2_with fail
  refine (mheavy_any E P _ HM.out t T.out).mono ?_
  rintro e w2 ⟨rfl, hb⟩
  have B := Lib.hid (below_next B.out hb)
  clear hb
  go_wp2
  go_ret
  exact ⟨rfl, B.out⟩
/-- a number of a subtask -/
def Nth (i : Int) : Prop := 1 ≤ i ∧ i ≤ 1099511627776
end Go.Proofs.Ytidfldngiagpdaa
