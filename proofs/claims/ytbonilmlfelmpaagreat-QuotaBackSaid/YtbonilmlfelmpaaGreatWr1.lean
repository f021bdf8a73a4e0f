/-
  What the document's own windows (regattaref04) give back: contracts.
-/
import Derived.Test.YtbonilmlfelmpaaGreatWinA
namespace Go.Proofs.YtbonilmlfelmpaaGreat
open Go.RowKit

theorem r4check_any (E P : Int) (w : World) (t : Bool) (ht : t = true ↔ MayBe E P) :
    Calls Tryz.prog 42 #[.agg #[.int .i64 E, .int .i64 P]] w fun e w' => e = .returned (.bool t) ∧ Below w.heap.size w w' := by
  unfold MayBe at ht
  by_cases h1 : 1 ≤ E
  · have b1 : decide (1 ≤ E) = true := by simp; omega
    by_cases h2 : E ≤ P
    · have b2 : decide (E ≤ P) = true := by simp; omega
      by_cases h3 : P ≤ 1048576
      · have b3 : decide (P ≤ 1048576) = true := by simp; omega
        obtain rfl : t = true := ht.mpr ⟨h1, h2, h3⟩
        clear ht
        go_enter Tryz.func42, Tryz.ntmps42
        go_wp2
        go_ret
        exact ⟨rfl, wbox _ _⟩
      · have b3 : decide (P ≤ 1048576) = false := by simp; omega
        obtain rfl : t = false := by cases t; rfl; exact absurd (ht.mp rfl) (by omega)
        clear ht
        go_enter Tryz.func42, Tryz.ntmps42
        go_wp2
        go_ret
        exact ⟨rfl, wbox _ _⟩
    · have b2 : decide (E ≤ P) = false := by simp; omega
      obtain rfl : t = false := by cases t; rfl; exact absurd (ht.mp rfl) (by omega)
      clear ht
      go_enter Tryz.func42, Tryz.ntmps42
      go_wp2
      go_ret
      exact ⟨rfl, wbox _ _⟩
  · have b1 : decide (1 ≤ E) = false := by simp; omega
    obtain rfl : t = false := by cases t; rfl; exact absurd (ht.mp rfl) (by omega)
    clear ht
    go_enter Tryz.func42, Tryz.ntmps42
    go_wp2
    go_ret
    exact ⟨rfl, wbox _ _⟩
theorem r4check_yes (E P : Int) (w : World) (hM : MayBe E P) :
    Calls Tryz.prog 42 #[.agg #[.int .i64 E, .int .i64 P]] w fun e w' => e = .returned (.bool true) ∧ Below w.heap.size w w' := r4check_any E P w true ⟨fun _ => hM, fun _ => rfl⟩
end Go.Proofs.YtbonilmlfelmpaaGreat
