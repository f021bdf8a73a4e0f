/-
  The stand-in's seats: Left.
-/
import Derived.Test.YtgkmhnkndjfcaaaUw4
namespace Go.Proofs.Ytgkmhnkndjfcaaa
open Go.Conc Go.RowKit

set_option maxRecDepth 20000 in
theorem sleft_any (g c n : Nat) (fr : List Int) (v : Value) (w : World) (X : Blk w 43 g #[.chan (some c), v]) (H : Ch w c n fr) :
    Calls Try.prog 17 #[.pointer (some ⟨g, 0, none⟩)] w fun z w' => z = .returned (.int .i64 (fr.length : Int)) ∧ w' = w := by
  have x0 := X.cell 0
  simp at x0
  obtain ⟨s, r, hc⟩ := H
  have hu : Try.prog.underlying 40 = some (.chan .both 3) := by kernel_rfl
  have hl := fun ty => run_len_chan (P := Try.prog) (w := w) 40 ty hu hc
  simp only [List.size_toArray, List.length_map] at hl
  go_enter Try.func17, Try.ntmps17
  go_wp2
  go_ret
  exact ⟨rfl, rfl⟩
end Go.Proofs.Ytgkmhnkndjfcaaa
