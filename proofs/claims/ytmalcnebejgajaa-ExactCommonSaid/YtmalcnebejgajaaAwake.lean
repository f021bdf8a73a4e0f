/-
  The chapter's examples hold: awake answers true; nothing that was there is written.
-/
import Derived.Test.YtmalcnebejgajaaLcm
import Derived.WalkSmall
import Derived.OpenShut
namespace Go.Proofs.Ytmalcnebejgajaa
open Go.RowKit

theorem fits_wf {n : Int} (h : (Lit.int .i64 n).wf = true) : Fits n := by
  have := bounds_i64 h
  exact ⟨by omega, by omega⟩

theorem lcm_two (x y : Int) (w : World) (b cap : Nat) (hx : Fits x) (hy : Fits y) (c0 : w.cell? ⟨b, 0, none⟩ = some (.int .i64 x)) (c1 : w.cell? ⟨b, 1, none⟩ = some (.int .i64 y)) :
    Calls Try.prog 22 #[.slice (some ⟨b, 0, none⟩) 2 cap] w fun e w' => e = .returned (.tuple #[.int .i64 (rowL 1 [x, y]).1, .int .i64 (rowL 1 [x, y]).2]) ∧ ∃ n, w' = w.drewN n := by
  refine lcm_row [x, y] b 0 cap w ?_ (by simp) ?_
  · intro z hz
    simp at hz
    rcases hz with rfl | rfl
    · exact hx
    · exact hy
  · intro i hi
    match i, hi with
    | 0, _ => exact c0
    | 1, _ => exact c1

theorem awake_any (w : World) :
    Calls Try.prog 9 #[] w fun e w' => e = .returned (.bool true) ∧ Below w.heap.size w w' := by
  go_enter Try.func9, Try.ntmps9
  go_wp2_with (first | (go_at_call 16; refine (floor_any _ _ _ (by decide) (by decide)).mono ?_; rintro e w' ⟨rfl, rfl⟩) | (go_at_call 18; refine (ceil_any _ _ _ (by decide) (by decide)).mono ?_; rintro e w' ⟨rfl, rfl⟩))
  refine (lcm_two 4 6 _ _ _ (by decide) (by decide) (by go_simp) (by go_simp)).mono ?_
  rintro e w' ⟨rfl, n, rfl⟩
  have f1 : fv (-7) 2 = -4 := by decide
  have f2 : cv (-7) 2 = -3 := by decide
  have f3 : (rowL 1 [4, 6]).1 = 12 := by decide
  have f4 : (rowL 1 [4, 6]).2 = 0 := by decide
  go_wp2
  go_ret
  exact ⟨rfl, below_drewN ((Below.refl _ _).alloc (Nat.le_refl _) _) _⟩
end Go.Proofs.Ytmalcnebejgajaa
