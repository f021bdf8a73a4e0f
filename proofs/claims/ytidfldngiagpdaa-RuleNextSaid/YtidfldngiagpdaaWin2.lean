/-
  What the laws' own made gives back: a weight that may be: contract.
-/
import Derived.Test.YtidfldngiagpdaaProg
import Derived.Test.YtidfldngiagpdaaWin1
import Derived.Test.YtidfldngiagpdaaKit
import Derived.Laws.BitsAllLaws
namespace Go.Proofs.Ytidfldngiagpdaa
open Go.RowKit

/-- a weight that may be: E by P -/
def MayBe (E P : Int) : Prop := 1 ≤ E ∧ E ≤ P ∧ P ≤ 1048576
def GivesW (w : World) (e : Ending) (w' : World) : Prop :=
  ∃ E P, e = .returned (.agg #[.int .i64 E, .int .i64 P]) ∧ MayBe E P ∧ Below w.heap.size w w'
theorem mask_bd (x : Int) : 0 ≤ bits .and .i64 x 1048575 ∧ bits .and .i64 x 1048575 ≤ 1048575 := by
  have h : (BitVec.ofInt 64 x &&& BitVec.ofInt 64 1048575).toNat ≤ 1048575 := by
    rw [BitVec.toNat_and]
    exact Nat.and_le_right
  have e : bits .and .i64 x 1048575 = ((BitVec.ofInt 64 x &&& BitVec.ofInt 64 1048575).toNat : Int) := by
    show IntKind.i64.wrap ((BitVec.ofInt 64 x &&& BitVec.ofInt 64 1048575).toNat : Int) = _
    exact IntWalk.i64_in _ (by omega)
  omega
theorem wmade_any (qa qb : Int) (w : World) : Calls Try.prog 9 #[.agg #[.int .i64 qa, .int .i64 qb]] w (GivesW w) := by
  obtain ⟨m, hm⟩ : ∃ m, bits .and .i64 qb 1048575 = m := ⟨_, rfl⟩
  have mb := mask_bd qb
  rw [hm] at mb
  obtain ⟨m0, m1⟩ := mb
  have r1 := Int.lt_tmod_of_pos qa (show 0 < 1 + m by omega)
  have r2 := Int.tmod_lt_of_pos qa (show 0 < 1 + m by omega)
  obtain ⟨r, hr⟩ : ∃ r, qa.tmod (1 + m) = r := ⟨_, rfl⟩
  rw [hr] at r1 r2
  have e0 := Int.emod_nonneg r (show 1 + m ≠ 0 by omega)
  have e1 := Int.emod_lt_of_pos r (show 0 < 1 + m by omega)
  go_enter Try.func9, Try.ntmps9
  go_wp2
  refine bodyPost_ret (v := .agg #[.int .i64 (1 + r % (1 + m)), .int .i64 (1 + m)]) (by simp [results, Try.results9, go_sem]) rfl ⟨_, _, rfl, ⟨by omega, by omega, by omega⟩, ?_⟩
  exact ((Below.refl _ _).alloc (Nat.le_refl _) _).alloc (by simp) _
end Go.Proofs.Ytidfldngiagpdaa
