/-
  What the laws' own made gives back: a weight that may be: contract.
-/
import Derived.Test.YtlcagjmppmajeaaProg
import Derived.Test.YtlcagjmppmajeaaWin1
import Derived.Test.YtlcagjmppmajeaaKit
import Derived.Laws.BitsAllLaws
namespace Go.Proofs.Ytlcagjmppmajeaa
open Go.RowKit

/-- a weight that may be: E by P -/
def MayBe (E P : Int) : Prop := 1 ≤ E ∧ E ≤ P ∧ P ≤ 1048576
def GivesW (w : World) (e : Ending) (w' : World) : Prop :=
  ∃ E P, e = .returned (.agg #[.int .i64 E, .int .i64 P]) ∧ MayBe E P ∧ Below w.heap.size w w'
theorem mask_bd (x : Int) : 0 ≤ bits .and .i64 x 1048575 ∧ bits .and .i64 x 1048575 ≤ 1048575 := by
  have h : (BitVec.ofInt 64 x &&& BitVec.ofInt 64 1048575).toNat ≤ 1048575 := by
    rw [BitVec.toNat_and]
    exact Nat.and_le_right
  have e : bits .and .i64 x 1048575 = ((BitVec.ofInt 64 x &&& BitVec.ofInt 64 1048575).toNat : Int) := by
    show IntKind.i64.wrap ((BitVec.ofInt 64 x &&& BitVec.ofInt 64 1048575).toNat : Int) = _
    exact IntWalk.i64_in _ (by omega)
  omega
end Go.Proofs.Ytlcagjmppmajeaa
