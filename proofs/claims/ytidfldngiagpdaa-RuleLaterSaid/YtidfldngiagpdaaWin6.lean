/-
  What package window's later, sub and Of give back: contracts.
-/
import Derived.Test.YtidfldngiagpdaaWin5
import Derived.Laws.Cover1
namespace Go.Proofs.Ytidfldngiagpdaa
open Go.RowKit

/-- a subtask, by value -/
def subV (I R D B G : Int) : Value := .agg #[.int .i64 I, .int .i64 R, .int .i64 D, .int .i64 B, .int .i64 G]
theorem max_three (P : Program) (w : World) (ts : Array TypeId) (t : TypeId) (R D G M : Int) (h : M = if G > (if D > R then D else R) then G else (if D > R then D else R)) :
    (Builtin.max_ ts t #[.int .i64 R, .int .i64 D, .int .i64 G]).run P w = .ok (.int .i64 M) w := by
  rw [h]; simp only [run_max_int3]
end Go.Proofs.Ytidfldngiagpdaa
