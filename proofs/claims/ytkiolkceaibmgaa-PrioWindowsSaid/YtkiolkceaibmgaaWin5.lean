/-
  What package window's own functions give back: contracts.
-/
import Derived.Test.YtkiolkceaibmgaaWin4
namespace Go.Proofs.Ytkiolkceaibmgaa
open Go.RowKit

/-- a number of a subtask -/
def Nth (i : Int) : Prop := 1 ≤ i ∧ i ≤ 1099511627776
end Go.Proofs.Ytkiolkceaibmgaa
