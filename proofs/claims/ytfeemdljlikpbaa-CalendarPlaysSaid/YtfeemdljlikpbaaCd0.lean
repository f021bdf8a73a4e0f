/-
  Plain facts for CalendarDue: events that are the same; what was put is found.
-/
import Derived.Test.YtfeemdljlikpbaaCz6
import Derived.BigQuiet
namespace Go.Proofs.Ytfeemdljlikpbaa
open Go.RowKit

def eqE (x y : Ev) : Bool := y.d == x.d && (y.i == x.i && y.k == x.k)
theorem eqE_run (y x : Ev) (w : World) : (binOp BinOp.eql 31 (.agg #[.int .i64 y.d, .int .i64 y.i, .int .i64 y.k]) (.agg #[.int .i64 x.d, .int .i64 x.i, .int .i64 x.k])).run Try.prog w = .ok (.bool (eqE x y)) w := by
  go_simp
  unfold eqE
  by_cases a : y.d = x.d <;> by_cases b : y.i = x.i <;> by_cases c : y.k = x.k <;> simp [a, b, c]
theorem eqE_self (x : Ev) : eqE x x = true := by unfold eqE; simp
theorem any_eqE {x : Ev} {l : List Ev} (h : x ∈ l) : l.any (eqE x) = true := List.any_eq_true.mpr ⟨x, h, eqE_self x⟩
theorem any_take {l : List Ev} {x y : Ev} {k : Nat} (h : l[k]? = some y) : (l.take (k + 1)).any (eqE x) = ((l.take k).any (eqE x) || eqE x y) := by
  rw [List.take_add_one, h, List.any_append]
  simp
theorem own_slice (ad : Addr) (n c : Nat) : (Value.slice (some ad) n c).ownBlock = some ad.block := by simp [Value.ownBlock]
end Go.Proofs.Ytfeemdljlikpbaa
