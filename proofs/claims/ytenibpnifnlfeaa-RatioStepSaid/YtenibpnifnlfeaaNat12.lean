/-
  What package nat's formed and read give back: contracts.
-/
import Derived.Test.YtenibpnifnlfeaaNat11
namespace Go.Proofs.Ytenibpnifnlfeaa
open Go.RowKit

theorem take_bytes {s : ByteArray} {i : Nat} (h : i < s.size) : s.data.toList.take (i + 1) = s.data.toList.take i ++ [s[i]] := by
  rw [List.take_succ_eq_append_getElem (by simpa using h)]; rfl
theorem bool_of_not {r : Bool} {p : Prop} (hr : r = true ↔ p) (h : ¬ p) : r = false := by
  cases r
  · rfl
  · exact absurd (hr.mp rfl) h

theorem numL_append (x y : List UInt8) : numL (x ++ y) = numL y ++ numL x := by simp [numL]
theorem numL_len (x : List UInt8) : (numL x).length = x.length := by simp [numL]

end Go.Proofs.Ytenibpnifnlfeaa
