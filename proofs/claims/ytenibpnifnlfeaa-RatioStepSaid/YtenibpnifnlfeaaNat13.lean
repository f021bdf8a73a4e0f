/-
  What package nat's Parse gives back: contract.
-/
import Derived.Test.YtenibpnifnlfeaaNat12
namespace Go.Proofs.Ytenibpnifnlfeaa
open Go.RowKit

theorem piece_pow (k : Nat) : (10 : Int) ^ (9 * k) ≤ 4294967296 ^ k := by
  induction k with
  | zero => simp
  | succ k ih =>
    rw [Nat.mul_succ, Int.pow_add, Int.pow_succ (4294967296 : Int)]
    have h1 : (10 : Int) ^ 9 = 1000000000 := by decide +kernel
    rw [h1]
    have h2 := ipow_pos (B := 4294967296) (by omega) k
    omega
/-- the bytes of a part of a text -/
theorem extract_list (s : ByteArray) (i j : Nat) : (s.extract i j).data.toList = (s.data.toList.take j).drop i := by
  rw [ByteArray.data_extract]
  simp [List.drop_take]
theorem val_parts {L : List UInt8} {i j : Nat} (hij : i ≤ j) (hj : j ≤ L.length) : val 10 (numL (L.take j)) = val 10 (numL (L.take i)) * 10 ^ (j - i) + val 10 (numL ((L.take j).drop i)) := by
  have h : L.take j = L.take i ++ (L.take j).drop i := by
    have := (List.take_append_drop i (L.take j)).symm
    rwa [List.take_take, Nat.min_eq_left hij] at this
  have hl : ((L.take j).drop i).length = j - i := by rw [List.length_drop, List.length_take]; omega
  have e : numL (L.take j) = numL ((L.take j).drop i) ++ numL (L.take i) := by
    rw [← numL_append, ← h]
  rw [e, val_append, numL_len, hl, Int.mul_comm]
  omega
theorem shift_step {B P v c x y V d c' : Int} (h : y * x + c = d + B * c') : v + P * d + P * B * (c' + x * V) = v + P * (c + x * (y + B * V)) := by grind

end Go.Proofs.Ytenibpnifnlfeaa
