/-
  A number that is read; the document's ReadNumber (regattaref16): contract.
-/
import Derived.Test.YtlcagjmppmajeaaSs4
import Derived.Laws.DeepStrings4
namespace Go.Proofs.Ytlcagjmppmajeaa
open Go.RowKit

def valN : List UInt8 → Nat
  | [] => 0
  | b :: l => b.toNat % 128 + 128 * valN l
theorem valN_snoc : ∀ (x : List UInt8) (b : UInt8), valN (x ++ [b]) = valN x + 128 ^ x.length * (b.toNat % 128)
  | [], b => by simp [valN]
  | y :: x, b => by
    rw [List.cons_append, valN, valN_snoc x b, valN, List.length_cons, Nat.pow_succ, Nat.mul_add, Nat.mul_comm (128 ^ x.length) 128, Nat.mul_assoc]
    omega
theorem valN_lt : ∀ x : List UInt8, valN x < 128 ^ x.length
  | [] => by simp [valN]
  | y :: x => by
    have := valN_lt x
    have h : y.toNat % 128 < 128 := Nat.mod_lt _ (by omega)
    rw [valN, List.length_cons, Nat.pow_succ]
    omega
/-- the number that these bytes begin with, and how many they are -/
def rdV (l : List UInt8) : Option (Nat × Nat) :=
  match (l.take 6).findIdx? (fun b => decide (b.toNat < 128)) with
  | none => none
  | some j => if num (valN (l.take (j + 1))) = l.take (j + 1) then some (valN (l.take (j + 1)), j + 1) else none
theorem rd_stop {l : List UInt8} {j : Nat} {b : UInt8} (hj : j < 6) (hb : l[j]? = some b) (h : b.toNat < 128) (hp : ∀ q, q < j → ∀ c, l[q]? = some c → 128 ≤ c.toNat) :
    rdV l = if num (valN (l.take (j + 1))) = l.take (j + 1) then some (valN (l.take (j + 1)), j + 1) else none := by
  have hl := lt_of_get hb
  have e : (l.take 6).findIdx? (fun b => decide (b.toNat < 128)) = some j := by
    rw [List.findIdx?_eq_some_iff_getElem]
    refine ⟨by rw [List.length_take]; omega, ?_, fun q hq => ?_⟩
    · rw [List.getElem?_eq_getElem hl] at hb
      simp at hb
      simpa [hb] using h
    · have := hp q hq l[q] (List.getElem?_eq_getElem (by omega))
      simp
      omega
  unfold rdV
  rw [e]
theorem rd_none {l : List UInt8} {j : Nat} (hj : j = 6 ∨ l.length ≤ j) (hp : ∀ q, q < j → ∀ c, l[q]? = some c → 128 ≤ c.toNat) : rdV l = none := by
  have e : (l.take 6).findIdx? (fun b => decide (b.toNat < 128)) = none := by
    rw [List.findIdx?_eq_none_iff]
    intro x hx
    obtain ⟨q, hq, rfl⟩ := List.getElem_of_mem hx
    rw [List.length_take] at hq
    have := hp q (by omega) l[q] (List.getElem?_eq_getElem (by omega))
    simp
    omega
  unfold rdV
  rw [e]
def gotE (p : Nat) : Option (Nat × Nat) → Nat
  | some (_, k) => p + k
  | none => 0
def gotN : Option (Nat × Nat) → Nat
  | some (n, _) => n
  | none => 0
theorem pow6 {j : Nat} (h : j ≤ 6) : 128 ^ j ≤ 4398046511104 := by
  have := Nat.pow_le_pow_right (show 0 < 128 by omega) h
  exact this
theorem BS_inj {a b : List UInt8} : BS a = BS b ↔ a = b := ⟨fun h => by unfold BS at h; simpa using h, fun h => by rw [h]⟩
theorem BS_list (x : List UInt8) : (BS x).toList = x := by
  unfold BS; simp
theorem ext_take (s : ByteArray) (p k : Nat) : s.extract p (p + k) = BS ((s.data.toList.drop p).take k) := by
  apply ByteArray.ext
  rw [ByteArray.data_extract]
  apply Array.ext'
  rw [Array.toList_extract, List.extract_eq_take_drop]
  simp [BS]
end Go.Proofs.Ytlcagjmppmajeaa
