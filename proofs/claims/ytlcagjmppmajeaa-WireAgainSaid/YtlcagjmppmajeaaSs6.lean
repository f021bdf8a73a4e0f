/-
  A reader's next number; the document's reader.next (regattaref16): contract.
-/
import Derived.Test.YtlcagjmppmajeaaSs5
namespace Go.Proofs.Ytlcagjmppmajeaa
open Go.RowKit

/-- the next number, where the reader stands behind it, whether it is bad -/
def nextV (l : List UInt8) (p : Nat) (bad : Bool) (most : Int) : Int × Nat × Bool :=
  match rdV (l.drop p) with
  | some (n, k) => if bad = true ∨ most < n then (0, p, true) else (n, p + k, false)
  | none => (0, p, true)
theorem rd_some {l : List UInt8} {n k : Nat} (h : rdV l = some (n, k)) : 1 ≤ k ∧ k ≤ 6 ∧ k ≤ l.length ∧ num n = l.take k ∧ n < 4398046511104 := by
  unfold rdV at h
  split at h
  · cases h
  · rename_i j hj
    rw [List.findIdx?_eq_some_iff_getElem] at hj
    obtain ⟨hl, _, _⟩ := hj
    rw [List.length_take] at hl
    split at h
    · rename_i e
      cases h
      have h1 := valN_lt (l.take (j + 1))
      have h2 := pow6 (show (l.take (j + 1)).length ≤ 6 by rw [List.length_take]; omega)
      exact ⟨by omega, by omega, by omega, e, by omega⟩
    · cases h
theorem nextV_bad {l : List UInt8} {p : Nat} {bad : Bool} {most : Int} (h : bad = true ∨ gotE p (rdV (l.drop p)) = 0 ∨ most < gotN (rdV (l.drop p))) : nextV l p bad most = (0, p, true) := by
  unfold nextV
  cases hv : rdV (l.drop p) with
  | none => rfl
  | some v =>
    obtain ⟨n, k⟩ := v
    have := rd_some hv
    rw [hv] at h
    simp only [gotN, gotE] at h ⊢
    rw [if_pos]
    rcases h with h | h | h
    · exact .inl h
    · omega
    · exact .inr h
theorem nextV_ok {l : List UInt8} {p : Nat} {bad : Bool} {most : Int} (h : bad = false) (h1 : gotE p (rdV (l.drop p)) ≠ 0) (h2 : ¬ most < gotN (rdV (l.drop p))) : nextV l p bad most = ((gotN (rdV (l.drop p)) : Int), gotE p (rdV (l.drop p)), false) := by
  unfold nextV
  cases hv : rdV (l.drop p) with
  | none => rw [hv] at h1; exact absurd rfl h1
  | some v =>
    obtain ⟨n, k⟩ := v
    rw [hv] at h2
    simp only [gotN, gotE] at h2 ⊢
    rw [if_neg]
    rintro (q | q)
    · rw [h] at q; cases q
    · exact h2 q
end Go.Proofs.Ytlcagjmppmajeaa
