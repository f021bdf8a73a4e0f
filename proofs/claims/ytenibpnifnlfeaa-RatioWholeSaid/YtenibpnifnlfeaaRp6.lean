/-
  So often a weight's share of one: plain facts.
-/
import Derived.Test.YtenibpnifnlfeaaRp4
namespace Go.Proofs.Ytenibpnifnlfeaa
open Go.RowKit

theorem sumR_rep (E P : Int) (hP : 0 < P) (k : Nat) : (sumR (List.replicate k (E, P))).1 * P = k * E * (sumR (List.replicate k (E, P))).2 ∧ 0 < (sumR (List.replicate k (E, P))).2 := by
  induction k with
  | zero => simp [sumR]
  | succ k ih =>
    obtain ⟨h1, h2⟩ := ih
    rw [List.replicate_succ', sumR_snoc]
    obtain ⟨x, hx⟩ : ∃ x, (sumR (List.replicate k (E, P))).1 = x := ⟨_, rfl⟩
    obtain ⟨y, hy⟩ : ∃ y, (sumR (List.replicate k (E, P))).2 = y := ⟨_, rfl⟩
    rw [hx, hy] at h1
    rw [hy] at h2
    rw [hx, hy]
    simp only
    refine ⟨?_, Int.mul_pos h2 hP⟩
    have s1 : (x * P + E * y) * P = (x * P) * P + E * (y * P) := by grind
    rw [s1, h1, Int.natCast_add]
    grind
theorem rep_whole {E P n d : Int} {k : Nat} (hE : 0 ≤ E) (hk : P = (k : Int)) (hP : 0 < P) (h : Lo n d) (e : n * (sumR (List.replicate k (E, P))).2 = (sumR (List.replicate k (E, P))).1 * d) : n = E ∧ d = 1 := by
  obtain ⟨h1, h2⟩ := sumR_rep E P hP k
  obtain ⟨x, hx⟩ : ∃ x, (sumR (List.replicate k (E, P))).1 = x := ⟨_, rfl⟩
  obtain ⟨y, hy⟩ : ∃ y, (sumR (List.replicate k (E, P))).2 = y := ⟨_, rfl⟩
  rw [hx, hy] at h1 e
  rw [hy] at h2
  rw [← hk] at h1
  have h3 : x = E * y := by
    refine Int.eq_of_mul_eq_mul_right (show P ≠ 0 by omega) ?_
    rw [h1]; grind
  rw [h3] at e
  refine lo_unique h ⟨hE, by omega, ?_⟩ ?_
  · obtain ⟨z, rfl⟩ := Int.eq_ofNat_of_zero_le hE
    show ((Nat.gcd z 1 : Nat) : Int) = 1
    rw [Nat.gcd_one_right]; rfl
  · refine Int.eq_of_mul_eq_mul_right (show y ≠ 0 by omega) ?_
    rw [Int.mul_one, e]; grind
theorem lo_one {a : Int} (h : 0 ≤ a) : Lo a 1 := ⟨h, by omega, by
  obtain ⟨z, rfl⟩ := Int.eq_ofNat_of_zero_le h
  show ((Nat.gcd z 1 : Nat) : Int) = 1
  rw [Nat.gcd_one_right]; rfl⟩
theorem add_wholes {a b n d : Int} (ha : 0 ≤ a) (hb : 0 ≤ b) (h : Lo n d) (e : n * (1 * 1) = (a * 1 + b * 1) * d) : n = a + b ∧ d = 1 :=
  lo_unique h (lo_one (by omega)) (by simp only [Int.mul_one] at e ⊢; exact e)
theorem and_bd32 (x : Int) : 0 ≤ bits .and .u32 x 1048575 ∧ bits .and .u32 x 1048575 ≤ 1048575 := by
  have h : (BitVec.ofInt 32 x &&& BitVec.ofInt 32 1048575).toNat ≤ 1048575 := by
    rw [BitVec.toNat_and]
    exact Nat.and_le_right
  have e : bits .and .u32 x 1048575 = ((BitVec.ofInt 32 x &&& BitVec.ofInt 32 1048575).toNat : Int) := by
    show IntKind.u32.wrap ((BitVec.ofInt 32 x &&& BitVec.ofInt 32 1048575).toNat : Int) = _
    exact IntWalk.u32_in _ (by omega)
  omega
theorem rep_snoc (k : Nat) (p : Int × Int) : List.replicate (k + 1) p = List.replicate k p ++ [p] := List.replicate_succ'
theorem tmod_bd (x k : Int) (hk : 0 < k) : -k < x.tmod k ∧ x.tmod k < k := ⟨Int.lt_tmod_of_pos x hk, Int.tmod_lt_of_pos x hk⟩
end Go.Proofs.Ytenibpnifnlfeaa
