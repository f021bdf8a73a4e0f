/-
  What the laws' own awake gives back: contract; masks.
-/
import Derived.Test.YtidfldngiagpdaaWin6
namespace Go.Proofs.Ytidfldngiagpdaa
open Go.RowKit

theorem mask_le (x c : Int) (c0 : 0 ≤ c) (c1 : c ≤ 4611686018427387904) : 0 ≤ bits .and .i64 x c ∧ bits .and .i64 x c ≤ c := by
  obtain ⟨k, rfl⟩ := Int.eq_ofNat_of_zero_le c0
  have hk : (BitVec.ofInt 64 (k : Int)).toNat = k := by
    rw [BitVec.ofInt_natCast, BitVec.toNat_ofNat]; omega
  have h : (BitVec.ofInt 64 x &&& BitVec.ofInt 64 (k : Int)).toNat ≤ k := by
    rw [BitVec.toNat_and]
    have := Nat.and_le_right (n := (BitVec.ofInt 64 x).toNat) (m := (BitVec.ofInt 64 (k : Int)).toNat)
    omega
  have e : bits .and .i64 x (k : Int) = ((BitVec.ofInt 64 x &&& BitVec.ofInt 64 (k : Int)).toNat : Int) := by
    show IntKind.i64.wrap ((BitVec.ofInt 64 x &&& BitVec.ofInt 64 (k : Int)).toNat : Int) = _
    exact IntWalk.i64_in _ (by omega)
  omega

theorem ex_may : MayBe 8 11 := ⟨by decide, by decide, by decide⟩
theorem ex_nth3 : Nth 3 := ⟨by decide, by decide⟩
theorem ex_nth1 : Nth 1 := ⟨by decide, by decide⟩
theorem ex_sub : subV 3 (wR 8 11 3 + 0) (wD 8 11 3 + 0) (wB 8 11 3) 8 = .agg #[.int .i64 3, .int .i64 2, .int .i64 5, .int .i64 1, .int .i64 8] := by
  rw [show wR 8 11 3 + 0 = 2 by decide, show wD 8 11 3 + 0 = 5 by decide, show wB 8 11 3 = 1 by decide]; rfl
end Go.Proofs.Ytidfldngiagpdaa
