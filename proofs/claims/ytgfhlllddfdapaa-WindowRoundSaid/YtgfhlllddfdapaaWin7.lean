/-
  What the laws' own awake gives back: contract; masks.
-/
import Derived.Test.YtgfhlllddfdapaaWin6
namespace Go.Proofs.Ytgfhlllddfdapaa
open Go.RowKit

theorem mask_le (x c : Int) (c0 : 0 ≤ c) (c1 : c ≤ 4611686018427387904) : 0 ≤ bits .and .i64 x c ∧ bits .and .i64 x c ≤ c := by
  obtain ⟨k, rfl⟩ := Int.eq_ofNat_of_zero_le c0
  have hk : (BitVec.ofInt 64 (k : Int)).toNat = k := by
    rw [BitVec.ofInt_natCast, BitVec.toNat_ofNat]; omega
  have h : (BitVec.ofInt 64 x &&& BitVec.ofInt 64 (k : Int)).toNat ≤ k := by
    rw [BitVec.toNat_and]
    have := Nat.and_le_right (n := (BitVec.ofInt 64 x).toNat) (m := (BitVec.ofInt 64 (k : Int)).toNat)
    omega
  have e : bits .and .i64 x (k : Int) = ((BitVec.ofInt 64 x &&& BitVec.ofInt 64 (k : Int)).toNat : Int) := by
    show IntKind.i64.wrap ((BitVec.ofInt 64 x &&& BitVec.ofInt 64 (k : Int)).toNat : Int) = _
    exact IntWalk.i64_in _ (by omega)
  omega

theorem ex_may : MayBe 8 11 := ⟨by decide, by decide, by decide⟩
theorem ex_nth3 : Nth 3 := ⟨by decide, by decide⟩
theorem ex_nth1 : Nth 1 := ⟨by decide, by decide⟩
theorem ex_sub : subV 3 (wR 8 11 3 + 0) (wD 8 11 3 + 0) (wB 8 11 3) 8 = .agg #[.int .i64 3, .int .i64 2, .int .i64 5, .int .i64 1, .int .i64 8] := by
  rw [show wR 8 11 3 + 0 = 2 by decide, show wD 8 11 3 + 0 = 5 by decide, show wB 8 11 3 = 1 by decide]; rfl
theorem wawake_any (w : World) : Calls Try.prog 8 #[] w fun e w' => e = .returned (.bool true) ∧ Below w.heap.size w w' := by
  have M := Lib.hid ex_may
  have N3 := Lib.hid ex_nth3
  have N1 := Lib.hid ex_nth1
  have V := Lib.hid ex_sub
  have G := Lib.hid (show (8 : Int) = if wG 8 11 3 = 0 then 0 else wG 8 11 3 + 0 by decide)
  have G1 := Lib.hid (show wG 8 11 1 = 4 by decide)
  have K := Lib.hid (Blk.new w 25 #[Value.int .i64 8, Value.int .i64 11])
  have OF := Lib.hid (wof_yes 8 11 3 0 (w.alloc (.cells #[.int .i64 8, .int .i64 11] 25)) M.out N3.out (by decide) (by decide) 8 G.out)
  go_enter Try.func8, Try.ntmps8
  go_wp2_with fail
  refine OF.out.mono ?_
  rintro e w1 ⟨rfl, hb⟩
  rw [V.out]
  have B := Lib.hid (below_next (wbox _ _) hb)
  have K := Lib.hid (((K.out.below hb).alloc (.cells #[.int .i64 3, .int .i64 2, .int .i64 5, .int .i64 1, .int .i64 8] 33)).alloc (.cells #[.int .i64 3, .int .i64 2, .int .i64 5, .int .i64 1, .int .i64 8] 33))
  have k0 := K.out.cell 0
  have k1 := K.out.cell 1
  simp at k0 k1
  clear hb OF
  go_wp2_with fail
  refine (wcheck_yes 8 11 _ M.out).mono ?_
  rintro e w2 ⟨rfl, hb⟩
  have B := Lib.hid (below_next (below_next B.out (wbox2 _ _ _)) hb)
  have K := Lib.hid (K.out.below hb)
  clear k0 k1 hb
  have k0 := K.out.cell 0
  have k1 := K.out.cell 1
  simp at k0 k1
  go_wp2_with fail
  refine (wheavy_yes 8 11 _ M.out true (by decide)).mono ?_
  rintro e w3 ⟨rfl, hb⟩
  have B := Lib.hid (below_next B.out hb)
  have K := Lib.hid (K.out.below hb)
  clear k0 k1 hb
  have k0 := K.out.cell 0
  have k1 := K.out.cell 1
  simp at k0 k1
  go_wp2_with fail
  refine (wgroup_yes 8 11 1 _ M.out N1.out).mono ?_
  rintro e w4 ⟨rfl, hb⟩
  rw [G1.out]
  have B := Lib.hid (below_next B.out hb)
  clear hb k0 k1
  go_wp2
  go_ret
  exact ⟨rfl, B.out⟩
theorem wrelease_at (E P i v : Int) (w : World) (hM : MayBe E P) (hi : Nth i) (hv : wR E P i = v) :
    Calls Try.prog 10 #[.agg #[.int .i64 E, .int .i64 P], .int .i64 i] w fun e w' => e = .returned (.int .i64 v) ∧ Below w.heap.size w w' := by
  subst hv; exact wrelease_yes E P i w hM hi
theorem wdeadline_at (E P i v : Int) (w : World) (hM : MayBe E P) (hi : Nth i) (hv : wD E P i = v) :
    Calls Try.prog 11 #[.agg #[.int .i64 E, .int .i64 P], .int .i64 i] w fun e w' => e = .returned (.int .i64 v) ∧ Below w.heap.size w w' := by
  subst hv; exact wdeadline_yes E P i w hM hi
theorem wbit_at (E P i v : Int) (w : World) (hM : MayBe E P) (hi : Nth i) (hv : wB E P i = v) :
    Calls Try.prog 12 #[.agg #[.int .i64 E, .int .i64 P], .int .i64 i] w fun e w' => e = .returned (.int .i64 v) ∧ Below w.heap.size w w' := by
  subst hv; exact wbit_yes E P i w hM hi
theorem wgroup_at (E P i v : Int) (w : World) (hM : MayBe E P) (hi : Nth i) (hv : wG E P i = v) :
    Calls Try.prog 14 #[.agg #[.int .i64 E, .int .i64 P], .int .i64 i] w fun e w' => e = .returned (.int .i64 v) ∧ Below w.heap.size w w' := by
  subst hv; exact wgroup_yes E P i w hM hi
theorem wlong_at (E P i v : Int) (w : World) (hM : MayBe E P) (hi : Nth i) (hv : wD E P i - wR E P i = v) :
    Calls Try.prog 13 #[.agg #[.int .i64 E, .int .i64 P], .int .i64 i] w fun e w' => e = .returned (.int .i64 v) ∧ Below w.heap.size w w' := by
  subst hv; exact wlong_yes E P i w hM hi
end Go.Proofs.Ytgfhlllddfdapaa
