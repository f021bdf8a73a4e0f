/-
  The walk of the law FluidLag.
-/
import Derived.Test.YtnmiiebfpeoafaaFl3
namespace Go.Proofs.Ytnmiiebfpeoafaa
open Go.RowKit

theorem flag_at (E P t q v : Int) (w : World) (h : MayBe E P ∧ Sl t ∧ Sl q) (hv : E * t - P * q = v) :
    Calls Try.prog 21 #[.agg #[.int .i64 E, .int .i64 P], .int .i64 t, .int .i64 q] w fun e w' => e = .returned (.tuple #[.int .i64 v, .int .i64 0]) ∧ Below w.heap.size w w' := by
  have := flag_yes E P t q w h
  rw [lagV_yes h, lagE_yes h, hv] at this
  exact this
set_option maxHeartbeats 1000000 in
theorem f9lag_walk (qa qb na nb : Int) (w : World) : Calls Try.prog 8 #[.agg #[.int .i64 qa, .int .i64 qb], .agg #[.int .i64 na, .int .i64 nb]] w fun e w' => e = .returned (.bool true) ∧ Below w.heap.size w w' := by
  obtain ⟨t, ht⟩ : ∃ t, bits .and .i64 na 1073741823 = t := ⟨_, rfl⟩
  have mt := mask_le na 1073741823 (by omega) (by omega)
  rw [ht] at mt
  obtain ⟨a, ha⟩ : ∃ a, bits .and .i64 nb 1073741823 = a := ⟨_, rfl⟩
  have ma := mask_le nb 1073741823 (by omega) (by omega)
  rw [ha] at ma
  have Q1 := Lib.hid ((Blk.new w 22 #[Value.int .i64 qa, Value.int .i64 qb]).alloc (.cells #[Value.int .i64 na, Value.int .i64 nb] 46))
  have Q2 := Lib.hid (Blk.new2 w (.cells #[Value.int .i64 qa, Value.int .i64 qb] 22) 46 #[Value.int .i64 na, Value.int .i64 nb])
  go_enter Try.func8, Try.ntmps8
  go_wp2_with fail
  refine (f9awake_any _).mono ?_
  rintro e w1 ⟨rfl, hb⟩
  have B := Lib.hid (below_next (wbox2 _ _ _) hb)
  have q0 := (Q1.out.below hb).cell 0
  have q1 := (Q1.out.below hb).cell 1
  simp at q0 q1
  have N := Lib.hid (Q2.out.below hb)
  clear hb Q1 Q2
  go_wp2_with fail
  refine (wmade_any qa qb _).mono ?_
  rintro e w2 ⟨E, P, rfl, hM, hb⟩
  have B := Lib.hid (below_next (below_next B.out hb) (wbox _ (Obj.cells #[Value.int .i64 E, Value.int .i64 P] 24)))
  have n0 := ((N.out.below hb).alloc (Obj.cells #[Value.int .i64 E, Value.int .i64 P] 24)).cell 0
  have n1 := ((N.out.below hb).alloc (Obj.cells #[Value.int .i64 E, Value.int .i64 P] 24)).cell 1
  simp at n0 n1
  have K := Lib.hid (Blk.new w2 24 #[Value.int .i64 E, Value.int .i64 P])
  clear hb q0 q1 N
  obtain ⟨t0, t1⟩ := mt
  obtain ⟨a0, a1⟩ := ma
  have E0 : 0 < E := hM.1
  have EP : E ≤ P := hM.2.1
  have P9 : P ≤ 1048576 := hM.2.2
  have st : Sl t := ⟨by omega, by omega⟩
  have sa : Sl a := ⟨by omega, by omega⟩
  have H1 := Lib.hid (show MayBe E P ∧ Sl t ∧ Sl a from ⟨hM, st, sa⟩)
  have H2 := Lib.hid (show MayBe E P ∧ Sl (t + 1) ∧ Sl a from ⟨hM, ⟨by omega, by omega⟩, sa⟩)
  have H3 := Lib.hid (show MayBe E P ∧ Sl t ∧ Sl (a + 1) from ⟨hM, st, ⟨by omega, by omega⟩⟩)
  have H4 := Lib.hid (show MayBe E P ∧ Sl (t + P) ∧ Sl (a + E) from ⟨hM, ⟨by omega, by omega⟩, ⟨by omega, by omega⟩⟩)
  have f1 := fit_et hM st
  have f2 := fit_pt hM sa
  obtain ⟨X, hX⟩ : ∃ X, E * t - P * a = X := ⟨_, rfl⟩
  have HX := Lib.hid hX
  have xb : -1152921504606846976 ≤ X ∧ X ≤ 1152921504606846976 := by omega
  obtain ⟨Y, hY⟩ : ∃ Y, X + E = Y := ⟨_, rfl⟩
  obtain ⟨Z, hZ⟩ : ∃ Z, X - P = Z := ⟨_, rfl⟩
  have HY := Lib.hid (show E * (t + 1) - P * a = Y by rw [Int.mul_add, Int.mul_one]; omega)
  have HZ := Lib.hid (show E * t - P * (a + 1) = Z by rw [Int.mul_add, Int.mul_one]; omega)
  have HV := Lib.hid (show E * (t + P) - P * (a + E) = X by rw [Int.mul_add, Int.mul_add, Int.mul_comm P E]; omega)
  have g1 : IntKind.i64.wrap (Y - X) = E := by rw [show Y - X = E by omega]; exact IntWalk.i64_in _ (by omega)
  have g2 : IntKind.i64.wrap (X - Z) = P := by rw [show X - Z = P by omega]; exact IntWalk.i64_in _ (by omega)
  clear hM st sa f1 f2 hX xb hY hZ
  go_wp2_with fail
  refine (flag_at E P t a X _ H1.out HX.out).mono ?_
  rintro e w3 ⟨rfl, hb⟩
  have B := Lib.hid (below_next B.out hb)
  have K := Lib.hid (K.out.below hb)
  clear hb n0 n1
  have k0 := K.out.cell 0
  have k1 := K.out.cell 1
  simp at k0 k1
  go_wp2_with fail
  refine (flag_at E P (t + 1) a Y _ H2.out HY.out).mono ?_
  rintro e w4 ⟨rfl, hb⟩
  have B := Lib.hid (below_next B.out hb)
  have K := Lib.hid (K.out.below hb)
  clear hb k0 k1
  have k0 := K.out.cell 0
  have k1 := K.out.cell 1
  simp at k0 k1
  go_wp2_with fail
  refine (flag_at E P t (a + 1) Z _ H3.out HZ.out).mono ?_
  rintro e w5 ⟨rfl, hb⟩
  have B := Lib.hid (below_next B.out hb)
  have K := Lib.hid (K.out.below hb)
  clear hb k0 k1
  have k0 := K.out.cell 0
  have k1 := K.out.cell 1
  simp at k0 k1
  go_wp2_with fail
  refine (flag_at E P (t + P) (a + E) X _ H4.out HV.out).mono ?_
  rintro e w6 ⟨rfl, hb⟩
  have B := Lib.hid (below_next B.out hb)
  have K := Lib.hid (K.out.below hb)
  clear hb k0 k1
  have k0 := K.out.cell 0
  have k1 := K.out.cell 1
  simp at k0 k1
  go_wp2
  go_ret
  exact ⟨rfl, B.out⟩
end Go.Proofs.Ytnmiiebfpeoafaa
