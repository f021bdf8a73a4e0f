/-
  The walk of the law FluidDue.
-/
import Derived.Test.YtnmiiebfpeoafaaFl3
import Derived.Test.YtnmiiebfpeoafaaWr1
namespace Go.Proofs.Ytnmiiebfpeoafaa
open Go.RowKit

set_option maxHeartbeats 2000000 in
theorem f9due_walk (qa qb n : Int) (w : World) : Calls Try.prog 7 #[.agg #[.int .i64 qa, .int .i64 qb], .int .i64 n] w fun e w' => e = .returned (.bool true) ∧ Below w.heap.size w w' := by
  obtain ⟨t, ht⟩ : ∃ t, bits .and .i64 n 1073741823 = t := ⟨_, rfl⟩
  have mt := mask_le n 1073741823 (by omega) (by omega)
  rw [ht] at mt
  have Q := Lib.hid (Blk.new w 22 #[Value.int .i64 qa, Value.int .i64 qb])
  go_enter Try.func7, Try.ntmps7
  go_wp2_with fail
  refine (f9awake_any _).mono ?_
  rintro e w1 ⟨rfl, hb⟩
  have B := Lib.hid (below_next (wbox _ _) hb)
  have q0 := (Q.out.below hb).cell 0
  have q1 := (Q.out.below hb).cell 1
  simp at q0 q1
  clear hb Q
  go_wp2_with fail
  refine (wmade_any qa qb _).mono ?_
  rintro e w2 ⟨E, P, rfl, hM, hb⟩
  have B := Lib.hid (below_next (below_next B.out hb) (wbox _ (Obj.cells #[Value.int .i64 E, Value.int .i64 P] 24)))
  have K := Lib.hid (Blk.new w2 24 #[Value.int .i64 E, Value.int .i64 P])
  clear hb q0 q1
  obtain ⟨t0, t1⟩ := mt
  have HM := Lib.hid hM
  have st : Sl t := ⟨by omega, by omega⟩
  have st1 : Sl (t + 1) := ⟨by omega, by omega⟩
  have lf := lowV_fit hM st
  have hl := low_mono hM st st1
  have hh := high_mono hM st st1
  have hf := highV_fit hM st
  have hf1 := highV_fit hM st1
  have N1 := Lib.hid (show Nth (lowV E P t + 1) from ⟨by omega, by omega⟩)
  have d0 := low_dead (i := lowV E P t + 1) hM st
  have d1 := low_dead (i := lowV E P t + 1) hM st1
  obtain ⟨U, hU⟩ : ∃ U, lowV E P t = U := ⟨_, rfl⟩
  obtain ⟨V, hV⟩ : ∃ V, lowV E P (t + 1) = V := ⟨_, rfl⟩
  obtain ⟨X, hX⟩ : ∃ X, highV E P t = X := ⟨_, rfl⟩
  obtain ⟨Y, hY⟩ : ∃ Y, highV E P (t + 1) = Y := ⟨_, rfl⟩
  have wt : IntKind.i64.wrap (t + 1) = t + 1 := IntWalk.i64_in _ (by omega)
  have hD : dueB E P t = decide (U < V) := by unfold dueB; rw [wt, hU, hV]
  rw [hU] at lf hl N1 d0 d1
  rw [hV] at hl d1
  rw [hX] at hf hh
  rw [hY] at hf1 hh
  obtain ⟨D, hDl⟩ : ∃ D, wD E P (U + 1) = D := ⟨_, rfl⟩
  rw [hDl] at d0 d1
  have HU := Lib.hid hU; have HV := Lib.hid hV; have HX := Lib.hid hX; have HY := Lib.hid hY; have HD := Lib.hid hDl
  clear hU hV hX hY hDl
  -- is it due?
  obtain ⟨b, hb⟩ : ∃ b : Bool, decide (U < V) = b := ⟨_, rfl⟩
  have HB := Lib.hid (hD.trans hb)
  have dt : (D == t + 1) = b := by
    rw [← hb]
    by_cases g : U < V
    · have : D = t + 1 := by
        have a1 := d1.mpr (by omega)
        have a2 : ¬ D ≤ t := fun h => by have := d0.mp h; omega
        omega
      rw [this]; simp [g]
    · have : ¬ D = t + 1 := fun h => by have := d1.mp (by omega); omega
      simp [g, this]
  have vb : decide (V - U ≤ 1) = true := by simp; omega
  have wv : IntKind.i64.wrap (V - U) = V - U := IntWalk.i64_in _ (by omega)
  have xb : decide (X ≤ Y) = true := by simp; omega
  have u0 : 0 ≤ U := lf.1
  have u1 : U ≤ 1073741823 := by omega
  clear hM st st1 lf hl hh hf hf1 d0 d1 hD hb
  go_wp2_with fail
  refine (flow_any E P t U _ HU.out).mono ?_
  rintro e w3 ⟨rfl, hb⟩
  have B := Lib.hid (below_next B.out hb)
  have K := Lib.hid (K.out.below hb)
  clear hb
  try clear k0 k1
  have k0 := K.out.cell 0
  have k1 := K.out.cell 1
  simp at k0 k1
  go_wp2_with fail
  refine (r4deadline_yes E P (U + 1) D _ HM.out N1.out HD.out).mono ?_
  rintro e w4 ⟨rfl, hb⟩
  have B := Lib.hid (below_next B.out hb)
  have K := Lib.hid (K.out.below hb)
  clear hb
  try clear k0 k1
  have k0 := K.out.cell 0
  have k1 := K.out.cell 1
  simp at k0 k1
  go_wp2_with fail
  have KEPT := Lib.hid (show ∀ w' : World, Below w4.heap.size w4 w' → w'.cell? ⟨w2.heap.size, 0, none⟩ = some (.int .i64 E) ∧ w'.cell? ⟨w2.heap.size, 1, none⟩ = some (.int .i64 P) from fun w' h => ⟨(K.out.below h).cell 0, (K.out.below h).cell 1⟩)
  have BB := Lib.hid ((Below.refl w4.heap.size w4).drew)
  go_region_held3 (fun w' => w'.cell? ⟨w2.heap.size, 0, none⟩ = some (.int .i64 E) ∧ w'.cell? ⟨w2.heap.size, 1, none⟩ = some (.int .i64 P)) (exact KEPT.out _ BB.out)
    (first
      | (go_at_call 20; (with_reducible refine (fdue_any E P t _ b HB.out).mono ?_); rintro e w5 ⟨rfl, hb⟩; have BB := Lib.hid (below_next BB.out hb); clear hb)
      | (go_at_call 12; (with_reducible refine (flow_any E P (t + 1) V _ HV.out).mono ?_); rintro e w6 ⟨rfl, hb⟩; have BB := Lib.hid (below_next BB.out hb); clear hb)
      | (go_at_call 13; (first | with_reducible refine (fhigh_any E P (t + 1) Y _ HY.out).mono ?_ | with_reducible refine (fhigh_any E P t X _ HX.out).mono ?_); rintro e w7 ⟨rfl, hb⟩; have BB := Lib.hid (below_next BB.out hb); clear hb))
  all_goals
    go_wp2
    go_ret
    exact ⟨rfl, below_next B.out BB.out⟩
end Go.Proofs.Ytnmiiebfpeoafaa
