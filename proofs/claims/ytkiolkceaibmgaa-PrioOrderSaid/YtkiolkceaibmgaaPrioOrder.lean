/-
  PrioOrder answers true, whatever it is given: no condition.
  The frame round the walk is the guide's own shell for such functions.
-/
import Derived.Test.YtkiolkceaibmgaaRows
import Derived.Test.YtkiolkceaibmgaaPr3
import Derived.Test.YtkiolkceaibmgaaFlat
import Derived.WalkKit
import Derived.ProofKit
import Derived.OpenShut
import Derived.ShutString
import Derived.ChangeOld
import Derived.Below
import Derived.WideKeyPair
namespace Go.Proofs.Ytkiolkceaibmgaa.prioOrder
open Go.ChangeShapes Go.WideShapes Go.ChangeAt Go.RowKit
open Go.WideMaps (ArrKey open_pair shut_pair)
set_option linter.unusedVariables false

theorem own : ownKnob Try.prog.godebug = none := by kernel_rfl
theorem laidOut : laidOutB Try.prog = true := by kernel_rfl
theorem walk (a0_0 : Int)(a0_1 : Int)(a0_2 : Int)(a0_3 : Int)(a0_4 : Int)(a0_5 : Int) (a1_0 : Int)(a1_1 : Int)(a1_2 : Int)(a1_3 : Int)(a1_4 : Int)(a1_5 : Int) (a2_0 : Int)(a2_1 : Int)(a2_2 : Int)(a2_3 : Int)(a2_4 : Int)(a2_5 : Int) (w : World) (w0_0 : (Lit.int .i64 a0_0).wf = true) (w0_1 : (Lit.int .i64 a0_1).wf = true) (w0_2 : (Lit.int .i64 a0_2).wf = true) (w0_3 : (Lit.int .i64 a0_3).wf = true) (w0_4 : (Lit.int .i64 a0_4).wf = true) (w0_5 : (Lit.int .i64 a0_5).wf = true) (w1_0 : (Lit.int .i64 a1_0).wf = true) (w1_1 : (Lit.int .i64 a1_1).wf = true) (w1_2 : (Lit.int .i64 a1_2).wf = true) (w1_3 : (Lit.int .i64 a1_3).wf = true) (w1_4 : (Lit.int .i64 a1_4).wf = true) (w1_5 : (Lit.int .i64 a1_5).wf = true) (w2_0 : (Lit.int .i64 a2_0).wf = true) (w2_1 : (Lit.int .i64 a2_1).wf = true) (w2_2 : (Lit.int .i64 a2_2).wf = true) (w2_3 : (Lit.int .i64 a2_3).wf = true) (w2_4 : (Lit.int .i64 a2_4).wf = true) (w2_5 : (Lit.int .i64 a2_5).wf = true) :
    Calls Try.prog 4 #[.agg #[.int .i64 a0_0, .int .i64 a0_1, .int .i64 a0_2, .int .i64 a0_3, .int .i64 a0_4, .int .i64 a0_5], .agg #[.int .i64 a1_0, .int .i64 a1_1, .int .i64 a1_2, .int .i64 a1_3, .int .i64 a1_4, .int .i64 a1_5], .agg #[.int .i64 a2_0, .int .i64 a2_1, .int .i64 a2_2, .int .i64 a2_3, .int .i64 a2_4, .int .i64 a2_5]] w fun e w' => e = .returned (.bool true) ∧ Below w.heap.size w w' := by
  have ⟨a0_0l, a0_0u⟩ := bounds_i64 w0_0
  have ⟨a0_1l, a0_1u⟩ := bounds_i64 w0_1
  have ⟨a0_2l, a0_2u⟩ := bounds_i64 w0_2
  have ⟨a0_3l, a0_3u⟩ := bounds_i64 w0_3
  have ⟨a0_4l, a0_4u⟩ := bounds_i64 w0_4
  have ⟨a0_5l, a0_5u⟩ := bounds_i64 w0_5
  have ⟨a1_0l, a1_0u⟩ := bounds_i64 w1_0
  have ⟨a1_1l, a1_1u⟩ := bounds_i64 w1_1
  have ⟨a1_2l, a1_2u⟩ := bounds_i64 w1_2
  have ⟨a1_3l, a1_3u⟩ := bounds_i64 w1_3
  have ⟨a1_4l, a1_4u⟩ := bounds_i64 w1_4
  have ⟨a1_5l, a1_5u⟩ := bounds_i64 w1_5
  have ⟨a2_0l, a2_0u⟩ := bounds_i64 w2_0
  have ⟨a2_1l, a2_1u⟩ := bounds_i64 w2_1
  have ⟨a2_2l, a2_2u⟩ := bounds_i64 w2_2
  have ⟨a2_3l, a2_3u⟩ := bounds_i64 w2_3
  have ⟨a2_4l, a2_4u⟩ := bounds_i64 w2_4
  have ⟨a2_5l, a2_5u⟩ := bounds_i64 w2_5
  exact order_walk ⟨a0_0, a0_1, a0_2, a0_3, a0_4, a0_5⟩ ⟨a1_0, a1_1, a1_2, a1_3, a1_4, a1_5⟩ ⟨a2_0, a2_1, a2_2, a2_3, a2_4, a2_5⟩ w

set_option maxRecDepth 100000 in
theorem lifted (os : Os) (started : os.Started) (H : Type) (enc : TypeId × Value → H) :
    ReturnsInHanded {} Try.checked os 4 .any (Rows.prioOrderSpec.pre6 enc Try.prog Try.f4 Rows.prioOrderRow.domain false) (Rows.prioOrderSpec.post enc Try.prog Try.f4 false true false false) := by
  refine returnsInHanded_of_change (C := Try.checked) own started (by kernel_rfl) Try.func4
    (ChangeSpec.witness6 (enc := enc) (C := Try.checked) false ⟨#[], #[.agg #[.int .i64 0, .int .i64 0, .int .i64 0, .int .i64 0, .int .i64 0, .int .i64 0], .agg #[.int .i64 0, .int .i64 0, .int .i64 0, .int .i64 0, .int .i64 0, .int .i64 0], .agg #[.int .i64 0, .int .i64 0, .int .i64 0, .int .i64 0, .int .i64 0, .int .i64 0]], []⟩ 8 (by kernel_rfl) (by kernel_rfl) (by kernel_rfl) (by kernel_rfl)) ?_
  intro W base args ds gs before hval0 hW hcnd _
  have hval : ∀ (j : Nat) t v, Try.f4.params[j]? = some t → args[j]? = some v → Value.okWide Try.prog W .any base t v := hval0
  have hW' := hW
  obtain ⟨p, q, hA0, hV, rfl, hfz, hnd⟩ := hW
  have hA : DataW.TrodAll enc Try.prog W 0 (fun _ => true) true Try.f4.params.toList args.toList ds p := hA0
  rw [Try.params4] at hA hval
  obtain ⟨v0, vs0, d0, ds0, p0, q0, hargs, rfl, rfl, h0, r0⟩ := trodAll_cons hA
  obtain ⟨v1, vs1, d1, ds1, p1, q1, rfl, rfl, rfl, h1, r1⟩ := trodAll_cons r0
  obtain ⟨v2, vs2, d2, ds2, p2, q2, rfl, rfl, rfl, h2, r2⟩ := trodAll_cons r1
  obtain ⟨rfl, rfl, rfl⟩ := trodAll_nil r2
  obtain rfl : args = #[v0, v1, v2] := by cases args; simp_all
  obtain ⟨rfl, rfl⟩ := trodVars_none hV
  have k0 := h0
  have lt0 : ∀ x ∈ p0, x.block < W.heap.size := by obtain ⟨m, hm⟩ := k0; exact DataW.trod_lt m _ _ _ hm
  obtain ⟨cs0, rfl, g0⟩ := open_flat (n := 8) (ks := [.int .i64, .int .i64, .int .i64, .int .i64, .int .i64, .int .i64]) (by kernel_rfl) (by kernel_rfl) (hval 0 27 v0 rfl rfl) h0
  obtain ⟨l0⟩ := cs0
  have g0x : Fit _ l0 := g0
  clear g0
  obtain ⟨a0_0, r0_0, e0_0, w0_0, g0_0⟩ := g0x.int
  subst e0_0
  obtain ⟨a0_1, r0_1, e0_1, w0_1, g0_1⟩ := g0_0.int
  subst e0_1
  obtain ⟨a0_2, r0_2, e0_2, w0_2, g0_2⟩ := g0_1.int
  subst e0_2
  obtain ⟨a0_3, r0_3, e0_3, w0_3, g0_3⟩ := g0_2.int
  subst e0_3
  obtain ⟨a0_4, r0_4, e0_4, w0_4, g0_4⟩ := g0_3.int
  subst e0_4
  obtain ⟨a0_5, r0_5, e0_5, w0_5, g0_5⟩ := g0_4.int
  subst e0_5
  have e0 := g0_5.nil
  subst e0
  have k1 := h1
  have lt1 : ∀ x ∈ p1, x.block < W.heap.size := by obtain ⟨m, hm⟩ := k1; exact DataW.trod_lt m _ _ _ hm
  obtain ⟨cs1, rfl, g1⟩ := open_flat (n := 8) (ks := [.int .i64, .int .i64, .int .i64, .int .i64, .int .i64, .int .i64]) (by kernel_rfl) (by kernel_rfl) (hval 1 27 v1 rfl rfl) h1
  obtain ⟨l1⟩ := cs1
  have g1x : Fit _ l1 := g1
  clear g1
  obtain ⟨a1_0, r1_0, e1_0, w1_0, g1_0⟩ := g1x.int
  subst e1_0
  obtain ⟨a1_1, r1_1, e1_1, w1_1, g1_1⟩ := g1_0.int
  subst e1_1
  obtain ⟨a1_2, r1_2, e1_2, w1_2, g1_2⟩ := g1_1.int
  subst e1_2
  obtain ⟨a1_3, r1_3, e1_3, w1_3, g1_3⟩ := g1_2.int
  subst e1_3
  obtain ⟨a1_4, r1_4, e1_4, w1_4, g1_4⟩ := g1_3.int
  subst e1_4
  obtain ⟨a1_5, r1_5, e1_5, w1_5, g1_5⟩ := g1_4.int
  subst e1_5
  have e1 := g1_5.nil
  subst e1
  have k2 := h2
  have lt2 : ∀ x ∈ p2, x.block < W.heap.size := by obtain ⟨m, hm⟩ := k2; exact DataW.trod_lt m _ _ _ hm
  obtain ⟨cs2, rfl, g2⟩ := open_flat (n := 8) (ks := [.int .i64, .int .i64, .int .i64, .int .i64, .int .i64, .int .i64]) (by kernel_rfl) (by kernel_rfl) (hval 2 27 v2 rfl rfl) h2
  obtain ⟨l2⟩ := cs2
  have g2x : Fit _ l2 := g2
  clear g2
  obtain ⟨a2_0, r2_0, e2_0, w2_0, g2_0⟩ := g2x.int
  subst e2_0
  obtain ⟨a2_1, r2_1, e2_1, w2_1, g2_1⟩ := g2_0.int
  subst e2_1
  obtain ⟨a2_2, r2_2, e2_2, w2_2, g2_2⟩ := g2_1.int
  subst e2_2
  obtain ⟨a2_3, r2_3, e2_3, w2_3, g2_3⟩ := g2_2.int
  subst e2_3
  obtain ⟨a2_4, r2_4, e2_4, w2_4, g2_4⟩ := g2_3.int
  subst e2_4
  obtain ⟨a2_5, r2_5, e2_5, w2_5, g2_5⟩ := g2_4.int
  subst e2_5
  have e2 := g2_5.nil
  subst e2
  clear hA0 hval0
  refine (walk a0_0 a0_1 a0_2 a0_3 a0_4 a0_5 a1_0 a1_1 a1_2 a1_3 a1_4 a1_5 a2_0 a2_1 a2_2 a2_3 a2_4 a2_5 W w0_0 w0_1 w0_2 w0_3 w0_4 w0_5 w1_0 w1_1 w1_2 w1_3 w1_4 w1_5 w2_0 w2_1 w2_2 w2_3 w2_4 w2_5).mono fun e W' ⟨he, bel⟩ => ?_
  subst he
  exact ⟨_, rfl, _, _, _, [], _, [], hW', trodAll_mk1 (shut_bool Try.underlying4 _), (trodAll_cons_mk (Below.trod laidOut (by kernel_rfl) (of_decide_eq_true (by kernel_rfl)) k0 bel lt0) (trodAll_cons_mk (Below.trod laidOut (by kernel_rfl) (of_decide_eq_true (by kernel_rfl)) k1 bel lt1) (trodAll_cons_mk (Below.trod laidOut (by kernel_rfl) (of_decide_eq_true (by kernel_rfl)) k2 bel lt2) trodAll_mk0))), rfl, bel.frame _, fun h => by cases h⟩

theorem over : Rows.prioOrderRow.holds Try.pinned (OpenSpec.ofChange Rows.prioOrderSpec) :=
  OpenClaim.holds_of_wide 4 Try.f4 rfl rfl rfl rfl rfl rfl rfl ⟨rfl, rfl, rfl, rfl, rfl⟩ rfl rfl rfl rfl rfl (by kernel_rfl) Try.func4 (by kernel_rfl)
    (of_decide_eq_true (by kernel_rfl)) (by unfold Func.isWrapper; first | (rw [if_pos (by decide +kernel)]; kernel_rfl) | (rw [if_neg (by decide +kernel)]; exact ⟨rfl, rfl⟩))
    (fun os started H enc _ => lifted os started H enc)

/-- the statement -/
theorem proved : Rows.PrioOrderSaid := over
#print axioms proved
end Go.Proofs.Ytkiolkceaibmgaa.prioOrder
