/-
  RuleLater answers true, whatever it is given: no condition.
  The frame round the walk is the guide's own shell for such functions.
-/
import Derived.Test.YtidfldngiagpdaaRows
import Derived.Test.YtidfldngiagpdaaRz4
import Derived.Test.YtidfldngiagpdaaFlat2
import Derived.Test.YtidfldngiagpdaaRu3
import Derived.Test.YtidfldngiagpdaaFlat
import Derived.WalkKit
import Derived.ProofKit
import Derived.OpenShut
import Derived.ShutString
import Derived.ChangeOld
import Derived.Below
import Derived.WideKeyPair
namespace Go.Proofs.Ytidfldngiagpdaa.ruleLater
open Go.ChangeShapes Go.WideShapes Go.ChangeAt Go.RowKit
open Go.WideMaps (ArrKey open_pair shut_pair)
set_option linter.unusedVariables false

theorem own : ownKnob Try.prog.godebug = none := by kernel_rfl
theorem laidOut : laidOutB Try.prog = true := by kernel_rfl
theorem pairKey : ArrKey Try.prog 22 3 2 := ⟨by kernel_rfl, by kernel_rfl, by kernel_rfl, by kernel_rfl⟩
theorem walk (a0 b0 : Int) (a1_0 : Int)(a1_1 : Int)(a1_2 : Int) (a2 : Option Addr) (len2 cap2 : Nat) (rs2 : List (List Value)) (w : World) (w0 : (Lit.int .i64 a0).wf = true) (x0 : (Lit.int .i64 b0).wf = true) (w1_0 : (Lit.int .i64 a1_0).wf = true) (w1_1 : (Lit.int .i64 a1_1).wf = true) (w1_2 : (Lit.int .i64 a1_2).wf = true) (w2 : RowF w a2 len2 cap2 3 rs2) (x2 : ∀ r ∈ rs2, Fit [.int .i64, .int .i64, .int .i64] r) :
    Calls Try.prog 7 #[.agg #[.int .i64 a0, .int .i64 b0], .agg #[.int .i64 a1_0, .int .i64 a1_1, .int .i64 a1_2], .slice a2 len2 cap2] w fun e w' => e = .returned (.bool true) ∧ Below w.heap.size w w' := by
  have ⟨a0l, a0u⟩ := bounds_i64 w0
  have ⟨b0l, b0u⟩ := bounds_i64 x0
  have ⟨a1_0l, a1_0u⟩ := bounds_i64 w1_0
  have ⟨a1_1l, a1_1u⟩ := bounds_i64 w1_1
  have ⟨a1_2l, a1_2u⟩ := bounds_i64 w1_2
  exact by obtain ⟨es, he⟩ := evs_of_flat w2 x2; exact rlater_walk ruleOk a0 b0 a1_0 a1_1 a1_2 a2 len2 cap2 es w he

set_option maxRecDepth 100000 in
theorem lifted (os : Os) (started : os.Started) (H : Type) (enc : TypeId × Value → H) :
    ReturnsInHanded {} Try.checked os 7 .any (Rows.ruleLaterSpec.pre6 enc Try.prog Try.f7 Rows.ruleLaterRow.domain false) (Rows.ruleLaterSpec.post enc Try.prog Try.f7 false true false false) := by
  refine returnsInHanded_of_change (C := Try.checked) own started (by kernel_rfl) Try.func7
    (ChangeSpec.witness6 (enc := enc) (C := Try.checked) false ⟨#[], #[.agg #[.int .i64 0, .int .i64 0], .agg #[.int .i64 0, .int .i64 0, .int .i64 0], .slice none 0 0], []⟩ 8 (by kernel_rfl) (by kernel_rfl) (by kernel_rfl) (by kernel_rfl)) ?_
  intro W base args ds gs before hval0 hW hcnd _
  have hval : ∀ (j : Nat) t v, Try.f7.params[j]? = some t → args[j]? = some v → Value.okWide Try.prog W .any base t v := hval0
  have hW' := hW
  obtain ⟨p, q, hA0, hV, rfl, hfz, hnd⟩ := hW
  have hA : DataW.TrodAll enc Try.prog W 0 (fun _ => true) true Try.f7.params.toList args.toList ds p := hA0
  rw [Try.params7] at hA hval
  obtain ⟨v0, vs0, d0, ds0, p0, q0, hargs, rfl, rfl, h0, r0⟩ := trodAll_cons hA
  obtain ⟨v1, vs1, d1, ds1, p1, q1, rfl, rfl, rfl, h1, r1⟩ := trodAll_cons r0
  obtain ⟨v2, vs2, d2, ds2, p2, q2, rfl, rfl, rfl, h2, r2⟩ := trodAll_cons r1
  obtain ⟨rfl, rfl, rfl⟩ := trodAll_nil r2
  obtain rfl : args = #[v0, v1, v2] := by cases args; simp_all
  obtain ⟨rfl, rfl⟩ := trodVars_none hV
  obtain ⟨a0, b0, rfl, rfl, rfl, w0, x0⟩ := open_pair pairKey Try.underlying3 (hval 0 22 v0 rfl rfl) h0
  have k1 := h1
  have lt1 : ∀ x ∈ p1, x.block < W.heap.size := by obtain ⟨m, hm⟩ := k1; exact DataW.trod_lt m _ _ _ hm
  obtain ⟨cs1, rfl, g1⟩ := open_flat (n := 8) (ks := [.int .i64, .int .i64, .int .i64]) (by kernel_rfl) (by kernel_rfl) (hval 1 40 v1 rfl rfl) h1
  obtain ⟨l1⟩ := cs1
  have g1x : Fit _ l1 := g1
  clear g1
  obtain ⟨a1_0, r1_0, e1_0, w1_0, g1_0⟩ := g1x.int
  subst e1_0
  obtain ⟨a1_1, r1_1, e1_1, w1_1, g1_1⟩ := g1_0.int
  subst e1_1
  obtain ⟨a1_2, r1_2, e1_2, w1_2, g1_2⟩ := g1_1.int
  subst e1_2
  have e1 := g1_2.nil
  subst e1
  obtain ⟨a2, len2, cap2, rfl⟩ := okWide_slice Try.underlying41 (hval 2 41 v2 rfl rfl)
  have k2 := h2
  have lt2 : ∀ x ∈ p2, x.block < W.heap.size := by obtain ⟨m, hm⟩ := k2; exact DataW.trod_lt m _ _ _ hm
  obtain ⟨rs2, w2, x2⟩ : ∃ rs, RowF W a2 len2 cap2 3 rs ∧ ∀ r ∈ rs, Fit [.int .i64, .int .i64, .int .i64] r := by
    obtain ⟨fuel, hf⟩ := h2
    exact open_flat_rows (n := 8) (ks := [.int .i64, .int .i64, .int .i64]) Try.underlying41 (by kernel_rfl) (by kernel_rfl) (by decide) hf
  clear hA0 hval0
  refine (walk a0 b0 a1_0 a1_1 a1_2 a2 len2 cap2 rs2 W w0 x0 w1_0 w1_1 w1_2 w2 x2).mono fun e W' ⟨he, bel⟩ => ?_
  subst he
  exact ⟨_, rfl, _, _, _, [], _, [], hW', trodAll_mk1 (shut_bool Try.underlying4 _), (trodAll_cons_mk (shut_pair pairKey Try.underlying3 w0 x0) (trodAll_cons_mk (Below.trod laidOut (by kernel_rfl) (of_decide_eq_true (by kernel_rfl)) k1 bel lt1) (trodAll_cons_mk (Below.trod laidOut (by kernel_rfl) (of_decide_eq_true (by kernel_rfl)) k2 bel lt2) trodAll_mk0))), rfl, bel.frame _, fun h => by cases h⟩

theorem over : Rows.ruleLaterRow.holds Try.pinned (OpenSpec.ofChange Rows.ruleLaterSpec) :=
  OpenClaim.holds_of_wide 7 Try.f7 rfl rfl rfl rfl rfl rfl rfl ⟨rfl, rfl, rfl, rfl, rfl⟩ rfl rfl rfl rfl rfl (by kernel_rfl) Try.func7 (by kernel_rfl)
    (of_decide_eq_true (by kernel_rfl)) (by unfold Func.isWrapper; first | (rw [if_pos (by decide +kernel)]; kernel_rfl) | (rw [if_neg (by decide +kernel)]; exact ⟨rfl, rfl⟩))
    (fun os started H enc _ => lifted os started H enc)

/-- the statement -/
theorem proved : Rows.RuleLaterSaid := over
#print axioms proved
end Go.Proofs.Ytidfldngiagpdaa.ruleLater
