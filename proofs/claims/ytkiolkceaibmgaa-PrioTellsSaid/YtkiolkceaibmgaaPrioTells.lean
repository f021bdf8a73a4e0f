/-
  PrioTells answers true, whatever it is given: no condition.
  The frame round the walk is the guide's own shell for such functions.
-/
import Derived.Test.YtkiolkceaibmgaaRows
import Derived.Test.YtkiolkceaibmgaaPr9
import Derived.Test.YtkiolkceaibmgaaFlat
import Derived.WalkKit
import Derived.ProofKit
import Derived.OpenShut
import Derived.ShutString
import Derived.ChangeOld
import Derived.Below
import Derived.WideKeyPair
namespace Go.Proofs.Ytkiolkceaibmgaa.prioTells
open Go.ChangeShapes Go.WideShapes Go.ChangeAt Go.RowKit
open Go.WideMaps (ArrKey open_pair shut_pair)
set_option linter.unusedVariables false

theorem own : ownKnob Try.prog.godebug = none := by kernel_rfl
theorem laidOut : laidOutB Try.prog = true := by kernel_rfl
theorem pairKey : ArrKey Try.prog 23 3 2 := ⟨by kernel_rfl, by kernel_rfl, by kernel_rfl, by kernel_rfl⟩
theorem walk (a0 : Option Addr) (len0 cap0 : Nat) (rs0 : List (List Value)) (a1 b1 : Int) (a2_0 : Int)(a2_1 : Int)(a2_2 : Int)(a2_3 : Int)(a2_4 : Int)(a2_5 : Int)(a2_6 : Int)(a2_7 : Int)(a2_8 : Int)(a2_9 : Int)(a2_10 : Int)(a2_11 : Int) (w : World) (w0 : RowF w a0 len0 cap0 6 rs0) (x0 : ∀ r ∈ rs0, Fit [.int .i64, .int .i64, .int .i64, .int .i64, .int .i64, .int .i64] r) (w1 : (Lit.int .i64 a1).wf = true) (x1 : (Lit.int .i64 b1).wf = true) (w2_0 : (Lit.int .i64 a2_0).wf = true) (w2_1 : (Lit.int .i64 a2_1).wf = true) (w2_2 : (Lit.int .i64 a2_2).wf = true) (w2_3 : (Lit.int .i64 a2_3).wf = true) (w2_4 : (Lit.int .i64 a2_4).wf = true) (w2_5 : (Lit.int .i64 a2_5).wf = true) (w2_6 : (Lit.int .i64 a2_6).wf = true) (w2_7 : (Lit.int .i64 a2_7).wf = true) (w2_8 : (Lit.int .i64 a2_8).wf = true) (w2_9 : (Lit.int .i64 a2_9).wf = true) (w2_10 : (Lit.int .i64 a2_10).wf = true) (w2_11 : (Lit.int .i64 a2_11).wf = true) :
    Calls Try.prog 3 #[.slice a0 len0 cap0, .agg #[.int .i64 a1, .int .i64 b1], .agg #[.int .i64 a2_0, .int .i64 a2_1, .int .i64 a2_2, .int .i64 a2_3, .int .i64 a2_4, .int .i64 a2_5, .int .i64 a2_6, .int .i64 a2_7, .int .i64 a2_8, .int .i64 a2_9, .int .i64 a2_10, .int .i64 a2_11]] w fun e w' => e = .returned (.bool true) ∧ Below w.heap.size w w' := by
  have ⟨a1l, a1u⟩ := bounds_i64 w1
  have ⟨b1l, b1u⟩ := bounds_i64 x1
  have ⟨a2_0l, a2_0u⟩ := bounds_i64 w2_0
  have ⟨a2_1l, a2_1u⟩ := bounds_i64 w2_1
  have ⟨a2_2l, a2_2u⟩ := bounds_i64 w2_2
  have ⟨a2_3l, a2_3u⟩ := bounds_i64 w2_3
  have ⟨a2_4l, a2_4u⟩ := bounds_i64 w2_4
  have ⟨a2_5l, a2_5u⟩ := bounds_i64 w2_5
  have ⟨a2_6l, a2_6u⟩ := bounds_i64 w2_6
  have ⟨a2_7l, a2_7u⟩ := bounds_i64 w2_7
  have ⟨a2_8l, a2_8u⟩ := bounds_i64 w2_8
  have ⟨a2_9l, a2_9u⟩ := bounds_i64 w2_9
  have ⟨a2_10l, a2_10u⟩ := bounds_i64 w2_10
  have ⟨a2_11l, a2_11u⟩ := bounds_i64 w2_11
  exact by obtain ⟨es, he⟩ := ents_of_flat w0 x0; exact tells6_walk a0 len0 cap0 es a1 b1 ⟨a2_0, a2_1, a2_2, a2_3, a2_4, a2_5⟩ ⟨a2_6, a2_7, a2_8, a2_9, a2_10, a2_11⟩ w he

set_option maxRecDepth 100000 in
theorem lifted (os : Os) (started : os.Started) (H : Type) (enc : TypeId × Value → H) :
    ReturnsInHanded {} Try.checked os 3 .any (Rows.prioTellsSpec.pre6 enc Try.prog Try.f3 Rows.prioTellsRow.domain false) (Rows.prioTellsSpec.post enc Try.prog Try.f3 false true false false) := by
  refine returnsInHanded_of_change (C := Try.checked) own started (by kernel_rfl) Try.func3
    (ChangeSpec.witness6 (enc := enc) (C := Try.checked) false ⟨#[], #[.slice none 0 0, .agg #[.int .i64 0, .int .i64 0], .agg #[.int .i64 0, .int .i64 0, .int .i64 0, .int .i64 0, .int .i64 0, .int .i64 0, .int .i64 0, .int .i64 0, .int .i64 0, .int .i64 0, .int .i64 0, .int .i64 0]], []⟩ 8 (by kernel_rfl) (by kernel_rfl) (by kernel_rfl) (by kernel_rfl)) ?_
  intro W base args ds gs before hval0 hW hcnd _
  have hval : ∀ (j : Nat) t v, Try.f3.params[j]? = some t → args[j]? = some v → Value.okWide Try.prog W .any base t v := hval0
  have hW' := hW
  obtain ⟨p, q, hA0, hV, rfl, hfz, hnd⟩ := hW
  have hA : DataW.TrodAll enc Try.prog W 0 (fun _ => true) true Try.f3.params.toList args.toList ds p := hA0
  rw [Try.params3] at hA hval
  obtain ⟨v0, vs0, d0, ds0, p0, q0, hargs, rfl, rfl, h0, r0⟩ := trodAll_cons hA
  obtain ⟨v1, vs1, d1, ds1, p1, q1, rfl, rfl, rfl, h1, r1⟩ := trodAll_cons r0
  obtain ⟨v2, vs2, d2, ds2, p2, q2, rfl, rfl, rfl, h2, r2⟩ := trodAll_cons r1
  obtain ⟨rfl, rfl, rfl⟩ := trodAll_nil r2
  obtain rfl : args = #[v0, v1, v2] := by cases args; simp_all
  obtain ⟨rfl, rfl⟩ := trodVars_none hV
  obtain ⟨a0, len0, cap0, rfl⟩ := okWide_slice Try.underlying22 (hval 0 22 v0 rfl rfl)
  have k0 := h0
  have lt0 : ∀ x ∈ p0, x.block < W.heap.size := by obtain ⟨m, hm⟩ := k0; exact DataW.trod_lt m _ _ _ hm
  obtain ⟨rs0, w0, x0⟩ : ∃ rs, RowF W a0 len0 cap0 6 rs ∧ ∀ r ∈ rs, Fit [.int .i64, .int .i64, .int .i64, .int .i64, .int .i64, .int .i64] r := by
    obtain ⟨fuel, hf⟩ := h0
    exact open_flat_rows (n := 8) (ks := [.int .i64, .int .i64, .int .i64, .int .i64, .int .i64, .int .i64]) Try.underlying22 (by kernel_rfl) (by kernel_rfl) (by decide) hf
  obtain ⟨a1, b1, rfl, rfl, rfl, w1, x1⟩ := open_pair pairKey Try.underlying3 (hval 1 23 v1 rfl rfl) h1
  have k2 := h2
  have lt2 : ∀ x ∈ p2, x.block < W.heap.size := by obtain ⟨m, hm⟩ := k2; exact DataW.trod_lt m _ _ _ hm
  obtain ⟨cs2, rfl, g2⟩ := open_flat (n := 8) (ks := [.int .i64, .int .i64, .int .i64, .int .i64, .int .i64, .int .i64, .int .i64, .int .i64, .int .i64, .int .i64, .int .i64, .int .i64]) (by kernel_rfl) (by kernel_rfl) (hval 2 28 v2 rfl rfl) h2
  obtain ⟨l2⟩ := cs2
  have g2x : Fit _ l2 := g2
  clear g2
  obtain ⟨a2_0, r2_0, e2_0, w2_0, g2_0⟩ := g2x.int
  subst e2_0
  obtain ⟨a2_1, r2_1, e2_1, w2_1, g2_1⟩ := g2_0.int
  subst e2_1
  obtain ⟨a2_2, r2_2, e2_2, w2_2, g2_2⟩ := g2_1.int
  subst e2_2
  obtain ⟨a2_3, r2_3, e2_3, w2_3, g2_3⟩ := g2_2.int
  subst e2_3
  obtain ⟨a2_4, r2_4, e2_4, w2_4, g2_4⟩ := g2_3.int
  subst e2_4
  obtain ⟨a2_5, r2_5, e2_5, w2_5, g2_5⟩ := g2_4.int
  subst e2_5
  obtain ⟨a2_6, r2_6, e2_6, w2_6, g2_6⟩ := g2_5.int
  subst e2_6
  obtain ⟨a2_7, r2_7, e2_7, w2_7, g2_7⟩ := g2_6.int
  subst e2_7
  obtain ⟨a2_8, r2_8, e2_8, w2_8, g2_8⟩ := g2_7.int
  subst e2_8
  obtain ⟨a2_9, r2_9, e2_9, w2_9, g2_9⟩ := g2_8.int
  subst e2_9
  obtain ⟨a2_10, r2_10, e2_10, w2_10, g2_10⟩ := g2_9.int
  subst e2_10
  obtain ⟨a2_11, r2_11, e2_11, w2_11, g2_11⟩ := g2_10.int
  subst e2_11
  have e2 := g2_11.nil
  subst e2
  clear hA0 hval0
  refine (walk a0 len0 cap0 rs0 a1 b1 a2_0 a2_1 a2_2 a2_3 a2_4 a2_5 a2_6 a2_7 a2_8 a2_9 a2_10 a2_11 W w0 x0 w1 x1 w2_0 w2_1 w2_2 w2_3 w2_4 w2_5 w2_6 w2_7 w2_8 w2_9 w2_10 w2_11).mono fun e W' ⟨he, bel⟩ => ?_
  subst he
  exact ⟨_, rfl, _, _, _, [], _, [], hW', trodAll_mk1 (shut_bool Try.underlying4 _), (trodAll_cons_mk (Below.trod laidOut (by kernel_rfl) (of_decide_eq_true (by kernel_rfl)) k0 bel lt0) (trodAll_cons_mk (shut_pair pairKey Try.underlying3 w1 x1) (trodAll_cons_mk (Below.trod laidOut (by kernel_rfl) (of_decide_eq_true (by kernel_rfl)) k2 bel lt2) trodAll_mk0))), rfl, bel.frame _, fun h => by cases h⟩

theorem over : Rows.prioTellsRow.holds Try.pinned (OpenSpec.ofChange Rows.prioTellsSpec) :=
  OpenClaim.holds_of_wide 3 Try.f3 rfl rfl rfl rfl rfl rfl rfl ⟨rfl, rfl, rfl, rfl, rfl⟩ rfl rfl rfl rfl rfl (by kernel_rfl) Try.func3 (by kernel_rfl)
    (of_decide_eq_true (by kernel_rfl)) (by unfold Func.isWrapper; first | (rw [if_pos (by decide +kernel)]; kernel_rfl) | (rw [if_neg (by decide +kernel)]; exact ⟨rfl, rfl⟩))
    (fun os started H enc _ => lifted os started H enc)

/-- the statement -/
theorem proved : Rows.PrioTellsSaid := over
#print axioms proved
end Go.Proofs.Ytkiolkceaibmgaa.prioTells
