/-
  PlaceTells answers true, whatever it is given: no condition.
  The frame round the walk is the guide's own shell for such functions.
-/
import Derived.Test.YtokmkfoofgiddaaRows
import Derived.Test.YtokmkfoofgiddaaFlat2
import Derived.Test.YtokmkfoofgiddaaPb6
import Derived.Test.YtokmkfoofgiddaaFlat
import Derived.WalkKit
import Derived.ProofKit
import Derived.OpenShut
import Derived.ShutString
import Derived.ChangeOld
import Derived.Below
import Derived.WideKeyPair
namespace Go.Proofs.Ytokmkfoofgiddaa.placeTells
open Go.ChangeShapes Go.WideShapes Go.ChangeAt Go.RowKit
open Go.WideMaps (ArrKey open_pair shut_pair)
set_option linter.unusedVariables false

theorem own : ownKnob Try.prog.godebug = none := by kernel_rfl
theorem laidOut : laidOutB Try.prog = true := by kernel_rfl
theorem walk (a0 : Option Addr) (len0 cap0 : Nat) (rs0 : List (List Value)) (a1 : Option Addr) (len1 cap1 : Nat) (rs1 : List (List Value)) (a2_0 : Int)(a2_1 : Int) (w : World) (w0 : RowF w a0 len0 cap0 3 rs0) (x0 : ∀ r ∈ rs0, Fit [.int .i64, .int .i64, .int .i64] r) (w1 : RowF w a1 len1 cap1 1 rs1) (x1 : ∀ r ∈ rs1, Fit [.int .i64] r) (w2_0 : (Lit.int .i64 a2_0).wf = true) (w2_1 : (Lit.int .i64 a2_1).wf = true) :
    Calls Try.prog 3 #[.slice a0 len0 cap0, .slice a1 len1 cap1, .agg #[.int .i64 a2_0, .int .i64 a2_1]] w fun e w' => e = .returned (.bool true) ∧ Below w.heap.size w w' := by
  have ⟨a2_0l, a2_0u⟩ := bounds_i64 w2_0
  have ⟨a2_1l, a2_1u⟩ := bounds_i64 w2_1
  exact by obtain ⟨l, hl⟩ := runners_of_flat w0 x0; obtain ⟨zs, hz, _⟩ := row_of_flat w1 x1; exact ptells_walk a0 len0 cap0 l a1 len1 cap1 zs a2_0 a2_1 w hl hz ⟨a2_0l, a2_0u⟩ ⟨a2_1l, a2_1u⟩

set_option maxRecDepth 100000 in
theorem lifted (os : Os) (started : os.Started) (H : Type) (enc : TypeId × Value → H) :
    ReturnsInHanded {} Try.checked os 3 .any (Rows.placeTellsSpec.pre6 enc Try.prog Try.f3 Rows.placeTellsRow.domain false) (Rows.placeTellsSpec.post enc Try.prog Try.f3 false true false false) := by
  refine returnsInHanded_of_change (C := Try.checked) own started (by kernel_rfl) Try.func3
    (ChangeSpec.witness6 (enc := enc) (C := Try.checked) false ⟨#[], #[.slice none 0 0, .slice none 0 0, .agg #[.int .i64 0, .int .i64 0]], []⟩ 8 (by kernel_rfl) (by kernel_rfl) (by kernel_rfl) (by kernel_rfl)) ?_
  intro W base args ds gs before hval0 hW hcnd _
  have hval : ∀ (j : Nat) t v, Try.f3.params[j]? = some t → args[j]? = some v → Value.okWide Try.prog W .any base t v := hval0
  have hW' := hW
  obtain ⟨p, q, hA0, hV, rfl, hfz, hnd⟩ := hW
  have hA : DataW.TrodAll enc Try.prog W 0 (fun _ => true) true Try.f3.params.toList args.toList ds p := hA0
  rw [Try.params3] at hA hval
  obtain ⟨v0, vs0, d0, ds0, p0, q0, hargs, rfl, rfl, h0, r0⟩ := trodAll_cons hA
  obtain ⟨v1, vs1, d1, ds1, p1, q1, rfl, rfl, rfl, h1, r1⟩ := trodAll_cons r0
  obtain ⟨v2, vs2, d2, ds2, p2, q2, rfl, rfl, rfl, h2, r2⟩ := trodAll_cons r1
  obtain ⟨rfl, rfl, rfl⟩ := trodAll_nil r2
  obtain rfl : args = #[v0, v1, v2] := by cases args; simp_all
  obtain ⟨rfl, rfl⟩ := trodVars_none hV
  obtain ⟨a0, len0, cap0, rfl⟩ := okWide_slice Try.underlying22 (hval 0 22 v0 rfl rfl)
  have k0 := h0
  have lt0 : ∀ x ∈ p0, x.block < W.heap.size := by obtain ⟨m, hm⟩ := k0; exact DataW.trod_lt m _ _ _ hm
  obtain ⟨rs0, w0, x0⟩ : ∃ rs, RowF W a0 len0 cap0 3 rs ∧ ∀ r ∈ rs, Fit [.int .i64, .int .i64, .int .i64] r := by
    obtain ⟨fuel, hf⟩ := h0
    exact open_flat_rows (n := 8) (ks := [.int .i64, .int .i64, .int .i64]) Try.underlying22 (by kernel_rfl) (by kernel_rfl) (by decide) hf
  obtain ⟨a1, len1, cap1, rfl⟩ := okWide_slice Try.underlying23 (hval 1 23 v1 rfl rfl)
  have k1 := h1
  have lt1 : ∀ x ∈ p1, x.block < W.heap.size := by obtain ⟨m, hm⟩ := k1; exact DataW.trod_lt m _ _ _ hm
  obtain ⟨rs1, w1, x1⟩ : ∃ rs, RowF W a1 len1 cap1 1 rs ∧ ∀ r ∈ rs, Fit [.int .i64] r := by
    obtain ⟨fuel, hf⟩ := h1
    exact open_flat_rows (n := 8) (ks := [.int .i64]) Try.underlying23 (by kernel_rfl) (by kernel_rfl) (by decide) hf
  have k2 := h2
  have lt2 : ∀ x ∈ p2, x.block < W.heap.size := by obtain ⟨m, hm⟩ := k2; exact DataW.trod_lt m _ _ _ hm
  obtain ⟨cs2, rfl, g2⟩ := open_flat (n := 8) (ks := [.int .i64, .int .i64]) (by kernel_rfl) (by kernel_rfl) (hval 2 24 v2 rfl rfl) h2
  obtain ⟨l2⟩ := cs2
  have g2x : Fit _ l2 := g2
  clear g2
  obtain ⟨a2_0, r2_0, e2_0, w2_0, g2_0⟩ := g2x.int
  subst e2_0
  obtain ⟨a2_1, r2_1, e2_1, w2_1, g2_1⟩ := g2_0.int
  subst e2_1
  have e2 := g2_1.nil
  subst e2
  clear hA0 hval0
  refine (walk a0 len0 cap0 rs0 a1 len1 cap1 rs1 a2_0 a2_1 W w0 x0 w1 x1 w2_0 w2_1).mono fun e W' ⟨he, bel⟩ => ?_
  subst he
  exact ⟨_, rfl, _, _, _, [], _, [], hW', trodAll_mk1 (shut_bool Try.underlying4 _), (trodAll_cons_mk (Below.trod laidOut (by kernel_rfl) (of_decide_eq_true (by kernel_rfl)) k0 bel lt0) (trodAll_cons_mk (Below.trod laidOut (by kernel_rfl) (of_decide_eq_true (by kernel_rfl)) k1 bel lt1) (trodAll_cons_mk (Below.trod laidOut (by kernel_rfl) (of_decide_eq_true (by kernel_rfl)) k2 bel lt2) trodAll_mk0))), rfl, bel.frame _, fun h => by cases h⟩

theorem over : Rows.placeTellsRow.holds Try.pinned (OpenSpec.ofChange Rows.placeTellsSpec) :=
  OpenClaim.holds_of_wide 3 Try.f3 rfl rfl rfl rfl rfl rfl rfl ⟨rfl, rfl, rfl, rfl, rfl⟩ rfl rfl rfl rfl rfl (by kernel_rfl) Try.func3 (by kernel_rfl)
    (of_decide_eq_true (by kernel_rfl)) (by unfold Func.isWrapper; first | (rw [if_pos (by decide +kernel)]; kernel_rfl) | (rw [if_neg (by decide +kernel)]; exact ⟨rfl, rfl⟩))
    (fun os started H enc _ => lifted os started H enc)

/-- the statement -/
theorem proved : Rows.PlaceTellsSaid := over
#print axioms proved
end Go.Proofs.Ytokmkfoofgiddaa.placeTells
