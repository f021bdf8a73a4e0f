/-
  SlotReads answers true, whatever it is given: no condition.
  The frame round the walk is the guide's own shell for such functions.
-/
import Derived.Test.YtndhpihgeacdfaaRows
import Derived.Test.YtndhpihgeacdfaaSo0
import Derived.Test.YtndhpihgeacdfaaSx7
import Derived.Test.YtndhpihgeacdfaaFlat
import Derived.WalkKit
import Derived.ProofKit
import Derived.OpenShut
import Derived.ShutString
import Derived.ChangeOld
import Derived.Below
import Derived.WideKeyPair
import Derived.ChangeMaps5
namespace Go.Proofs.Ytndhpihgeacdfaa.slotReads
open Go.ChangeShapes Go.WideShapes Go.ChangeAt Go.RowKit
open Go.WideMaps (ArrKey open_pair shut_pair)
set_option linter.unusedVariables false

theorem own : ownKnob Try.prog.godebug = none := by kernel_rfl
theorem laidOut : laidOutB Try.prog = true := by kernel_rfl
theorem walk (a0 : ByteArray) (a1 : Option Addr) (len1 cap1 : Nat) (rs1 : List (List Int)) (a2_0 : Int)(a2_1 : Int)(a2_2 : Int) (w : World) (w0 : a0.size ≤ maxLen) (w1 : RowN w a1 len1 cap1 rs1) (x1 : ∀ zs ∈ rs1, ∀ z ∈ zs, (Lit.int .i64 z).wf = true) (w2_0 : (Lit.int .i64 a2_0).wf = true) (w2_1 : (Lit.int .i64 a2_1).wf = true) (w2_2 : (Lit.int .i64 a2_2).wf = true) :
    Calls Try.prog 4 #[.string a0, .slice a1 len1 cap1, .agg #[.int .i64 a2_0, .int .i64 a2_1, .int .i64 a2_2]] w fun e w' => e = .returned (.bool true) ∧ Below w.heap.size w w' := by

  have ⟨a2_0l, a2_0u⟩ := bounds_i64 w2_0
  have ⟨a2_1l, a2_1u⟩ := bounds_i64 w2_1
  have ⟨a2_2l, a2_2u⟩ := bounds_i64 w2_2
  exact sreads_walk a0 a1 len1 cap1 rs1 a2_0 a2_1 a2_2 w w1 x1 w0

set_option maxRecDepth 100000 in
theorem lifted (os : Os) (started : os.Started) (H : Type) (enc : TypeId × Value → H) :
    ReturnsInHanded {} Try.checked os 4 .any (Rows.slotReadsSpec.pre6 enc Try.prog Try.f4 Rows.slotReadsRow.domain false) (Rows.slotReadsSpec.post enc Try.prog Try.f4 false true false false) := by
  refine returnsInHanded_of_change (C := Try.checked) own started (by kernel_rfl) Try.func4
    (ChangeSpec.witness6 (enc := enc) (C := Try.checked) false ⟨#[], #[.string ⟨#[]⟩, .slice none 0 0, .agg #[.int .i64 0, .int .i64 0, .int .i64 0]], []⟩ 8 (by kernel_rfl) (by kernel_rfl) (by kernel_rfl) (by kernel_rfl)) ?_
  intro W base args ds gs before hval0 hW hcnd _
  have hval : ∀ (j : Nat) t v, Try.f4.params[j]? = some t → args[j]? = some v → Value.okWide Try.prog W .any base t v := hval0
  have hW' := hW
  obtain ⟨p, q, hA0, hV, rfl, hfz, hnd⟩ := hW
  have hA : DataW.TrodAll enc Try.prog W 0 (fun _ => true) true Try.f4.params.toList args.toList ds p := hA0
  rw [Try.params4] at hA hval
  obtain ⟨v0, vs0, d0, ds0, p0, q0, hargs, rfl, rfl, h0, r0⟩ := trodAll_cons hA
  obtain ⟨v1, vs1, d1, ds1, p1, q1, rfl, rfl, rfl, h1, r1⟩ := trodAll_cons r0
  obtain ⟨v2, vs2, d2, ds2, p2, q2, rfl, rfl, rfl, h2, r2⟩ := trodAll_cons r1
  obtain ⟨rfl, rfl, rfl⟩ := trodAll_nil r2
  obtain rfl : args = #[v0, v1, v2] := by cases args; simp_all
  obtain ⟨rfl, rfl⟩ := trodVars_none hV
  obtain ⟨a0, rfl, rfl, rfl, w0⟩ := Go.ChangeMaps.open_string Try.underlying9 (hval 0 9 v0 rfl rfl) h0
  obtain ⟨a1, len1, cap1, rfl⟩ := okWide_slice Try.underlying23 (hval 1 23 v1 rfl rfl)
  have k1 := h1
  have lt1 : ∀ x ∈ p1, x.block < W.heap.size := by obtain ⟨m, hm⟩ := k1; exact DataW.trod_lt m _ _ _ hm
  obtain ⟨rs1, w1, x1⟩ : ∃ rs1, RowN W a1 len1 cap1 rs1 ∧ (∀ zs ∈ rs1, ∀ z ∈ zs, (Lit.int .i64 z).wf = true) := by
    obtain ⟨fuel, hf⟩ := h1
    exact open_rown hf
  have k2 := h2
  have lt2 : ∀ x ∈ p2, x.block < W.heap.size := by obtain ⟨m, hm⟩ := k2; exact DataW.trod_lt m _ _ _ hm
  obtain ⟨cs2, rfl, g2⟩ := open_flat (n := 8) (ks := [.int .i64, .int .i64, .int .i64]) (by kernel_rfl) (by kernel_rfl) (hval 2 29 v2 rfl rfl) h2
  obtain ⟨l2⟩ := cs2
  have g2x : Fit _ l2 := g2
  clear g2
  obtain ⟨a2_0, r2_0, e2_0, w2_0, g2_0⟩ := g2x.int
  subst e2_0
  obtain ⟨a2_1, r2_1, e2_1, w2_1, g2_1⟩ := g2_0.int
  subst e2_1
  obtain ⟨a2_2, r2_2, e2_2, w2_2, g2_2⟩ := g2_1.int
  subst e2_2
  have e2 := g2_2.nil
  subst e2
  clear hA0 hval0
  refine (walk a0 a1 len1 cap1 rs1 a2_0 a2_1 a2_2 W w0 w1 x1 w2_0 w2_1 w2_2).mono fun e W' ⟨he, bel⟩ => ?_
  subst he
  exact ⟨_, rfl, _, _, _, [], _, [], hW', trodAll_mk1 (shut_bool Try.underlying4 _), (trodAll_cons_mk (Go.ChangeMaps.shut_string Try.underlying9 w0) (trodAll_cons_mk (Below.trod laidOut (by kernel_rfl) (of_decide_eq_true (by kernel_rfl)) k1 bel lt1) (trodAll_cons_mk (Below.trod laidOut (by kernel_rfl) (of_decide_eq_true (by kernel_rfl)) k2 bel lt2) trodAll_mk0))), rfl, bel.frame _, fun h => by cases h⟩

theorem over : Rows.slotReadsRow.holds Try.pinned (OpenSpec.ofChange Rows.slotReadsSpec) :=
  OpenClaim.holds_of_wide 4 Try.f4 rfl rfl rfl rfl rfl rfl rfl ⟨rfl, rfl, rfl, rfl, rfl⟩ rfl rfl rfl rfl rfl (by kernel_rfl) Try.func4 (by kernel_rfl)
    (of_decide_eq_true (by kernel_rfl)) (by unfold Func.isWrapper; first | (rw [if_pos (by decide +kernel)]; kernel_rfl) | (rw [if_neg (by decide +kernel)]; exact ⟨rfl, rfl⟩))
    (fun os started H enc _ => lifted os started H enc)

/-- the statement -/
theorem proved : Rows.SlotReadsSaid := over
#print axioms proved
end Go.Proofs.Ytndhpihgeacdfaa.slotReads
