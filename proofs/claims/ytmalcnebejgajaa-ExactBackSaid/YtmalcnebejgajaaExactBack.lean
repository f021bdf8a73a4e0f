/-
  ExactBack answers true for every two numbers of 64 bits (no condition): what was added is taken away again, what was multiplied is divided again.
  The frame round the walk is the guide's own shell for this function.
-/
import Derived.Test.YtmalcnebejgajaaRows
import Derived.Test.YtmalcnebejgajaaAwake
import Derived.WalkKit
import Derived.ProofKit
import Derived.OpenShut
import Derived.Below
import Derived.ShutString
namespace Go.Proofs.Ytmalcnebejgajaa.exactBack
open Go.ChangeShapes Go.WideShapes Go.ChangeAt Go.RowKit
open Go.ChangeMaps (open_string shut_string)
set_option linter.unusedVariables false      -- a walk need not use every 'w<i>' (that an integer argument fits its kind)

theorem own : ownKnob Try.prog.godebug = none := by kernel_rfl

theorem add_in {a b : Int} (fa : Fits a) (fb : Fits b) (h : Fits (a + b)) (w : World) : Calls Try.prog 10 #[.int .i64 a, .int .i64 b] w fun e w' => e = .returned (.tuple #[.int .i64 (a + b), .int .i64 0]) ∧ w = w' := by
  have := add_any a b w fa fb
  rwa [tv_in h, te_in h] at this
theorem add_out {a b : Int} (fa : Fits a) (fb : Fits b) (h : ¬ Fits (a + b)) (w : World) : Calls Try.prog 10 #[.int .i64 a, .int .i64 b] w fun e w' => e = .returned (.tuple #[.int .i64 0, .int .i64 16]) ∧ w = w' := by
  have := add_any a b w fa fb
  rwa [tv_out h, te_out h] at this
theorem mul_in {a b : Int} (fa : Fits a) (fb : Fits b) (h : Fits (a * b)) (w : World) : Calls Try.prog 14 #[.int .i64 a, .int .i64 b] w fun e w' => e = .returned (.tuple #[.int .i64 (a * b), .int .i64 0]) ∧ w = w' := by
  have := mul_any a b w fa fb
  rwa [tv_in h, te_in h] at this
theorem mul_out {a b : Int} (fa : Fits a) (fb : Fits b) (h : ¬ Fits (a * b)) (w : World) : Calls Try.prog 14 #[.int .i64 a, .int .i64 b] w fun e w' => e = .returned (.tuple #[.int .i64 0, .int .i64 16]) ∧ w = w' := by
  have := mul_any a b w fa fb
  rwa [tv_out h, te_out h] at this
theorem sub_back {a b : Int} (fa : Fits a) (fb : Fits b) (h : Fits (a + b)) (w : World) : Calls Try.prog 12 #[.int .i64 (a + b), .int .i64 b] w fun e w' => e = .returned (.tuple #[.int .i64 a, .int .i64 0]) ∧ w = w' := by
  have := sub_any (a + b) b w h fb
  rwa [Int.add_sub_cancel, tv_in fa, te_in fa] at this
theorem floor_back {a b : Int} (fb : Fits b) (h : Fits (a * b)) (k : 0 < b) (w : World) : Calls Try.prog 16 #[.int .i64 (a * b), .int .i64 b] w fun e w' => e = .returned (.tuple #[.int .i64 a, .int .i64 0]) ∧ w = w' := by
  have := floor_any (a * b) b w h fb
  rwa [fv_up k, de_up k, Int.mul_ediv_cancel a (by omega)] at this
theorem ceil_back {a b : Int} (fb : Fits b) (h : Fits (a * b)) (k : 0 < b) (w : World) : Calls Try.prog 18 #[.int .i64 (a * b), .int .i64 b] w fun e w' => e = .returned (.tuple #[.int .i64 a, .int .i64 0]) ∧ w = w' := by
  have := ceil_any (a * b) b w h fb
  rwa [cv_up k, de_up k, ← Int.neg_mul, Int.mul_ediv_cancel (-a) (by omega), Int.neg_neg] at this

theorem walk (a0 : Int) (a1 : Int) (w0 : (Lit.int .i64 a0).wf = true) (w1 : (Lit.int .i64 a1).wf = true) (w : World) :
    Calls Try.prog 5 #[.int .i64 a0, .int .i64 a1] w fun e w' => e = .returned (.bool true) ∧ Below w.heap.size w w' := by
  have f0 : Fits a0 := fits_wf w0
  have f1 : Fits a1 := fits_wf w1
  clear w0 w1
  by_cases h : Fits (a0 + a1)
  · have cA := Lib.hid (add_in f0 f1 h)
    have cS := Lib.hid (sub_back f0 f1 h)
    by_cases g : Fits (a0 * a1)
    · have cM := Lib.hid (mul_in f0 f1 g)
      by_cases k : 0 < a1
      · have cF := Lib.hid (floor_back f1 g k)
        have cC := Lib.hid (ceil_back f1 g k)
        clear f0 f1 h g
        go_enter Try.func5, Try.ntmps5
        go_wp2_with (first | (go_at_call 9; refine (awake_any _).mono ?_; rintro e w1 ⟨rfl, hb⟩) | (go_at_call 10; refine (cA.out _).mono ?_; rintro e w' ⟨rfl, rfl⟩) | (go_at_call 12; refine (cS.out _).mono ?_; rintro e w' ⟨rfl, rfl⟩) | (go_at_call 14; refine (cM.out _).mono ?_; rintro e w' ⟨rfl, rfl⟩) | (go_at_call 16; refine (cF.out _).mono ?_; rintro e w' ⟨rfl, rfl⟩) | (go_at_call 18; refine (cC.out _).mono ?_; rintro e w' ⟨rfl, rfl⟩))
        go_ret
        exact ⟨rfl, hb⟩
      · have k' : decide (0 < a1) = false := by simp; omega
        clear f0 f1 h g
        go_enter Try.func5, Try.ntmps5
        go_wp2_with (first | (go_at_call 9; refine (awake_any _).mono ?_; rintro e w1 ⟨rfl, hb⟩) | (go_at_call 10; refine (cA.out _).mono ?_; rintro e w' ⟨rfl, rfl⟩) | (go_at_call 12; refine (cS.out _).mono ?_; rintro e w' ⟨rfl, rfl⟩) | (go_at_call 14; refine (cM.out _).mono ?_; rintro e w' ⟨rfl, rfl⟩))
        go_ret
        exact ⟨rfl, hb⟩
    · have cM := Lib.hid (mul_out f0 f1 g)
      clear f0 f1 h g
      go_enter Try.func5, Try.ntmps5
      go_wp2_with (first | (go_at_call 9; refine (awake_any _).mono ?_; rintro e w1 ⟨rfl, hb⟩) | (go_at_call 10; refine (cA.out _).mono ?_; rintro e w' ⟨rfl, rfl⟩) | (go_at_call 12; refine (cS.out _).mono ?_; rintro e w' ⟨rfl, rfl⟩) | (go_at_call 14; refine (cM.out _).mono ?_; rintro e w' ⟨rfl, rfl⟩))
      go_ret
      exact ⟨rfl, hb⟩
  · have cA := Lib.hid (add_out f0 f1 h)
    by_cases g : Fits (a0 * a1)
    · have cM := Lib.hid (mul_in f0 f1 g)
      by_cases k : 0 < a1
      · have cF := Lib.hid (floor_back f1 g k)
        have cC := Lib.hid (ceil_back f1 g k)
        clear f0 f1 h g
        go_enter Try.func5, Try.ntmps5
        go_wp2_with (first | (go_at_call 9; refine (awake_any _).mono ?_; rintro e w1 ⟨rfl, hb⟩) | (go_at_call 10; refine (cA.out _).mono ?_; rintro e w' ⟨rfl, rfl⟩) | (go_at_call 14; refine (cM.out _).mono ?_; rintro e w' ⟨rfl, rfl⟩) | (go_at_call 16; refine (cF.out _).mono ?_; rintro e w' ⟨rfl, rfl⟩) | (go_at_call 18; refine (cC.out _).mono ?_; rintro e w' ⟨rfl, rfl⟩))
        go_ret
        exact ⟨rfl, hb⟩
      · have k' : decide (0 < a1) = false := by simp; omega
        clear f0 f1 h g
        go_enter Try.func5, Try.ntmps5
        go_wp2_with (first | (go_at_call 9; refine (awake_any _).mono ?_; rintro e w1 ⟨rfl, hb⟩) | (go_at_call 10; refine (cA.out _).mono ?_; rintro e w' ⟨rfl, rfl⟩) | (go_at_call 14; refine (cM.out _).mono ?_; rintro e w' ⟨rfl, rfl⟩))
        go_ret
        exact ⟨rfl, hb⟩
    · have cM := Lib.hid (mul_out f0 f1 g)
      clear f0 f1 h g
      go_enter Try.func5, Try.ntmps5
      go_wp2_with (first | (go_at_call 9; refine (awake_any _).mono ?_; rintro e w1 ⟨rfl, hb⟩) | (go_at_call 10; refine (cA.out _).mono ?_; rintro e w' ⟨rfl, rfl⟩) | (go_at_call 14; refine (cM.out _).mono ?_; rintro e w' ⟨rfl, rfl⟩))
      go_ret
      exact ⟨rfl, hb⟩

/-! ### THE ROW's STEP: WRITTEN OUT: LEAVE IT -/
set_option maxRecDepth 100000 in
theorem lifted (os : Os) (started : os.Started) (H : Type) (enc : TypeId × Value → H) :
    ReturnsInHanded {} Try.checked os 5 .any (Rows.exactBackSpec.pre6 enc Try.prog Try.f5 Rows.exactBackRow.domain false) (Rows.exactBackSpec.post enc Try.prog Try.f5 false true false false) := by
  refine returnsInHanded_of_change (C := Try.checked) own started (by kernel_rfl) Try.func5
    (ChangeSpec.witness6 (enc := enc) (C := Try.checked) false ⟨#[], #[.int .i64 0, .int .i64 0], []⟩ 8 (by kernel_rfl) (by kernel_rfl) (by kernel_rfl) (by kernel_rfl)) ?_
  intro W base args ds gs before hval0 hW hcnd _
  have hval : ∀ (j : Nat) t v, Try.f5.params[j]? = some t → args[j]? = some v → Value.okWide Try.prog W .any base t v := hval0
  have hW' := hW
  obtain ⟨p, q, hA0, hV, rfl, hfz, hnd⟩ := hW
  have hA : DataW.TrodAll enc Try.prog W 0 (fun _ => true) true Try.f5.params.toList args.toList ds p := hA0
  rw [Try.params5] at hA hval
  obtain ⟨v0, vs0, d0, ds0, p0, q0, hargs, rfl, rfl, h0, r0⟩ := trodAll_cons hA
  obtain ⟨v1, vs1, d1, ds1, p1, q1, rfl, rfl, rfl, h1, r1⟩ := trodAll_cons r0
  obtain ⟨rfl, rfl, rfl⟩ := trodAll_nil r1
  obtain rfl : args = #[v0, v1] := by cases args; simp_all
  obtain ⟨rfl, rfl⟩ := trodVars_none hV
  obtain ⟨a0, rfl, rfl, rfl, w0⟩ := open_int Try.underlying2 (hval 0 2 v0 rfl rfl) h0
  obtain ⟨a1, rfl, rfl, rfl, w1⟩ := open_int Try.underlying2 (hval 1 2 v1 rfl rfl) h1
  clear hA0 hval0
  simp only [List.append_nil] at hW'
  refine (walk a0 a1 w0 w1 W).mono fun e W' ⟨he, hg⟩ => ?_
  subst he
  exact ⟨_, rfl, _, _, _, [], [], [], hW', trodAll_mk1 (shut_bool Try.underlying4 _), (trodAll_cons_mk (shut_int Try.underlying2 w0) (trodAll_cons_mk (shut_int Try.underlying2 w1) trodAll_mk0)), rfl, hg.frame _, fun h => by cases h⟩

theorem over : Rows.exactBackRow.holds Try.pinned (OpenSpec.ofChange Rows.exactBackSpec) :=
  OpenClaim.holds_of_wide 5 Try.f5 rfl rfl rfl rfl rfl rfl rfl ⟨rfl, rfl, rfl, rfl, rfl⟩ rfl rfl rfl rfl rfl (by kernel_rfl) Try.func5 (by kernel_rfl)
    (of_decide_eq_true (by kernel_rfl)) (by unfold Func.isWrapper; first | (rw [if_pos (by decide +kernel)]; kernel_rfl) | (rw [if_neg (by decide +kernel)]; exact ⟨rfl, rfl⟩))
    (fun os started H enc _ => lifted os started H enc)

/-- ████ THE STATEMENT ████ -/
theorem proved : Rows.ExactBackSaid :=
  over
#print axioms proved
end Go.Proofs.Ytmalcnebejgajaa.exactBack
