/-
  ExactBetween answers true for every number of 64 bits and every number of 32 bits (no condition): a part rounded down is not above, rounded up not below, and they are at most 1 apart.
  The frame round the walk is the guide's own shell for this function.
-/
import Derived.Test.YtmalcnebejgajaaRows
import Derived.Test.YtmalcnebejgajaaAwake
import Derived.WalkKit
import Derived.ProofKit
import Derived.OpenShut
import Derived.Below
import Derived.ShutString
namespace Go.Proofs.Ytmalcnebejgajaa.exactBetween
open Go.ChangeShapes Go.WideShapes Go.ChangeAt Go.RowKit
open Go.ChangeMaps (open_string shut_string)
set_option linter.unusedVariables false      -- a walk need not use every 'w<i>' (that an integer argument fits its kind)

theorem own : ownKnob Try.prog.godebug = none := by kernel_rfl

def Way (a b F C P pe : Int) : Prop :=
  (∀ w, Calls Try.prog 16 #[.int .i64 a, .int .i64 b] w fun e w' => e = .returned (.tuple #[.int .i64 F, .int .i64 0]) ∧ w = w') ∧
  (∀ w, Calls Try.prog 18 #[.int .i64 a, .int .i64 b] w fun e w' => e = .returned (.tuple #[.int .i64 C, .int .i64 0]) ∧ w = w') ∧
  (∀ w, Calls Try.prog 14 #[.int .i64 F, .int .i64 b] w fun e w' => e = .returned (.tuple #[.int .i64 P, .int .i64 pe]) ∧ w = w')

theorem part_lo {a b : Int} (h : 1 ≤ b) : b * (a / b) ≤ a ∧ a < b * (a / b) + b := by
  have h1 := Int.mul_ediv_add_emod a b
  have h2 := Int.emod_nonneg a (show b ≠ 0 by omega)
  have h3 := Int.emod_lt_of_pos a (show 0 < b by omega)
  omega
theorem part_fits {a b : Int} (fa : Fits a) (h : 1 ≤ b) : Fits (a / b) := by
  have q := tdiv_le fa (show 0 < b by omega)
  by_cases hr : a.tmod b < 0
  · have q3 := tdiv_lo fa (show 0 < b by omega) hr
    rw [← floor_neg (show 0 < b by omega) hr]
    exact ⟨by omega, by omega⟩
  · rw [← floor_pos (show 0 < b by omega) (show 0 ≤ a.tmod b by omega)]
    exact q
theorem ceil_by {a b : Int} (h : 0 < b) : -(-a / b) = a / b + if a.tmod b = 0 then 0 else 1 := by
  rcases Int.lt_trichotomy (a.tmod b) 0 with g | g | g
  · rw [if_neg (by omega), ← ceil_neg h (by omega), ← floor_neg h g]; omega
  · rw [if_pos g, ← ceil_neg h (by omega), ← floor_pos h (by omega)]; omega
  · rw [if_neg (by omega), ← ceil_pos h g, ← floor_pos h (by omega)]

theorem betw {a b : Int} (fa : Fits a) (h1 : 1 ≤ b) (h2 : b ≤ 2147483648) :
    ∃ F one P pe : Int, Hid (Way a b F (F + one) P pe) ∧ -9223372036854775808 ≤ F ∧ F ≤ 9223372036854775806 + (1 - one) ∧
      ((one = 0 ∧ a.tmod b = 0) ∨ (one = 1 ∧ a.tmod b ≠ 0)) ∧
      ((pe = 0 ∧ P ≤ a ∧ a - P < b ∧ -9223372036854775808 ≤ P) ∨ (pe = 16 ∧ a < 0 ∧ P = 0)) := by
  have fb : Fits b := ⟨by omega, by omega⟩
  have fF := part_fits fa h1
  have hp := part_lo (a := a) h1
  rw [Int.mul_comm] at hp
  have hc := ceil_by (a := a) (show 0 < b by omega)
  have cF : ∀ w, Calls Try.prog 16 #[.int .i64 a, .int .i64 b] w fun e w' => e = .returned (.tuple #[.int .i64 (a / b), .int .i64 0]) ∧ w = w' := fun w => by
    have := floor_any a b w fa fb
    rwa [fv_up (by omega), de_up (by omega)] at this
  have cC : ∀ w, Calls Try.prog 18 #[.int .i64 a, .int .i64 b] w fun e w' => e = .returned (.tuple #[.int .i64 (a / b + if a.tmod b = 0 then 0 else 1), .int .i64 0]) ∧ w = w' := fun w => by
    have := ceil_any a b w fa fb
    rwa [cv_up (by omega), de_up (by omega), hc] at this
  have cM := fun w => mul_any (a / b) b w fF fb
  refine ⟨a / b, if a.tmod b = 0 then 0 else 1, tv (a / b * b), te (a / b * b), Lib.hid ⟨cF, cC, cM⟩, fF.1, ?_, ?_, ?_⟩
  · by_cases g : a.tmod b = 0
    · rw [if_pos g]; exact fF.2
    · rw [if_neg g]
      have hhi : a / b ≠ 9223372036854775807 := by
        intro e
        rw [e] at hp
        unfold Fits at fa
        have hb1 : b = 1 := by omega
        subst hb1
        exact g (Int.tmod_one a)
      have := fF.2
      omega
  · by_cases g : a.tmod b = 0
    · rw [if_pos g]; exact .inl ⟨rfl, g⟩
    · rw [if_neg g]; exact .inr ⟨rfl, g⟩
  · by_cases g : Fits (a / b * b)
    · rw [tv_in g, te_in g]; exact .inl ⟨rfl, hp.1, by omega, g.1⟩
    · rw [tv_out g, te_out g]
      refine .inr ⟨rfl, ?_, rfl⟩
      unfold Fits at g fa
      omega

theorem walk_neg (a n : Int) (fa : Fits a) (h : n < 0) (hn : -2147483648 ≤ n) (w : World) :
    Calls Try.prog 6 #[.int .i64 a, .int .i32 n] w fun e w' => e = .returned (.bool true) ∧ Below w.heap.size w w' := by
  obtain ⟨F, one, P, pe, H, F1, F2, ho, hp⟩ := betw (b := -n) fa (by omega) (by omega)
  have ⟨fa1, fa2⟩ := fa
  rw [Int.tmod_neg] at ho
  clear fa
  rcases ho with ⟨rfl, t⟩ | ⟨rfl, t⟩
  · have t1 : (a.tmod n == 0) = true := by simp [t]
    rw [Int.add_zero] at H
    clear t
    rcases hp with ⟨rfl, p1, p2, p3⟩ | ⟨rfl, p1, rfl⟩
    · have k1 : decide (a - P < -n) = true := by simp; omega
      have k2 : decide (P ≤ a) = true := by simp; omega
      go_enter Try.func6, Try.ntmps6
      go_wp2_with (first | (go_at_call 9; refine (awake_any _).mono ?_; rintro e w1 ⟨rfl, hb⟩) | (go_at_call 16; refine (H.out.1 _).mono ?_; rintro e w' ⟨rfl, rfl⟩) | (go_at_call 18; refine (H.out.2.1 _).mono ?_; rintro e w' ⟨rfl, rfl⟩) | (go_at_call 14; refine (H.out.2.2 _).mono ?_; rintro e w' ⟨rfl, rfl⟩))
      go_ret
      exact ⟨rfl, hb⟩
    · have k1 : decide (a < 0) = true := by simp; omega
      go_enter Try.func6, Try.ntmps6
      go_wp2_with (first | (go_at_call 9; refine (awake_any _).mono ?_; rintro e w1 ⟨rfl, hb⟩) | (go_at_call 16; refine (H.out.1 _).mono ?_; rintro e w' ⟨rfl, rfl⟩) | (go_at_call 18; refine (H.out.2.1 _).mono ?_; rintro e w' ⟨rfl, rfl⟩) | (go_at_call 14; refine (H.out.2.2 _).mono ?_; rintro e w' ⟨rfl, rfl⟩))
      go_ret
      exact ⟨rfl, hb⟩
  · have t1 : (a.tmod n == 0) = false := by simp [t]
    clear t
    rcases hp with ⟨rfl, p1, p2, p3⟩ | ⟨rfl, p1, rfl⟩
    · have k1 : decide (a - P < -n) = true := by simp; omega
      have k2 : decide (P ≤ a) = true := by simp; omega
      go_enter Try.func6, Try.ntmps6
      go_wp2_with (first | (go_at_call 9; refine (awake_any _).mono ?_; rintro e w1 ⟨rfl, hb⟩) | (go_at_call 16; refine (H.out.1 _).mono ?_; rintro e w' ⟨rfl, rfl⟩) | (go_at_call 18; refine (H.out.2.1 _).mono ?_; rintro e w' ⟨rfl, rfl⟩) | (go_at_call 14; refine (H.out.2.2 _).mono ?_; rintro e w' ⟨rfl, rfl⟩))
      go_ret
      exact ⟨rfl, hb⟩
    · have k1 : decide (a < 0) = true := by simp; omega
      go_enter Try.func6, Try.ntmps6
      go_wp2_with (first | (go_at_call 9; refine (awake_any _).mono ?_; rintro e w1 ⟨rfl, hb⟩) | (go_at_call 16; refine (H.out.1 _).mono ?_; rintro e w' ⟨rfl, rfl⟩) | (go_at_call 18; refine (H.out.2.1 _).mono ?_; rintro e w' ⟨rfl, rfl⟩) | (go_at_call 14; refine (H.out.2.2 _).mono ?_; rintro e w' ⟨rfl, rfl⟩))
      go_ret
      exact ⟨rfl, hb⟩

theorem walk_pos (a n : Int) (fa : Fits a) (h : 0 < n) (hn : n ≤ 2147483647) (w : World) :
    Calls Try.prog 6 #[.int .i64 a, .int .i32 n] w fun e w' => e = .returned (.bool true) ∧ Below w.heap.size w w' := by
  obtain ⟨F, one, P, pe, H, F1, F2, ho, hp⟩ := betw (b := n) fa (by omega) (by omega)
  have ⟨fa1, fa2⟩ := fa
  clear fa
  rcases ho with ⟨rfl, t⟩ | ⟨rfl, t⟩
  · have t1 : (a.tmod n == 0) = true := by simp [t]
    rw [Int.add_zero] at H
    clear t
    rcases hp with ⟨rfl, p1, p2, p3⟩ | ⟨rfl, p1, rfl⟩
    · have k1 : decide (a - P < n) = true := by simp; omega
      have k2 : decide (P ≤ a) = true := by simp; omega
      go_enter Try.func6, Try.ntmps6
      go_wp2_with (first | (go_at_call 9; refine (awake_any _).mono ?_; rintro e w1 ⟨rfl, hb⟩) | (go_at_call 16; refine (H.out.1 _).mono ?_; rintro e w' ⟨rfl, rfl⟩) | (go_at_call 18; refine (H.out.2.1 _).mono ?_; rintro e w' ⟨rfl, rfl⟩) | (go_at_call 14; refine (H.out.2.2 _).mono ?_; rintro e w' ⟨rfl, rfl⟩))
      go_ret
      exact ⟨rfl, hb⟩
    · have k1 : decide (a < 0) = true := by simp; omega
      go_enter Try.func6, Try.ntmps6
      go_wp2_with (first | (go_at_call 9; refine (awake_any _).mono ?_; rintro e w1 ⟨rfl, hb⟩) | (go_at_call 16; refine (H.out.1 _).mono ?_; rintro e w' ⟨rfl, rfl⟩) | (go_at_call 18; refine (H.out.2.1 _).mono ?_; rintro e w' ⟨rfl, rfl⟩) | (go_at_call 14; refine (H.out.2.2 _).mono ?_; rintro e w' ⟨rfl, rfl⟩))
      go_ret
      exact ⟨rfl, hb⟩
  · have t1 : (a.tmod n == 0) = false := by simp [t]
    clear t
    rcases hp with ⟨rfl, p1, p2, p3⟩ | ⟨rfl, p1, rfl⟩
    · have k1 : decide (a - P < n) = true := by simp; omega
      have k2 : decide (P ≤ a) = true := by simp; omega
      go_enter Try.func6, Try.ntmps6
      go_wp2_with (first | (go_at_call 9; refine (awake_any _).mono ?_; rintro e w1 ⟨rfl, hb⟩) | (go_at_call 16; refine (H.out.1 _).mono ?_; rintro e w' ⟨rfl, rfl⟩) | (go_at_call 18; refine (H.out.2.1 _).mono ?_; rintro e w' ⟨rfl, rfl⟩) | (go_at_call 14; refine (H.out.2.2 _).mono ?_; rintro e w' ⟨rfl, rfl⟩))
      go_ret
      exact ⟨rfl, hb⟩
    · have k1 : decide (a < 0) = true := by simp; omega
      go_enter Try.func6, Try.ntmps6
      go_wp2_with (first | (go_at_call 9; refine (awake_any _).mono ?_; rintro e w1 ⟨rfl, hb⟩) | (go_at_call 16; refine (H.out.1 _).mono ?_; rintro e w' ⟨rfl, rfl⟩) | (go_at_call 18; refine (H.out.2.1 _).mono ?_; rintro e w' ⟨rfl, rfl⟩) | (go_at_call 14; refine (H.out.2.2 _).mono ?_; rintro e w' ⟨rfl, rfl⟩))
      go_ret
      exact ⟨rfl, hb⟩

theorem walk_zero (a : Int) (fa : Fits a) (w : World) :
    Calls Try.prog 6 #[.int .i64 a, .int .i32 0] w fun e w' => e = .returned (.bool true) ∧ Below w.heap.size w w' := by
  obtain ⟨F, one, P, pe, H, F1, F2, ho, hp⟩ := betw (b := 1) fa (by omega) (by omega)
  have ⟨fa1, fa2⟩ := fa
  have h0 : one = 0 := by
    rcases ho with h | h
    · exact h.1
    · exact absurd (Int.tmod_one a) h.2
  subst h0
  rw [Int.add_zero] at H
  have t1 := Int.tmod_one a
  clear fa ho
  rcases hp with ⟨rfl, p1, p2, p3⟩ | ⟨rfl, p1, rfl⟩
  · have k1 : decide (a - P < 1) = true := by simp; omega
    have k2 : decide (P ≤ a) = true := by simp; omega
    go_enter Try.func6, Try.ntmps6
    go_wp2_with (first | (go_at_call 9; refine (awake_any _).mono ?_; rintro e w1 ⟨rfl, hb⟩) | (go_at_call 16; refine (H.out.1 _).mono ?_; rintro e w' ⟨rfl, rfl⟩) | (go_at_call 18; refine (H.out.2.1 _).mono ?_; rintro e w' ⟨rfl, rfl⟩) | (go_at_call 14; refine (H.out.2.2 _).mono ?_; rintro e w' ⟨rfl, rfl⟩))
    go_ret
    exact ⟨rfl, hb⟩
  · have k1 : decide (a < 0) = true := by simp; omega
    go_enter Try.func6, Try.ntmps6
    go_wp2_with (first | (go_at_call 9; refine (awake_any _).mono ?_; rintro e w1 ⟨rfl, hb⟩) | (go_at_call 16; refine (H.out.1 _).mono ?_; rintro e w' ⟨rfl, rfl⟩) | (go_at_call 18; refine (H.out.2.1 _).mono ?_; rintro e w' ⟨rfl, rfl⟩) | (go_at_call 14; refine (H.out.2.2 _).mono ?_; rintro e w' ⟨rfl, rfl⟩))
    go_ret
    exact ⟨rfl, hb⟩

theorem walk (a0 : Int) (a1 : Int) (w0 : (Lit.int .i64 a0).wf = true) (w1 : (Lit.int .i32 a1).wf = true) (w : World) :
    Calls Try.prog 6 #[.int .i64 a0, .int .i32 a1] w fun e w' => e = .returned (.bool true) ∧ Below w.heap.size w w' := by
  have f0 : Fits a0 := fits_wf w0
  have f1 := bounds_i32 w1
  rcases Int.lt_trichotomy a1 0 with h | rfl | h
  · exact walk_neg a0 a1 f0 h f1.1 w
  · exact walk_zero a0 f0 w
  · exact walk_pos a0 a1 f0 h f1.2 w

/-! ### THE ROW's STEP: WRITTEN OUT: LEAVE IT -/
set_option maxRecDepth 100000 in
theorem lifted (os : Os) (started : os.Started) (H : Type) (enc : TypeId × Value → H) :
    ReturnsInHanded {} Try.checked os 6 .any (Rows.exactBetweenSpec.pre6 enc Try.prog Try.f6 Rows.exactBetweenRow.domain false) (Rows.exactBetweenSpec.post enc Try.prog Try.f6 false true false false) := by
  refine returnsInHanded_of_change (C := Try.checked) own started (by kernel_rfl) Try.func6
    (ChangeSpec.witness6 (enc := enc) (C := Try.checked) false ⟨#[], #[.int .i64 0, .int .i32 0], []⟩ 8 (by kernel_rfl) (by kernel_rfl) (by kernel_rfl) (by kernel_rfl)) ?_
  intro W base args ds gs before hval0 hW hcnd _
  have hval : ∀ (j : Nat) t v, Try.f6.params[j]? = some t → args[j]? = some v → Value.okWide Try.prog W .any base t v := hval0
  have hW' := hW
  obtain ⟨p, q, hA0, hV, rfl, hfz, hnd⟩ := hW
  have hA : DataW.TrodAll enc Try.prog W 0 (fun _ => true) true Try.f6.params.toList args.toList ds p := hA0
  rw [Try.params6] at hA hval
  obtain ⟨v0, vs0, d0, ds0, p0, q0, hargs, rfl, rfl, h0, r0⟩ := trodAll_cons hA
  obtain ⟨v1, vs1, d1, ds1, p1, q1, rfl, rfl, rfl, h1, r1⟩ := trodAll_cons r0
  obtain ⟨rfl, rfl, rfl⟩ := trodAll_nil r1
  obtain rfl : args = #[v0, v1] := by cases args; simp_all
  obtain ⟨rfl, rfl⟩ := trodVars_none hV
  obtain ⟨a0, rfl, rfl, rfl, w0⟩ := open_int Try.underlying2 (hval 0 2 v0 rfl rfl) h0
  obtain ⟨a1, rfl, rfl, rfl, w1⟩ := open_int Try.underlying21 (hval 1 21 v1 rfl rfl) h1
  clear hA0 hval0
  simp only [List.append_nil] at hW'
  refine (walk a0 a1 w0 w1 W).mono fun e W' ⟨he, hg⟩ => ?_
  subst he
  exact ⟨_, rfl, _, _, _, [], [], [], hW', trodAll_mk1 (shut_bool Try.underlying4 _), (trodAll_cons_mk (shut_int Try.underlying2 w0) (trodAll_cons_mk (shut_int Try.underlying21 w1) trodAll_mk0)), rfl, hg.frame _, fun h => by cases h⟩

theorem over : Rows.exactBetweenRow.holds Try.pinned (OpenSpec.ofChange Rows.exactBetweenSpec) :=
  OpenClaim.holds_of_wide 6 Try.f6 rfl rfl rfl rfl rfl rfl rfl ⟨rfl, rfl, rfl, rfl, rfl⟩ rfl rfl rfl rfl rfl (by kernel_rfl) Try.func6 (by kernel_rfl)
    (of_decide_eq_true (by kernel_rfl)) (by unfold Func.isWrapper; first | (rw [if_pos (by decide +kernel)]; kernel_rfl) | (rw [if_neg (by decide +kernel)]; exact ⟨rfl, rfl⟩))
    (fun os started H enc _ => lifted os started H enc)

/-- ████ THE STATEMENT ████ -/
theorem proved : Rows.ExactBetweenSaid :=
  over
#print axioms proved
end Go.Proofs.Ytmalcnebejgajaa.exactBetween
