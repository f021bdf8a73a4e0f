/-
  ExactCommon answers true for every two numbers of 32 bits (no condition): the greatest common part divides both, what is left has none in common, and times the least common number it is their product.
  The frame round the walk is the guide's own shell for this function.
-/
import Derived.Test.YtmalcnebejgajaaRows
import Derived.Test.YtmalcnebejgajaaAwake
import Derived.WalkKit
import Derived.ProofKit
import Derived.OpenShut
import Derived.Below
import Derived.ShutString
namespace Go.Proofs.Ytmalcnebejgajaa.exactCommon
open Go.ChangeShapes Go.WideShapes Go.ChangeAt Go.RowKit
open Go.ChangeMaps (open_string shut_string)
set_option linter.unusedVariables false      -- a walk need not use every 'w<i>' (that an integer argument fits its kind)

theorem own : ownKnob Try.prog.godebug = none := by kernel_rfl

theorem quiet_add {P : Program} {f : FuncId} {args : Array Value} {w : World} {a n : Nat} {v : Value}
    (h : Calls P f args (w.drewN (a + n)) fun e w' => e = .returned v ∧ ∃ m, w' = (w.drewN (a + n)).drewN m) :
    Calls P f args (w.drewN (a + n)) fun e w'' => e = .returned v ∧ ∃ m, w'' = w.drewN (a + m) :=
  h.mono fun _ _ ⟨he, m, hm⟩ => ⟨he, n + m, by rw [hm, World.drewN_drewN, Nat.add_assoc]⟩

theorem mask32 (x : Int) : 0 ≤ bits .and .i32 x 2147483647 ∧ bits .and .i32 x 2147483647 ≤ 2147483647 := by
  have h : (BitVec.ofInt 32 x &&& BitVec.ofInt 32 2147483647).toNat ≤ 2147483647 := by
    rw [BitVec.toNat_and]
    exact Nat.and_le_right
  have e : bits .and .i32 x 2147483647 = ((BitVec.ofInt 32 x &&& BitVec.ofInt 32 2147483647).toNat : Int) := by
    show IntKind.i32.wrap ((BitVec.ofInt 32 x &&& BitVec.ofInt 32 2147483647).toNat : Int) = _
    rw [IntKind.wrap_i32]
    omega
  omega

theorem gc_one {a : Int} : gc 1 a = 1 := by
  have h : Int.gcd 1 a = 1 := by simp
  unfold gc; rw [h]; rfl
theorem lc_one (a : Int) : lc 1 a = a := by
  unfold lc; rw [gc_one, Int.ediv_one, Int.one_mul]
theorem row_two {a b : Int} (ha : 0 < a) (fa : Fits a) (hb : 0 < b) (f : Fits (lc a b)) : rowL 1 [a, b] = (lc a b, 0) := by
  have e1 : le 1 a = 0 := by rw [le_up (by omega), lc_one, te_in fa]
  have v1 : lv 1 a = a := by rw [lv_up (by omega), lc_one, tv_in fa]
  have e2 : le a b = 0 := by rw [le_up (by omega), te_in f]
  have v2 : lv a b = lc a b := by rw [lv_up (by omega), tv_in f]
  rw [rowL_step e1, v1, rowL_step e2, v2]; rfl

/-- all that the law asks of two numbers from 1 to 2147483648 -/
theorem parts_of {a b : Int} (ha : 0 < a) (ha' : a ≤ 2147483648) (hb : 0 < b) (hb' : b ≤ 2147483648) :
    ∃ G p q : Int, gc a b = G ∧ 1 ≤ G ∧ G ≤ 2147483648 ∧ 1 ≤ p ∧ p ≤ 2147483648 ∧ 1 ≤ q ∧ q ≤ 2147483648 ∧ a = G * p ∧ b = G * q ∧ gc p q = 1 ∧ lc a b = p * b ∧ p * b = q * a := by
  have hG := gc_pos (b := b) ha
  obtain ⟨p, hp⟩ := gc_dvd (a := a) (b := b)
  obtain ⟨q, hq⟩ := gc_dvd' (a := a) (b := b)
  have hne : gc a b ≠ 0 := by omega
  have qp : a / gc a b = p := by conv => lhs; lhs; rw [hp]
                                 exact Int.mul_ediv_cancel_left p hne
  have qq : b / gc a b = q := by conv => lhs; lhs; rw [hq]
                                 exact Int.mul_ediv_cancel_left q hne
  have bp := quo_bd ha hG gc_dvd
  have bq := quo_bd hb hG gc_dvd'
  rw [qp] at bp
  rw [qq] at bq
  have hle : gc a b ≤ a := by
    have := Int.le_of_dvd ha (gc_dvd (a := a) (b := b)); exact this
  refine ⟨gc a b, p, q, rfl, hG, by omega, bp.1, by omega, bq.1, by omega, hp, hq, ?_, ?_, ?_⟩
  · have h : Int.gcd (a / gc a b) (b / gc a b) = 1 := by
      unfold gc
      exact Int.gcd_ediv_gcd_ediv_gcd (by unfold gc at hG; omega)
    rw [qp, qq] at h
    unfold gc; rw [h]; rfl
  · unfold lc; rw [qp]
  · have e1 : p * b = p * (gc a b * q) := by rw [← hq]
    have e2 : q * a = q * (gc a b * p) := by rw [← hp]
    rw [e1, e2, Int.mul_left_comm p, Int.mul_left_comm q, Int.mul_comm p q]

theorem walk (a0 : Int) (a1 : Int) (w0 : (Lit.int .i32 a0).wf = true) (w1 : (Lit.int .i32 a1).wf = true) (w : World) :
    Calls Try.prog 7 #[.int .i32 a0, .int .i32 a1] w fun e w' => e = .returned (.bool true) ∧ Below w.heap.size w w' := by
  obtain ⟨x0, x1⟩ := mask32 a0
  obtain ⟨y0, y1⟩ := mask32 a1
  obtain ⟨X, hX⟩ : ∃ X, bits .and .i32 a0 2147483647 = X := ⟨_, rfl⟩
  obtain ⟨Y, hY⟩ : ∃ Y, bits .and .i32 a1 2147483647 = Y := ⟨_, rfl⟩
  rw [hX] at x0 x1
  rw [hY] at y0 y1
  clear w0 w1
  obtain ⟨G, p, q, hG, G1, G2, p1, p2, q1, q2, ea, eb, e1, el, es⟩ := parts_of (a := 1 + X) (b := 1 + Y) (by omega) (by omega) (by omega) (by omega)
  have hL : 1 ≤ p * (1 + Y) ∧ p * (1 + Y) ≤ 4611686018427387904 := by
    have h1 := Int.mul_pos (show 0 < p by omega) (show 0 < 1 + Y by omega)
    have h2 := Int.mul_le_mul p2 (show 1 + Y ≤ 2147483648 by omega) (by omega) (by omega)
    omega
  have r2 := row_two (a := 1 + X) (b := 1 + Y) (by omega) ⟨by omega, by omega⟩ (by omega) (by rw [el]; exact ⟨by omega, by omega⟩)
  rw [el] at r2
  obtain ⟨L, eL⟩ : ∃ L, p * (1 + Y) = L := ⟨_, rfl⟩
  rw [eL] at r2 hL es
  have cG : ∀ w, Calls Try.prog 20 #[.int .i64 (1 + X), .int .i64 (1 + Y)] w fun e w' => e = .returned (.tuple #[.int .i64 G, .int .i64 0]) ∧ ∃ n, w' = w.drewN n := fun w => by
    have := gcd_any (1 + X) (1 + Y) w ⟨by omega, by omega⟩ ⟨by omega, by omega⟩
    rwa [show gv (1 + X) (1 + Y) = G from (if_neg (by omega)).trans hG, show ge (1 + X) (1 + Y) = 0 from if_neg (by omega)] at this
  have cH : ∀ w, Calls Try.prog 20 #[.int .i64 p, .int .i64 q] w fun e w' => e = .returned (.tuple #[.int .i64 1, .int .i64 0]) ∧ ∃ n, w' = w.drewN n := fun w => by
    have := gcd_any p q w ⟨by omega, by omega⟩ ⟨by omega, by omega⟩
    rwa [show gv p q = 1 from (if_neg (by omega)).trans e1, show ge p q = 0 from if_neg (by omega)] at this
  have cL : ∀ (w : World) (b cap : Nat), w.cell? ⟨b, 0, none⟩ = some (.int .i64 (1 + X)) → w.cell? ⟨b, 1, none⟩ = some (.int .i64 (1 + Y)) →
      Calls Try.prog 22 #[.slice (some ⟨b, 0, none⟩) 2 cap] w fun e w' => e = .returned (.tuple #[.int .i64 L, .int .i64 0]) ∧ ∃ n, w' = w.drewN n := fun w b cap c0 c1 => by
    have := lcm_two (1 + X) (1 + Y) w b cap ⟨by omega, by omega⟩ ⟨by omega, by omega⟩ c0 c1
    rwa [r2] at this
  have HG := Lib.hid cG
  have HH := Lib.hid cH
  have HL := Lib.hid cL
  have hne : G ≠ 0 := by omega
  have m1 : (1 + X) % G = 0 := by rw [ea]; exact Int.mul_emod_right G p
  have m2 : (1 + Y) % G = 0 := by rw [eb]; exact Int.mul_emod_right G q
  have m3 : L % (1 + X) = 0 := by rw [es]; exact Int.mul_emod_left q (1 + X)
  have m4 : L % (1 + Y) = 0 := by rw [← eL]; exact Int.mul_emod_left p (1 + Y)
  have d1 : (1 + X) / G = p := by rw [ea]; exact Int.mul_ediv_cancel_left p hne
  have d2 : (1 + Y) / G = q := by rw [eb]; exact Int.mul_ediv_cancel_left q hne
  have d3 : L / (1 + X) = q := by rw [es]; exact Int.mul_ediv_cancel q (by omega)
  have d4 : (1 + X).tdiv G = p := by rw [Int.tdiv_eq_ediv_of_nonneg (by omega)]; exact d1
  have d5 : (1 + Y).tdiv G = q := by rw [Int.tdiv_eq_ediv_of_nonneg (by omega)]; exact d2
  have w1 : IntKind.i64.wrap p = p := IntWalk.i64_in _ (by omega)
  have w2 : IntKind.i64.wrap q = q := IntWalk.i64_in _ (by omega)
  have gq : G * q = 1 + Y := eb.symm
  obtain ⟨l1, l2⟩ := hL
  have hne' : (G == 0) = false := by simp; omega
  clear hG ea eb e1 el es r2 eL cG cH cL
  go_enter Try.func7, Try.ntmps7
  go_wp2_with (first | (go_at_call 9; refine (awake_any _).mono ?_; rintro e w1 ⟨rfl, hb⟩) | (go_at_call 20; refine (HG.out _).mono ?_; rintro e w' ⟨rfl, n, rfl⟩))
  refine (HL.out _ _ _ ((World.cell?_alloc_at _ _ _ _ rfl).trans rfl) ((World.cell?_alloc_at _ _ _ _ rfl).trans rfl)).mono ?_
  rintro e w' ⟨rfl, n2, rfl⟩
  go_wp2_with fail
  go_quiet ((go_at_call 20; first | exact Calls.quiet_of (HH.out _) | exact quiet_add (HH.out _)))
  all_goals
    go_wp2
    go_ret
    exact ⟨rfl, below_drewN ((below_drewN hb n).alloc hb.size _) _⟩

/-! ### THE ROW's STEP: WRITTEN OUT: LEAVE IT -/
set_option maxRecDepth 100000 in
theorem lifted (os : Os) (started : os.Started) (H : Type) (enc : TypeId × Value → H) :
    ReturnsInHanded {} Try.checked os 7 .any (Rows.exactCommonSpec.pre6 enc Try.prog Try.f7 Rows.exactCommonRow.domain false) (Rows.exactCommonSpec.post enc Try.prog Try.f7 false true false false) := by
  refine returnsInHanded_of_change (C := Try.checked) own started (by kernel_rfl) Try.func7
    (ChangeSpec.witness6 (enc := enc) (C := Try.checked) false ⟨#[], #[.int .i32 0, .int .i32 0], []⟩ 8 (by kernel_rfl) (by kernel_rfl) (by kernel_rfl) (by kernel_rfl)) ?_
  intro W base args ds gs before hval0 hW hcnd _
  have hval : ∀ (j : Nat) t v, Try.f7.params[j]? = some t → args[j]? = some v → Value.okWide Try.prog W .any base t v := hval0
  have hW' := hW
  obtain ⟨p, q, hA0, hV, rfl, hfz, hnd⟩ := hW
  have hA : DataW.TrodAll enc Try.prog W 0 (fun _ => true) true Try.f7.params.toList args.toList ds p := hA0
  rw [Try.params7] at hA hval
  obtain ⟨v0, vs0, d0, ds0, p0, q0, hargs, rfl, rfl, h0, r0⟩ := trodAll_cons hA
  obtain ⟨v1, vs1, d1, ds1, p1, q1, rfl, rfl, rfl, h1, r1⟩ := trodAll_cons r0
  obtain ⟨rfl, rfl, rfl⟩ := trodAll_nil r1
  obtain rfl : args = #[v0, v1] := by cases args; simp_all
  obtain ⟨rfl, rfl⟩ := trodVars_none hV
  obtain ⟨a0, rfl, rfl, rfl, w0⟩ := open_int Try.underlying21 (hval 0 21 v0 rfl rfl) h0
  obtain ⟨a1, rfl, rfl, rfl, w1⟩ := open_int Try.underlying21 (hval 1 21 v1 rfl rfl) h1
  clear hA0 hval0
  simp only [List.append_nil] at hW'
  refine (walk a0 a1 w0 w1 W).mono fun e W' ⟨he, hg⟩ => ?_
  subst he
  exact ⟨_, rfl, _, _, _, [], [], [], hW', trodAll_mk1 (shut_bool Try.underlying4 _), (trodAll_cons_mk (shut_int Try.underlying21 w0) (trodAll_cons_mk (shut_int Try.underlying21 w1) trodAll_mk0)), rfl, hg.frame _, fun h => by cases h⟩

theorem over : Rows.exactCommonRow.holds Try.pinned (OpenSpec.ofChange Rows.exactCommonSpec) :=
  OpenClaim.holds_of_wide 7 Try.f7 rfl rfl rfl rfl rfl rfl rfl ⟨rfl, rfl, rfl, rfl, rfl⟩ rfl rfl rfl rfl rfl (by kernel_rfl) Try.func7 (by kernel_rfl)
    (of_decide_eq_true (by kernel_rfl)) (by unfold Func.isWrapper; first | (rw [if_pos (by decide +kernel)]; kernel_rfl) | (rw [if_neg (by decide +kernel)]; exact ⟨rfl, rfl⟩))
    (fun os started H enc _ => lifted os started H enc)

/-- ████ THE STATEMENT ████ -/
theorem proved : Rows.ExactCommonSaid :=
  over
#print axioms proved
end Go.Proofs.Ytmalcnebejgajaa.exactCommon
