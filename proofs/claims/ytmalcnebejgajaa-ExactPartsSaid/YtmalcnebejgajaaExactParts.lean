/-
  ExactParts answers true for every two numbers of 64 bits and every row of such numbers (no condition): Floor, Ceil, Gcd and Lcm of exact give what the document's answer gives.
  The frame round the walk is the guide's own shell for this function.
-/
import Derived.Test.YtmalcnebejgajaaRows
import Derived.Test.YtmalcnebejgajaaAwake
import Derived.WalkKit
import Derived.ProofKit
import Derived.OpenShut
import Derived.ShutString
import Derived.ChangeOld
import Derived.Below
namespace Go.Proofs.Ytmalcnebejgajaa.exactParts
open Go.ChangeShapes Go.WideShapes Go.ChangeAt Go.RowKit
open Go.ChangeMaps (open_string shut_string)
set_option linter.unusedVariables false

theorem own : ownKnob Try.prog.godebug = none := by kernel_rfl
theorem laidOut : laidOutB Try.prog = true := by kernel_rfl

/-- WHAT THE WALK IS TOLD OF A SLICE OF INTEGERS THAT CAME IN: it is nil; or it leads to a row of 'cap' cells, the numbers 'zs' (the first 'len' are its elements, the rest its spare room), each fitting its kind. -/
def IsRow (k : IntKind) (w : World) (a : Option Addr) (len cap : Nat) (zs : List Int) : Prop :=
  (a = none ∧ len = 0 ∧ cap = 0 ∧ zs = []) ∨
  ∃ x, a = some x ∧ len ≤ cap ∧ cap ≤ maxLen ∧ zs.length = cap ∧ (∀ i, i < zs.length → w.cell? (x.add i) = some (.int k (zs.getD i 0))) ∧ ∀ n ∈ zs, (Lit.int k n).wf = true

theorem lcm_len {zs : List Int} {len : Nat} (e : zs.length = len) (b off cap : Nat) (w : World) (hz : ∀ z ∈ zs, Fits z) (hl : len ≤ 9223372036854775807)
    (hc : ∀ i, i < len → w.cell? ⟨b, off + i, none⟩ = some (.int .i64 (zs.getD i 0))) :
    Calls Try.prog 22 #[.slice (some ⟨b, off, none⟩) len cap] w fun e w' => e = .returned (.tuple #[.int .i64 (rowL 1 zs).1, .int .i64 (rowL 1 zs).2]) ∧ ∃ n, w' = w.drewN n := by
  subst e
  exact lcm_row zs b off cap w hz hl hc
theorem ref_lcm_len {zs : List Int} {len : Nat} (e : zs.length = len) (b off cap : Nat) (w : World) (hz : ∀ z ∈ zs, Fits z) (hl : len ≤ 9223372036854775807)
    (hc : ∀ i, i < len → w.cell? ⟨b, off + i, none⟩ = some (.int .i64 (zs.getD i 0))) :
    Calls Try.prog 23 #[.slice (some ⟨b, off, none⟩) len cap] w fun e w' => e = .returned (.tuple #[.int .i64 (rowL 1 zs).1, .int .i64 (rowL 1 zs).2]) ∧ ∃ n, w' = w.drewN n := by
  subst e
  exact ref_lcm_row zs b off cap w hz hl hc

/-- a row without elements, wherever it leads -/
theorem walk_none (a0 a1 : Int) (a : Option Addr) (cap : Nat) (f0 : Fits a0) (f1 : Fits a1) (w : World) :
    Calls Try.prog 4 #[.int .i64 a0, .int .i64 a1, .slice a 0 cap] w fun e w' => e = .returned (.bool true) ∧ Below w.heap.size w w' := by
  go_enter Try.func4, Try.ntmps4
  go_wp2_with (first | (go_at_call 9; refine (awake_any _).mono ?_; rintro e w1 ⟨rfl, hb⟩) | (go_at_call 16; refine (floor_any _ _ _ f0 f1).mono ?_; rintro e w' ⟨rfl, rfl⟩) | (go_at_call 17; refine (ref_floor _ _ _ f0 f1).mono ?_; rintro e w' ⟨rfl, rfl⟩) | (go_at_call 18; refine (ceil_any _ _ _ f0 f1).mono ?_; rintro e w' ⟨rfl, rfl⟩) | (go_at_call 19; refine (ref_ceil _ _ _ f0 f1).mono ?_; rintro e w' ⟨rfl, rfl⟩) | (go_at_call 20; refine (gcd_any _ _ _ f0 f1).mono ?_; rintro e w' ⟨rfl, n, rfl⟩) | (go_at_call 21; refine (ref_gcd _ _ _ f0 f1).mono ?_; rintro e w' ⟨rfl, rfl⟩) | (go_at_call 22; refine (lcm_none _ _ _).mono ?_; rintro e w' ⟨rfl, n, rfl⟩) | (go_at_call 23; refine (ref_lcm_none _ _ _).mono ?_; rintro e w' ⟨rfl, n, rfl⟩))
  go_ret
  exact ⟨rfl, below_drewN hb _⟩

/-- a row of at most 8 elements -/
theorem walk_short (a0 a1 : Int) (b off len cap : Nat) (zs : List Int) (f0 : Fits a0) (f1 : Fits a1) (w : World) (e : zs.length = len) (h8 : len ≤ 8) (hz : ∀ z ∈ zs, Fits z)
    (hc : ∀ i, i < len → w.cell? ⟨b, off + i, none⟩ = some (.int .i64 (zs.getD i 0))) :
    Calls Try.prog 4 #[.int .i64 a0, .int .i64 a1, .slice (some ⟨b, off, none⟩) len cap] w fun e w' => e = .returned (.bool true) ∧ Below w.heap.size w w' := by
  have E := Lib.hid e
  have Z := Lib.hid hz
  have C := Lib.hid (show ∀ w', Below w.heap.size w w' → ∀ i, i < len → w'.cell? ⟨b, off + i, none⟩ = some (.int .i64 (zs.getD i 0)) from fun w' hb i hi => (hb.cell (World.block_lt_of_cell? _ _ (hc i hi))).trans (hc i hi))
  clear e hz hc
  go_enter Try.func4, Try.ntmps4
  go_wp2_with (first | (go_at_call 9; refine (awake_any _).mono ?_; rintro e w1 ⟨rfl, hb⟩) | (go_at_call 16; refine (floor_any _ _ _ f0 f1).mono ?_; rintro e w' ⟨rfl, rfl⟩) | (go_at_call 17; refine (ref_floor _ _ _ f0 f1).mono ?_; rintro e w' ⟨rfl, rfl⟩) | (go_at_call 18; refine (ceil_any _ _ _ f0 f1).mono ?_; rintro e w' ⟨rfl, rfl⟩) | (go_at_call 19; refine (ref_ceil _ _ _ f0 f1).mono ?_; rintro e w' ⟨rfl, rfl⟩) | (go_at_call 20; refine (gcd_any _ _ _ f0 f1).mono ?_; rintro e w' ⟨rfl, n, rfl⟩) | (go_at_call 21; refine (ref_gcd _ _ _ f0 f1).mono ?_; rintro e w' ⟨rfl, rfl⟩) | (go_at_call 22; refine (lcm_len E.out _ _ _ _ Z.out (by omega) (C.out _ (below_drewN hb _))).mono ?_; rintro e w' ⟨rfl, n, rfl⟩) | (go_at_call 23; refine (ref_lcm_len E.out _ _ _ _ Z.out (by omega) (C.out _ (below_drewN hb _))).mono ?_; rintro e w' ⟨rfl, n, rfl⟩))
  go_ret
  exact ⟨rfl, below_drewN hb _⟩

/-- a row of more than 8 elements: the first 8 count -/
theorem walk_long (a0 a1 : Int) (b off len cap : Nat) (zs : List Int) (f0 : Fits a0) (f1 : Fits a1) (w : World) (e : zs.length = 8) (h8 : 8 < len) (hl : len ≤ cap) (hm : cap ≤ 9223372036854775807) (hz : ∀ z ∈ zs, Fits z)
    (hc : ∀ i, i < 8 → w.cell? ⟨b, off + i, none⟩ = some (.int .i64 (zs.getD i 0))) :
    Calls Try.prog 4 #[.int .i64 a0, .int .i64 a1, .slice (some ⟨b, off, none⟩) len cap] w fun e w' => e = .returned (.bool true) ∧ Below w.heap.size w w' := by
  have E := Lib.hid e
  have Z := Lib.hid hz
  have C := Lib.hid (show ∀ w', Below w.heap.size w w' → ∀ i, i < 8 → w'.cell? ⟨b, off + i, none⟩ = some (.int .i64 (zs.getD i 0)) from fun w' hb i hi => (hb.cell (World.block_lt_of_cell? _ _ (hc i hi))).trans (hc i hi))
  clear e hz hc
  go_enter Try.func4, Try.ntmps4
  go_wp2_with (first | (go_at_call 9; refine (awake_any _).mono ?_; rintro e w1 ⟨rfl, hb⟩) | (go_at_call 16; refine (floor_any _ _ _ f0 f1).mono ?_; rintro e w' ⟨rfl, rfl⟩) | (go_at_call 17; refine (ref_floor _ _ _ f0 f1).mono ?_; rintro e w' ⟨rfl, rfl⟩) | (go_at_call 18; refine (ceil_any _ _ _ f0 f1).mono ?_; rintro e w' ⟨rfl, rfl⟩) | (go_at_call 19; refine (ref_ceil _ _ _ f0 f1).mono ?_; rintro e w' ⟨rfl, rfl⟩) | (go_at_call 20; refine (gcd_any _ _ _ f0 f1).mono ?_; rintro e w' ⟨rfl, n, rfl⟩) | (go_at_call 21; refine (ref_gcd _ _ _ f0 f1).mono ?_; rintro e w' ⟨rfl, rfl⟩) | (go_at_call 22; refine (lcm_len E.out _ _ _ _ Z.out (by omega) (C.out _ (below_drewN hb _))).mono ?_; rintro e w' ⟨rfl, n, rfl⟩) | (go_at_call 23; refine (ref_lcm_len E.out _ _ _ _ Z.out (by omega) (C.out _ (below_drewN hb _))).mono ?_; rintro e w' ⟨rfl, n, rfl⟩))
  go_ret
  exact ⟨rfl, below_drewN hb _⟩

theorem walk (a0 : Int) (a1 : Int) (a2 : Option Addr) (len2 cap2 : Nat) (z2 : List Int) (w : World) (w0 : (Lit.int .i64 a0).wf = true) (w1 : (Lit.int .i64 a1).wf = true) (w2 : IsRow .i64 w a2 len2 cap2 z2) :
    Calls Try.prog 4 #[.int .i64 a0, .int .i64 a1, .slice a2 len2 cap2] w fun e w' => e = .returned (.bool true) ∧ Below w.heap.size w w' := by
  have f0 : Fits a0 := fits_wf w0
  have f1 : Fits a1 := fits_wf w1
  rcases w2 with ⟨rfl, rfl, rfl, rfl⟩ | ⟨x, rfl, hl, hm, hz, hc, hf⟩
  · exact walk_none a0 a1 none 0 f0 f1 w
  · by_cases h : len2 = 0
    · subst h
      exact walk_none a0 a1 (some x) cap2 f0 f1 w
    · obtain ⟨b, off, rfl, hc'⟩ := ints_at hc (by omega)
      unfold maxLen at hm
      have hget : ∀ (m i : Nat), i < m → m ≤ z2.length → (z2.take m).getD i 0 = z2.getD i 0 := fun m i h1 h2 => by
        rw [List.getD_eq_getElem?_getD, List.getD_eq_getElem?_getD, List.getElem?_take_of_lt h1]
      by_cases h8 : len2 ≤ 8
      · exact walk_short a0 a1 b off len2 cap2 (z2.take len2) f0 f1 w (by rw [List.length_take]; omega) h8 (fun z hz => fits_wf (hf z (List.mem_of_mem_take hz)))
          (fun i hi => by rw [hget len2 i hi (by omega)]; exact hc' i (by omega))
      · exact walk_long a0 a1 b off len2 cap2 (z2.take 8) f0 f1 w (by rw [List.length_take]; omega) (by omega) hl (by omega) (fun z hz => fits_wf (hf z (List.mem_of_mem_take hz)))
          (fun i hi => by rw [hget 8 i hi (by omega)]; exact hc' i (by omega))

/-! ### THE ROW's STEP: WRITTEN OUT: LEAVE IT -/
set_option maxRecDepth 100000 in
theorem lifted (os : Os) (started : os.Started) (H : Type) (enc : TypeId × Value → H) :
    ReturnsInHanded {} Try.checked os 4 .any (Rows.exactPartsSpec.pre6 enc Try.prog Try.f4 Rows.exactPartsRow.domain false) (Rows.exactPartsSpec.post enc Try.prog Try.f4 false true false false) := by
  refine returnsInHanded_of_change (C := Try.checked) own started (by kernel_rfl) Try.func4
    (ChangeSpec.witness6 (enc := enc) (C := Try.checked) false ⟨#[], #[.int .i64 0, .int .i64 0, .slice none 0 0], []⟩ 8 (by kernel_rfl) (by kernel_rfl) (by kernel_rfl) (by kernel_rfl)) ?_
  intro W base args ds gs before hval0 hW hcnd _
  have hval : ∀ (j : Nat) t v, Try.f4.params[j]? = some t → args[j]? = some v → Value.okWide Try.prog W .any base t v := hval0
  have hW' := hW
  obtain ⟨p, q, hA0, hV, rfl, hfz, hnd⟩ := hW
  have hA : DataW.TrodAll enc Try.prog W 0 (fun _ => true) true Try.f4.params.toList args.toList ds p := hA0
  rw [Try.params4] at hA hval
  obtain ⟨v0, vs0, d0, ds0, p0, q0, hargs, rfl, rfl, h0, r0⟩ := trodAll_cons hA
  obtain ⟨v1, vs1, d1, ds1, p1, q1, rfl, rfl, rfl, h1, r1⟩ := trodAll_cons r0
  obtain ⟨v2, vs2, d2, ds2, p2, q2, rfl, rfl, rfl, h2, r2⟩ := trodAll_cons r1
  obtain ⟨rfl, rfl, rfl⟩ := trodAll_nil r2
  obtain rfl : args = #[v0, v1, v2] := by cases args; simp_all
  obtain ⟨rfl, rfl⟩ := trodVars_none hV
  obtain ⟨a0, rfl, rfl, rfl, w0⟩ := open_int Try.underlying2 (hval 0 2 v0 rfl rfl) h0
  obtain ⟨a1, rfl, rfl, rfl, w1⟩ := open_int Try.underlying2 (hval 1 2 v1 rfl rfl) h1
  obtain ⟨a2, len2, cap2, rfl⟩ := okWide_slice Try.underlying27 (hval 2 27 v2 rfl rfl)
  have k2 := h2
  have lt2 : ∀ x ∈ p2, x.block < W.heap.size := by obtain ⟨m, hm⟩ := k2; exact DataW.trod_lt m _ _ _ hm
  obtain ⟨z2, w2⟩ : ∃ zs, IsRow .i64 W a2 len2 cap2 zs := by
    obtain ⟨fuel, hf⟩ := h2
    rcases open_ints Try.underlying27 Try.underlying2 (by kernel_rfl) hf with ⟨hcs, _⟩ | ⟨x, l, c, zs, hcs, _, hl, hm, hz, _, hcell, hwz⟩
    · simp [Value.cells] at hcs
      obtain ⟨rfl, rfl, rfl⟩ := hcs
      exact ⟨[], .inl ⟨rfl, rfl, rfl, rfl⟩⟩
    · simp [Value.cells] at hcs
      obtain ⟨rfl, rfl, rfl⟩ := hcs
      exact ⟨zs, .inr ⟨_, rfl, hl, hm, by simpa using hz, hcell, hwz⟩⟩
  clear hA0 hval0
  refine (walk a0 a1 a2 len2 cap2 z2 W w0 w1 w2).mono fun e W' ⟨he, bel⟩ => ?_
  subst he
  exact ⟨_, rfl, _, _, _, [], _, [], hW', trodAll_mk1 (shut_bool Try.underlying4 _), (trodAll_cons_mk (shut_int Try.underlying2 w0) (trodAll_cons_mk (shut_int Try.underlying2 w1) (trodAll_cons_mk (Below.trod laidOut (by kernel_rfl) (of_decide_eq_true (by kernel_rfl)) k2 bel lt2) trodAll_mk0))), rfl, bel.frame _, fun h => by cases h⟩

theorem over : Rows.exactPartsRow.holds Try.pinned (OpenSpec.ofChange Rows.exactPartsSpec) :=
  OpenClaim.holds_of_wide 4 Try.f4 rfl rfl rfl rfl rfl rfl rfl ⟨rfl, rfl, rfl, rfl, rfl⟩ rfl rfl rfl rfl rfl (by kernel_rfl) Try.func4 (by kernel_rfl)
    (of_decide_eq_true (by kernel_rfl)) (by unfold Func.isWrapper; first | (rw [if_pos (by decide +kernel)]; kernel_rfl) | (rw [if_neg (by decide +kernel)]; exact ⟨rfl, rfl⟩))
    (fun os started H enc _ => lifted os started H enc)

/-- ████ THE STATEMENT ████ -/
theorem proved : Rows.ExactPartsSaid := over
#print axioms proved
end Go.Proofs.Ytmalcnebejgajaa.exactParts
