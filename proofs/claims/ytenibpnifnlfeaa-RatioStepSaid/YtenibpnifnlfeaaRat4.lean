/-
  What the document's Check, gcd, Little and Least, and the laws' same, give back of ratios: contracts.
-/
import Derived.Test.YtenibpnifnlfeaaRat3
namespace Go.Proofs.Ytenibpnifnlfeaa
open Go.RowKit

theorem below_box (w : World) (o : Obj) : Below w.heap.size w (w.alloc o) := (Below.refl _ _).alloc (Nat.le_refl _) _

theorem rcheck_any (a1 : Option Addr) (l1 c1 : Nat) (z1 : List Int) (a2 : Option Addr) (l2 c2 : Nat) (z2 : List Int) (w : World) (h1 : Row .u32 w a1 l1 c1 z1) (h2 : Row .u32 w a2 l2 c2 z2) (r : Bool) (hr : r = true ↔ (Top z1 ∧ Top z2 ∧ z2 ≠ [])) :
    Calls Try.prog 27 #[.agg #[.slice a1 l1 c1, .slice a2 l2 c2]] w fun e w' => e = .returned (.bool r) ∧ Below w.heap.size w w' := by
  obtain ⟨r1, hr1⟩ : ∃ r : Bool, r = true ↔ Top z1 := by
    by_cases h : Top z1
    · exact ⟨true, ⟨fun _ => h, fun _ => rfl⟩⟩
    · exact ⟨false, ⟨fun e => (by cases e), fun e => absurd e h⟩⟩
  obtain ⟨r2, hr2⟩ : ∃ r : Bool, r = true ↔ Top z2 := by
    by_cases h : Top z2
    · exact ⟨true, ⟨fun _ => h, fun _ => rfl⟩⟩
    · exact ⟨false, ⟨fun e => (by cases e), fun e => absurd e h⟩⟩
  have ⟨c9, c8⟩ := h2.cap_le
  have E := Lib.hid (show r = (r1 && (r2 && decide (0 < l2))) by
    rw [Bool.eq_iff_iff, hr, Bool.and_eq_true, Bool.and_eq_true, hr1, hr2, decide_eq_true_eq, ← h2.len, List.length_pos_iff])
  have H1 := Lib.hid h1; have H2 := Lib.hid h2; have HR1 := Lib.hid hr1; have HR2 := Lib.hid hr2
  clear h1 h2 hr1 hr2 hr
  have B0 := Lib.hid (below_box w (.cells #[.slice a1 l1 c1, .slice a2 l2 c2] 26))
  go_enter Try.func27, Try.ntmps27
  go_wp2_with fail
  refine (check_any a1 l1 c1 z1 _ r1 (H1.out.below B0.out) HR1.out).mono ?_
  rintro e w' ⟨rfl, rfl⟩
  go_wp2_with fail
  refine (check_any a2 l2 c2 z2 _ r2 (H2.out.below B0.out) HR2.out).mono ?_
  rintro e w' ⟨rfl, rfl⟩
  cases r1
  · go_wp2
    go_ret
    exact ⟨by rw [E.out]; rfl, B0.out⟩
  · cases r2
    · go_wp2
      go_ret
      exact ⟨by rw [E.out]; rfl, B0.out⟩
    · by_cases h0 : 0 < l2
      · have b0 : decide (0 < l2) = true := by simp; omega
        rw [b0] at E
        go_wp2
        go_ret
        exact ⟨by rw [E.out]; rfl, B0.out⟩
      · have b0 : decide (0 < l2) = false := by simp; omega
        rw [b0] at E
        go_wp2
        go_ret
        exact ⟨by rw [E.out]; rfl, B0.out⟩

theorem rsame_any (a1 : Option Addr) (l1 c1 : Nat) (z1 : List Int) (a2 : Option Addr) (l2 c2 : Nat) (z2 : List Int) (a3 : Option Addr) (l3 c3 : Nat) (z3 : List Int) (a4 : Option Addr) (l4 c4 : Nat) (z4 : List Int) (w : World)
    (h1 : Row .u32 w a1 l1 c1 z1) (h2 : Row .u32 w a2 l2 c2 z2) (h3 : Row .u32 w a3 l3 c3 z3) (h4 : Row .u32 w a4 l4 c4 z4) (r : Bool) (hr : r = true ↔ (z1 = z3 ∧ z2 = z4)) :
    Calls Try.prog 25 #[.agg #[.slice a1 l1 c1, .slice a2 l2 c2], .agg #[.slice a3 l3 c3, .slice a4 l4 c4]] w fun e w' => e = .returned (.bool r) ∧ Below w.heap.size w w' := by
  have E := Lib.hid (show r = (decide (z1 = z3) && decide (z2 = z4)) by rw [Bool.eq_iff_iff, hr, Bool.and_eq_true, decide_eq_true_eq, decide_eq_true_eq])
  obtain ⟨r1, hr1⟩ : ∃ r1, decide (z1 = z3) = r1 := ⟨_, rfl⟩
  obtain ⟨r2, hr2⟩ : ∃ r2, decide (z2 = z4) = r2 := ⟨_, rfl⟩
  rw [hr1, hr2] at E
  have HR1 := Lib.hid (show r1 = true ↔ z1 = z3 by rw [← hr1, decide_eq_true_eq])
  have HR2 := Lib.hid (show r2 = true ↔ z2 = z4 by rw [← hr2, decide_eq_true_eq])
  have H1 := Lib.hid h1; have H2 := Lib.hid h2; have H3 := Lib.hid h3; have H4 := Lib.hid h4
  clear h1 h2 h3 h4 hr hr1 hr2
  go_enter Try.func25, Try.ntmps25
  go_wp2_with fail
  obtain ⟨W0, hW0⟩ : ∃ W0, (w.alloc (Obj.cells #[Value.slice a1 l1 c1, Value.slice a2 l2 c2] 26)).alloc (Obj.cells #[Value.slice a3 l3 c3, Value.slice a4 l4 c4] 26) = W0 := ⟨_, rfl⟩
  have BX := two_boxes w #[Value.slice a1 l1 c1, Value.slice a2 l2 c2] #[Value.slice a3 l3 c3, Value.slice a4 l4 c4] 26 26
  rw [hW0] at BX ⊢
  clear hW0
  have k2 : W0.cell? ⟨w.heap.size, 1, none⟩ = some (.slice a2 l2 c2) := BX.1 1
  have k4 : W0.cell? ⟨w.heap.size + 1, 1, none⟩ = some (.slice a4 l4 c4) := BX.2.1 1
  have B0 := Lib.hid BX.2.2.2.1
  clear BX
  refine (same_any a1 l1 c1 z1 a3 l3 c3 z3 W0 r1 (H1.out.below B0.out) (H3.out.below B0.out) HR1.out).mono ?_
  rintro e w' ⟨rfl, k, rfl⟩
  go_wp2_with fail
  refine (same_any a2 l2 c2 z2 a4 l4 c4 z4 (W0.drewN k) r2 ((H2.out.below B0.out).drewN k) ((H4.out.below B0.out).drewN k) HR2.out).mono ?_
  rintro e w' ⟨rfl, j, rfl⟩
  have B1 := Lib.hid (show Below w.heap.size w ((W0.drewN k).drewN j) from ⟨B0.out.os, B0.out.tape, B0.out.output, B0.out.size, B0.out.block⟩)
  cases r1
  · go_wp2
    go_ret
    refine ⟨by rw [E.out]; rfl, ?_⟩
    have := B1.out
    simpa using this
  · go_wp2
    go_ret
    refine ⟨by rw [E.out]; rfl, ?_⟩
    have := B1.out
    simpa using this

theorem rgcd_up (k : Nat) : ∀ (a b : Nat) (w : World), b ≤ k → a ≤ 18446744073709551615 → b ≤ 18446744073709551615 →
    Calls Try.prog 42 #[.int .u64 a, .int .u64 b] w fun e w' => e = .returned (.int .u64 (Nat.gcd a b)) ∧ w = w' := by
  induction k with
  | zero =>
    intro a b w hk ha hb
    obtain rfl : b = 0 := (by omega)
    have H := Lib.hid (Nat.gcd_zero_right a)
    go_enter Try.func42, Try.ntmps42
    go_wp2_with fail
    go_ret
    exact ⟨ret_one (by rw [H.out]), rfl⟩
  | succ k ih =>
    intro a b w hk ha hb
    by_cases h : b = 0
    · subst h
      have H := Lib.hid (Nat.gcd_zero_right a)
      clear hk
      go_enter Try.func42, Try.ntmps42
      go_wp2_with fail
      go_ret
      exact ⟨ret_one (by rw [H.out]), rfl⟩
    · have h1 : a % b < b := Nat.mod_lt _ (by omega)
      have H := Lib.hid (show Nat.gcd b (a % b) = Nat.gcd a b by rw [Nat.gcd_comm a b, Nat.gcd_rec b a, Nat.gcd_comm])
      have IH := Lib.hid (ih b (a % b) w (by omega) hb (by omega))
      have b0 : ((b : Int) == 0) = false := by simp; omega
      have e0 : ((a : Int) % (b : Int)) = ((a % b : Nat) : Int) := by simp
      have EM := Lib.hid e0
      clear ih e0
      go_enter Try.func42, Try.ntmps42
      go_wp2_with fail
      rw [EM.out]
      refine IH.out.mono ?_
      rintro e w' ⟨rfl, rfl⟩
      go_wp2_with fail
      go_ret
      exact ⟨ret_one (by rw [H.out]), rfl⟩
end Go.Proofs.Ytenibpnifnlfeaa
