/-
  Package task as landed: Arrive, where it tells an error: contracts.
-/
import Derived.Test.YthaoijmjkmgebaaTq5
namespace Go.Proofs.Ythaoijmjkmgebaa
open Go.RowKit

theorem tarrive_nil (at_ n : Int) (w : World) : Calls Try.prog 19 #[.pointer none, .int .i64 at_, .int .i64 n] w fun z w' => z = .returned (.int .i64 1) ∧ Below w.heap.size w w' := by
  go_enter Try.func19, Try.ntmps19
  go_wp2
  go_ret
  exact ⟨rfl, Below.refl _ _⟩
section
variable (g : Nat) (F : Nat → Prop) (t : TS) (at_ n : Int) (w : World)
theorem tarrive_bad (ha : ¬ ArrOk at_ n) : Calls Try.prog 19 #[.pointer (some ⟨g, 0, none⟩), .int .i64 at_, .int .i64 n] w fun z w' => z = .returned (.int .i64 1) ∧ w = w' := by
  by_cases q : 0 ≤ at_ ∧ at_ ≤ 1099511627776
  · have HS := Lib.hid (show true = decide (0 ≤ at_ ∧ at_ ≤ 1099511627776) from (decide_eq_true q).symm)
    by_cases q1 : n < 1
    · have t1 : decide (n < 1) = true := decide_eq_true q1
      clear ha q q1
      go_enter Try.func19, Try.ntmps19
      go_wp2_with fail
      refine (tslot_any at_ _ true HS.out).mono ?_
      rintro e w1 ⟨rfl, rfl⟩
      go_wp2
      go_ret
      exact ⟨rfl, rfl⟩
    · have t1 : decide (n < 1) = false := decide_eq_false q1
      have t2 : decide (64 < n) = true := decide_eq_true (by unfold ArrOk at ha; omega)
      clear ha q q1
      go_enter Try.func19, Try.ntmps19
      go_wp2_with fail
      refine (tslot_any at_ _ true HS.out).mono ?_
      rintro e w1 ⟨rfl, rfl⟩
      go_wp2
      go_ret
      exact ⟨rfl, rfl⟩
  · have HS := Lib.hid (show false = decide (0 ≤ at_ ∧ at_ ≤ 1099511627776) from (decide_eq_false q).symm)
    clear ha q
    go_enter Try.func19, Try.ntmps19
    go_wp2_with fail
    refine (tslot_any at_ _ false HS.out).mono ?_
    rintro e w1 ⟨rfl, rfl⟩
    go_wp2
    go_ret
    exact ⟨rfl, rfl⟩
theorem tarrive_cut (h : HpT w g F t) (ha : ArrOk at_ n) (hc : t.cut = true) : Calls Try.prog 19 #[.pointer (some ⟨g, 0, none⟩), .int .i64 at_, .int .i64 n] w fun z w' => z = .returned (.int .i64 13) ∧ w = w' := by
  obtain ⟨a0, a1, n0, n1⟩ := ha
  have HS := Lib.hid (show true = decide (0 ≤ at_ ∧ at_ ≤ 1099511627776) from (decide_eq_true ⟨a0, a1⟩).symm)
  have t1 : decide (n < 1) = false := decide_eq_false (by omega)
  have t2 : decide (64 < n) = false := decide_eq_false (by omega)
  obtain ⟨sb, v, hk, _⟩ := h
  have c11 := hk.box.cell 11
  simp [tkC, hc] at c11
  clear hk hc
  go_enter Try.func19, Try.ntmps19
  go_wp2_with fail
  refine (tslot_any at_ _ true HS.out).mono ?_
  rintro e w1 ⟨rfl, rfl⟩
  go_wp2
  go_ret
  exact ⟨rfl, rfl⟩
theorem tarrive_full (h : HpT w g F t) (ha : ArrOk at_ n) (hc : t.cut = false) (hf : 64 < (t.l.length : Int) + n) : Calls Try.prog 19 #[.pointer (some ⟨g, 0, none⟩), .int .i64 at_, .int .i64 n] w fun z w' => z = .returned (.int .i64 15) ∧ w = w' := by
  obtain ⟨a0, a1, n0, n1⟩ := ha
  have HS := Lib.hid (show true = decide (0 ≤ at_ ∧ at_ ≤ 1099511627776) from (decide_eq_true ⟨a0, a1⟩).symm)
  have t1 : decide (n < 1) = false := decide_eq_false (by omega)
  have t2 : decide (64 < n) = false := decide_eq_false (by omega)
  have few := h.good.few
  obtain ⟨sb, v, hk, _⟩ := h
  obtain ⟨a, cap, rfl, _, _⟩ := hk.que.val
  obtain ⟨ln, hln⟩ : ∃ ln, t.l.length = ln := ⟨_, rfl⟩
  have c11 := hk.box.cell 11
  simp [tkC, hc] at c11
  have c4 := hk.box.cell 4
  simp only [tkC, hln] at c4
  change _ = some (Value.slice a ln cap) at c4
  rw [hln] at few hf
  have wl : IntKind.i64.wrap ((ln : Int) + n) = (ln : Int) + n := IntWalk.i64_in _ (by omega)
  have t5 : decide (64 < (ln : Int) + n) = true := decide_eq_true hf
  clear hk hc hln few hf
  go_enter Try.func19, Try.ntmps19
  go_wp2_with fail
  refine (tslot_any at_ _ true HS.out).mono ?_
  rintro e w1 ⟨rfl, rfl⟩
  go_wp2
  go_ret
  exact ⟨rfl, rfl⟩
end
theorem tarrivals_any (sb : Nat) (at_ : Int) (w : World) (hs : sb < w.heap.size) : Calls Try.prog 36 #[.pointer (some ⟨sb, 0, none⟩), .int .i64 at_] w fun z w' => z = .returned (.func (.func 42) #[] #[.pointer (some ⟨w.heap.size + 1, 0, none⟩), .pointer (some ⟨w.heap.size, 0, none⟩)]) ∧ Late w' (w.heap.size + 1) w.heap.size sb at_ ∧ Below w.heap.size w w' := by
  have L := Lib.hid (show Late ((w.alloc (.cells #[.pointer (some ⟨sb, 0, none⟩)] 63)).alloc (.cells #[.int .i64 at_] 2)) (w.heap.size + 1) w.heap.size sb at_ from ⟨Blk.new2 _ _ _ _, (Blk.new _ _ _).alloc _, by omega, by omega⟩)
  clear hs
  go_enter Try.func36, Try.ntmps36
  go_wp2
  go_ret
  exact ⟨rfl, L.out, wbox2 _ _ _⟩
end Go.Proofs.Ythaoijmjkmgebaa
