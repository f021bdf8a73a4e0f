/-
  The walk of the law SeatsNil.
-/
import Derived.Test.YtgkmhnkndjfcaaaUe0
namespace Go.Proofs.Ytgkmhnkndjfcaaa
open Go.RowKit

set_option maxRecDepth 20000 in
set_option maxHeartbeats 4000000 in
theorem snil_walk {Hp : World → Nat → (Nat → Prop) → Nat → List Int → Prop} (ok : SeatsOk Hp) (n : Int) (w : World) : Calls Try.prog 6 #[.int .i64 n] w fun e w' => e = .returned (.bool true) ∧ Below w.heap.size w w' := by
  by_cases h : 1 ≤ n ∧ n ≤ 64
  · obtain ⟨h1, h2⟩ := h
    obtain ⟨k, rfl⟩ := Int.eq_ofNat_of_zero_le (show 0 ≤ n by omega)
    have d1 : decide (1 ≤ (k : Int)) = true := by simp; omega
    have d1' : decide (1 ≤ k) = true := by simp; omega
    have d2 : decide ((k : Int) ≤ 64) = true := by simp; omega
    have d2' : decide (k ≤ 64) = true := by simp; omega
    go_enter Try.func6, Try.ntmps6
    go_wp2_with fail
    refine (ok.new_yes k w (by omega) (by omega)).mono ?_
    rintro e w1 ⟨g, F, rfl, _, _, hb⟩
    have B := Lib.hid hb
    clear hb
    go_wp2_with fail
    refine (ok.take_nil w1).mono ?_
    rintro e w2 ⟨rfl, hb⟩
    have B := Lib.hid (below_next B.out hb)
    clear hb
    go_wp2_with fail
    refine (awake17_any ok w2).mono ?_
    rintro e w3 ⟨rfl, hb⟩
    have B := Lib.hid (below_next B.out hb)
    clear hb
    go_wp2_with fail
    refine (ok.give_nil 0 w3).mono ?_
    rintro e w4 ⟨rfl, hb⟩
    have B := Lib.hid (below_next B.out hb)
    clear hb
    go_wp2_with fail
    refine (ok.taken_nil 0 w4).mono ?_
    rintro e w5 ⟨rfl, hb⟩
    have B := Lib.hid (below_next B.out hb)
    clear hb
    go_wp2_with fail
    refine (ok.left_nil w5).mono ?_
    rintro e w6 ⟨rfl, hb⟩
    have B := Lib.hid (below_next B.out hb)
    clear hb
    go_wp2_with fail
    refine (ok.ids_nil w6).mono ?_
    rintro e w7 ⟨⟨a, cap, rfl⟩, hb⟩
    have B := Lib.hid (below_next B.out hb)
    clear hb
    go_wp2
    go_ret
    exact ⟨rfl, B.out⟩
  · go_enter Try.func6, Try.ntmps6
    go_wp2_with fail
    refine (ok.new_no n w (by omega)).mono ?_
    rintro e w1 ⟨rfl, hb⟩
    have B := Lib.hid hb
    clear hb
    by_cases h1 : 1 ≤ n
    · have d1 : decide (1 ≤ n) = true := decide_eq_true h1
      have d2 : decide (n ≤ 64) = false := decide_eq_false (by omega)
      clear h
      go_wp2_with fail
      refine (ok.take_nil w1).mono ?_
      rintro e w2 ⟨rfl, hb⟩
      have B := Lib.hid (below_next B.out hb)
      clear hb
      go_wp2_with fail
      refine (awake17_any ok w2).mono ?_
      rintro e w3 ⟨rfl, hb⟩
      have B := Lib.hid (below_next B.out hb)
      clear hb
      go_wp2_with fail
      refine (ok.give_nil 0 w3).mono ?_
      rintro e w4 ⟨rfl, hb⟩
      have B := Lib.hid (below_next B.out hb)
      clear hb
      go_wp2_with fail
      refine (ok.taken_nil 0 w4).mono ?_
      rintro e w5 ⟨rfl, hb⟩
      have B := Lib.hid (below_next B.out hb)
      clear hb
      go_wp2_with fail
      refine (ok.left_nil w5).mono ?_
      rintro e w6 ⟨rfl, hb⟩
      have B := Lib.hid (below_next B.out hb)
      clear hb
      go_wp2_with fail
      refine (ok.ids_nil w6).mono ?_
      rintro e w7 ⟨⟨a, cap, rfl⟩, hb⟩
      have B := Lib.hid (below_next B.out hb)
      clear hb
      go_wp2
      go_ret
      exact ⟨rfl, B.out⟩
    · have d1 : decide (1 ≤ n) = false := decide_eq_false h1
      clear h
      go_wp2_with fail
      refine (ok.take_nil w1).mono ?_
      rintro e w2 ⟨rfl, hb⟩
      have B := Lib.hid (below_next B.out hb)
      clear hb
      go_wp2_with fail
      refine (awake17_any ok w2).mono ?_
      rintro e w3 ⟨rfl, hb⟩
      have B := Lib.hid (below_next B.out hb)
      clear hb
      go_wp2_with fail
      refine (ok.give_nil 0 w3).mono ?_
      rintro e w4 ⟨rfl, hb⟩
      have B := Lib.hid (below_next B.out hb)
      clear hb
      go_wp2_with fail
      refine (ok.taken_nil 0 w4).mono ?_
      rintro e w5 ⟨rfl, hb⟩
      have B := Lib.hid (below_next B.out hb)
      clear hb
      go_wp2_with fail
      refine (ok.left_nil w5).mono ?_
      rintro e w6 ⟨rfl, hb⟩
      have B := Lib.hid (below_next B.out hb)
      clear hb
      go_wp2_with fail
      refine (ok.ids_nil w6).mono ?_
      rintro e w7 ⟨⟨a, cap, rfl⟩, hb⟩
      have B := Lib.hid (below_next B.out hb)
      clear hb
      go_wp2
      go_ret
      exact ⟨rfl, B.out⟩
end Go.Proofs.Ytgkmhnkndjfcaaa
