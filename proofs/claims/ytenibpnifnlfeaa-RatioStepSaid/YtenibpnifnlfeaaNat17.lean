/-
  Parse, Text and Of once more, as the laws want them; every number has its decimal digits.
-/
import Derived.Test.YtenibpnifnlfeaaNat16
namespace Go.Proofs.Ytenibpnifnlfeaa
open Go.RowKit

theorem dec_ex (k : Nat) : ∀ n : Nat, n ≤ k → ∃ dd, Is 10 dd (n : Int) := by
  induction k with
  | zero =>
    intro n hn
    obtain rfl : n = 0 := (by omega)
    exact ⟨[], is_nil⟩
  | succ k ih =>
    intro n hn
    by_cases h0 : n = 0
    · subst h0; exact ⟨[], is_nil⟩
    · obtain ⟨r, hr⟩ := ih (n / 10) (by omega)
      refine ⟨((n % 10 : Nat) : Int) :: r, ?_, ?_, ?_⟩
      · intro z hz
        rw [List.mem_cons] at hz
        rcases hz with rfl | hz
        · omega
        · exact hr.1 z hz
      · cases r with
        | nil =>
          have : ((n / 10 : Nat) : Int) = 0 := hr.2.2.symm
          unfold Top
          simp
          omega
        | cons x l =>
          have := hr.2.1
          simpa [Top, List.getLast?_cons_cons] using this
      · rw [val, hr.2.2]; omega
theorem dec_of {m : Int} (h : 0 ≤ m) : ∃ dd, Is 10 dd m := by
  obtain ⟨n, rfl⟩ := Int.eq_ofNat_of_zero_le h
  exact dec_ex n n (Nat.le_refl _)

def Reads (l : List UInt8) (n er : Int) : Prop := (GoodS l ∧ n = val 10 (numL l) ∧ er = 0) ∨ (¬ GoodS l ∧ n = 0 ∧ er = 10)
theorem reads_ex (l : List UInt8) : ∃ n er, Reads l n er := by
  by_cases h : GoodS l
  · exact ⟨_, _, .inl ⟨h, rfl, rfl⟩⟩
  · exact ⟨_, _, .inr ⟨h, rfl, rfl⟩⟩
theorem Of_is (n : Int) (w : World) (n0 : 0 ≤ n) (n1 : n ≤ 18446744073709551615) :
    Calls Try.prog 19 #[.int .u64 n] w (GivesL w 1000000 n) := by
  refine (of_any n w n0 n1).mono ?_
  rintro e w' ⟨a', l, c, r, rfl, hr, hi, hbl, _⟩
  exact ⟨a', l, c, r, rfl, hr, hi, by have := hi.len_le (L := 2) (by omega) (by rw [show (4294967296 : Int) ^ 2 = 18446744073709551616 by decide +kernel]; omega); rw [← hr.len]; omega, hbl⟩
theorem bool_ex (p : Prop) : ∃ r : Bool, r = true ↔ p := by
  by_cases h : p
  · exact ⟨true, ⟨fun _ => h, fun _ => rfl⟩⟩
  · exact ⟨false, ⟨fun e => (by cases e), fun e => absurd e h⟩⟩
end Go.Proofs.Ytenibpnifnlfeaa
