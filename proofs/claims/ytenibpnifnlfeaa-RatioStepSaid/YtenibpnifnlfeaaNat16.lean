/-
  Sub and Div once more, as the laws want them: one contract each, whichever way it goes.
-/
import Derived.Test.YtenibpnifnlfeaaNat15
namespace Go.Proofs.Ytenibpnifnlfeaa
open Go.RowKit

def GivesT (w : World) (n er : Int) (e : Ending) (w' : World) : Prop :=
  ∃ a len cap zs, e = .returned (.tuple #[.slice a len cap, .int .i64 er]) ∧ Row .u32 w' a len cap zs ∧ Is 4294967296 zs n ∧ Below w.heap.size w w'
def Subs (m n t er : Int) : Prop := (m < n ∧ t = 0 ∧ er = 16) ∨ (n ≤ m ∧ t = m - n ∧ er = 0)
def Divs (m d q r er : Int) : Prop := (d = 0 ∧ q = 0 ∧ r = 0 ∧ er = 17) ∨ (0 < d ∧ q = m / d ∧ r = m % d ∧ er = 0)
theorem subs_ex (m n : Int) : ∃ t er, Subs m n t er := by
  rcases Int.lt_or_le m n with h | h
  · exact ⟨_, _, .inl ⟨h, rfl, rfl⟩⟩
  · exact ⟨_, _, .inr ⟨h, rfl, rfl⟩⟩
theorem divs_ex (m : Int) {d : Int} (h : 0 ≤ d) : ∃ q r er, Divs m d q r er := by
  rcases Int.lt_or_eq_of_le h with h | h
  · exact ⟨_, _, _, .inr ⟨h, rfl, rfl, rfl⟩⟩
  · exact ⟨_, _, _, .inl ⟨h.symm, rfl, rfl, rfl⟩⟩
theorem nSub_is (a : Option Addr) (la ca : Nat) (za : List Int) (m : Int) (b : Option Addr) (lb cb : Nat) (zb : List Int) (n : Int) (w : World)
    (ha : Row .u32 w a la ca za) (ia : Is 4294967296 za m) (hb : Row .u32 w b lb cb zb) (ib : Is 4294967296 zb n) (la6 : la ≤ 1000) (t er : Int) (h : Subs m n t er) :
    Calls Try.prog 37 #[.slice a la ca, .slice b lb cb] w (GivesT w t er) := by
  rcases h with ⟨h, rfl, rfl⟩ | ⟨h, rfl, rfl⟩
  · refine (nSub_lt a la ca za b lb cb zb w ha ia.1 hb ib.1 (by rw [ia.2.2, ib.2.2]; exact h)).mono ?_
    rintro e w' ⟨rfl, hbl⟩
    exact ⟨none, 0, 0, [], rfl, Row.nil, is_nil, hbl⟩
  · refine (nSub_ge a la ca za m b lb cb zb n w ha ia hb ib h (by omega)).mono ?_
    rintro e w' ⟨a', l, c, r, rfl, hr, hi, _, hbl⟩
    exact ⟨a', l, c, r, rfl, hr, hi, hbl⟩
def GivesD (w : World) (q r er : Int) (e : Ending) (w' : World) : Prop :=
  ∃ a len cap zs, e = .returned (.tuple #[.slice a len cap, .int .u32 r, .int .i64 er]) ∧ Row .u32 w' a len cap zs ∧ Is 4294967296 zs q ∧ Below w.heap.size w w'
theorem nDiv_is (a : Option Addr) (la ca : Nat) (za : List Int) (m d : Int) (w : World) (ha : Row .u32 w a la ca za) (ia : Is 4294967296 za m) (la6 : la ≤ 1000) (d1 : d < 4294967296) (q r er : Int) (h : Divs m d q r er) :
    Calls Try.prog 71 #[.slice a la ca, .int .u32 d] w (GivesD w q r er) := by
  rcases h with ⟨rfl, rfl, rfl, rfl⟩ | ⟨h, rfl, rfl, rfl⟩
  · refine (nDiv_zero a la ca w).mono ?_
    rintro e w' ⟨rfl, rfl⟩
    exact ⟨none, 0, 0, [], rfl, Row.nil, is_nil, Below.refl _ _⟩
  · refine (nDiv_pos a la ca za d w ha ia.1 (by omega) h d1).mono ?_
    rintro e w' ⟨a', l, c, z, rfl, hr, hi, _, hbl⟩
    rw [ia.2.2] at hi ⊢
    exact ⟨a', l, c, z, rfl, hr, hi, hbl⟩
theorem Add_is (a : Option Addr) (la ca : Nat) (za : List Int) (m : Int) (b : Option Addr) (lb cb : Nat) (zb : List Int) (n : Int) (w : World)
    (ha : Row .u32 w a la ca za) (ia : Is 4294967296 za m) (hb : Row .u32 w b lb cb zb) (ib : Is 4294967296 zb n) (la5 : la ≤ 50) (lb5 : lb ≤ 50) :
    Calls Try.prog 39 #[.slice a la ca, .slice b lb cb] w (GivesL w 1000000 (m + n)) := by
  refine (Add_any a la ca za m b lb cb zb n w ha ia hb ib la5 lb5).mono ?_
  rintro e w' ⟨a', l, c, r, rfl, hr, hi, hbl, _⟩
  exact ⟨a', l, c, r, rfl, hr, hi, by have := len_sum hi (is_lt ia (p := 50) (by rw [ha.len]; exact la5)).2 (is_lt ib (p := 50) (by rw [hb.len]; exact lb5)).2; rw [← hr.len]; omega, hbl⟩
theorem Mul_is (a : Option Addr) (la ca : Nat) (za : List Int) (m : Int) (b : Option Addr) (lb cb : Nat) (zb : List Int) (n : Int) (w : World)
    (ha : Row .u32 w a la ca za) (ia : Is 4294967296 za m) (hb : Row .u32 w b lb cb zb) (ib : Is 4294967296 zb n) (la5 : la ≤ 50) (lb5 : lb ≤ 50) :
    Calls Try.prog 33 #[.slice a la ca, .slice b lb cb] w (GivesL w 1000000 (m * n)) := by
  refine (Mul_any a la ca za m b lb cb zb n w ha ia hb ib la5 lb5).mono ?_
  rintro e w' ⟨a', l, c, r, rfl, hr, hi, hbl, _⟩
  exact ⟨a', l, c, r, rfl, hr, hi, by have := len_prod hi (is_lt ia (p := 50) (by rw [ha.len]; exact la5)) (is_lt ib (p := 50) (by rw [hb.len]; exact lb5)); rw [← hr.len]; omega, hbl⟩
end Go.Proofs.Ytenibpnifnlfeaa
