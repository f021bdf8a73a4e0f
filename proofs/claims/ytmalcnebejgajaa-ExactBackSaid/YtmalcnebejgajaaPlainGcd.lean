/-
  Plain facts on what numbers have in common; no Go in sight.
-/
import Derived.Test.YtmalcnebejgajaaPlain
namespace Go.Proofs.Ytmalcnebejgajaa
open Go.RowKit

/-! ### what is common -/
def gc (a b : Int) : Int := (Int.gcd a b : Int)
theorem gc_step {a b : Int} (ha : 0 ≤ a) (hb : 0 ≤ b) : gc b (a % b) = gc a b := by
  obtain ⟨x, rfl⟩ := Int.eq_ofNat_of_zero_le ha
  obtain ⟨y, rfl⟩ := Int.eq_ofNat_of_zero_le hb
  unfold gc
  have e : ((x : Int) % (y : Int)) = ((x % y : Nat) : Int) := by omega
  rw [e]
  show ((Nat.gcd y (x % y) : Nat) : Int) = ((Nat.gcd x y : Nat) : Int)
  rw [Nat.gcd_comm x y, Nat.gcd_rec y x, Nat.gcd_comm]
theorem gc_zero {a : Int} (ha : 0 ≤ a) : gc a 0 = a := by
  obtain ⟨x, rfl⟩ := Int.eq_ofNat_of_zero_le ha
  show ((Nat.gcd x 0 : Nat) : Int) = _
  rw [Nat.gcd_zero_right]
theorem gc_pos {a b : Int} (ha : 0 < a) : 1 ≤ gc a b := by
  have h : 0 < Int.gcd a b := Int.gcd_pos_of_ne_zero_left b (by omega)
  unfold gc; omega
theorem gc_dvd {a b : Int} : gc a b ∣ a := Int.gcd_dvd_left a b
theorem gc_dvd' {a b : Int} : gc a b ∣ b := Int.gcd_dvd_right a b
theorem quo_bd {a g : Int} (ha : 0 < a) (hg : 1 ≤ g) (hd : g ∣ a) : 1 ≤ a / g ∧ a / g ≤ a := by
  obtain ⟨c, rfl⟩ := hd
  rw [Int.mul_ediv_cancel_left c (by omega)]
  have hc : 0 < c := by
    rcases Int.lt_trichotomy c 0 with h | h | h
    · have := Int.mul_neg_of_pos_of_neg (show 0 < g by omega) h; omega
    · subst h; omega
    · exact h
  refine ⟨by omega, ?_⟩
  have := Int.mul_le_mul_of_nonneg_right hg (show 0 ≤ c by omega)
  omega
/-- Gcd's number and its error -/
def gv (a b : Int) : Int := if a < 0 ∨ b < 0 then 0 else gc a b
def ge (a b : Int) : Int := if a < 0 ∨ b < 0 then 1 else 0
/-- the least number that both divide -/
def lc (a b : Int) : Int := a / gc a b * b
def lv (a b : Int) : Int := if b < 1 then 0 else tv (lc a b)
def le (a b : Int) : Int := if b < 1 then 1 else te (lc a b)
theorem lv_up {a b : Int} (h : 1 ≤ b) : lv a b = tv (lc a b) := if_neg (by omega)
theorem le_up {a b : Int} (h : 1 ≤ b) : le a b = te (lc a b) := if_neg (by omega)
theorem lv_no {a b : Int} (h : b < 1) : lv a b = 0 := if_pos h
theorem le_no {a b : Int} (h : b < 1) : le a b = 1 := if_pos h
/-- the least number that all of a row divide, and its error -/
def rowL (m : Int) : List Int → Int × Int
  | [] => (m, 0)
  | n :: r => if le m n = 0 then rowL (lv m n) r else (0, le m n)
theorem lc_pos {a b : Int} (ha : 0 < a) (hb : 0 < b) : 1 ≤ lc a b := by
  have h := quo_bd ha (gc_pos (b := b) ha) gc_dvd
  have := Int.mul_pos (show 0 < a / gc a b by omega) hb
  unfold lc; omega
theorem le_zero {a b : Int} (ha : 0 < a) (h : le a b = 0) : 1 ≤ b ∧ Fits (lc a b) ∧ lv a b = lc a b ∧ 1 ≤ lv a b ∧ lv a b ≤ 9223372036854775807 := by
  by_cases hb : b < 1
  · rw [le_no hb] at h; omega
  · by_cases f : Fits (lc a b)
    · have e : lv a b = lc a b := by rw [lv_up (by omega), tv_in f]
      have := lc_pos ha (show 0 < b by omega)
      refine ⟨by omega, f, e, by omega, ?_⟩
      rw [e]; exact f.2
    · rw [le_up (by omega), te_out f] at h; omega
theorem le_not {a b : Int} (h : ¬ le a b = 0) : lv a b = 0 := by
  by_cases hb : b < 1
  · exact lv_no hb
  · rw [le_up (by omega)] at h
    rw [lv_up (by omega)]
    by_cases f : Fits (lc a b)
    · rw [te_in f] at h; omega
    · exact tv_out f
theorem rowL_step {m n : Int} {r : List Int} (h : le m n = 0) : rowL m (n :: r) = rowL (lv m n) r := if_pos h
theorem rowL_stop {m n : Int} {r : List Int} (h : ¬ le m n = 0) : rowL m (n :: r) = (0, le m n) := if_neg h
end Go.Proofs.Ytmalcnebejgajaa
