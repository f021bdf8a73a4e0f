/-
  Plain facts on counters that go on by a part: no Go in sight.
-/
import Derived.Test.YthaoijmjkmgebaaWin4
namespace Go.Proofs.Ythaoijmjkmgebaa
open Go.RowKit

/-- a counter by A over B, k steps on: one step more -/
theorem ctr_step {A B k : Int} (hB : 0 < B) :
    (k * A % B + A % B < B ∧ (k + 1) * A / B = k * A / B + A / B ∧ (k + 1) * A % B = k * A % B + A % B) ∨
    (B ≤ k * A % B + A % B ∧ (k + 1) * A / B = k * A / B + A / B + 1 ∧ (k + 1) * A % B = k * A % B + A % B - B) := by
  have e : (k + 1) * A = k * A + A := by grind
  have h1 := Int.mul_ediv_add_emod (k * A) B
  have h2 := Int.emod_nonneg (k * A) (show B ≠ 0 by omega)
  have h3 := Int.emod_lt_of_pos (k * A) hB
  have g1 := Int.mul_ediv_add_emod A B
  have g2 := Int.emod_nonneg A (show B ≠ 0 by omega)
  have g3 := Int.emod_lt_of_pos A hB
  rw [e]
  obtain ⟨a, ha⟩ : ∃ a, k * A / B = a := ⟨_, rfl⟩
  obtain ⟨r, hr⟩ : ∃ r, k * A % B = r := ⟨_, rfl⟩
  obtain ⟨s, hs⟩ : ∃ s, A / B = s := ⟨_, rfl⟩
  obtain ⟨m, hm⟩ : ∃ m, A % B = m := ⟨_, rfl⟩
  rw [ha, hr] at h1; rw [hr] at h2 h3; rw [hs, hm] at g1; rw [hm] at g2 g3
  rw [ha, hr, hs, hm]
  by_cases c : r + m < B
  · refine .inl ⟨c, ?_⟩
    have f : k * A + A = (r + m) + (a + s) * B := by grind
    rw [f, Int.add_mul_ediv_right _ _ (by omega), Int.add_mul_emod_self_right, Int.ediv_eq_zero_of_lt (by omega) c, Int.emod_eq_of_lt (by omega) c]
    omega
  · refine .inr ⟨by omega, ?_⟩
    have f : k * A + A = (r + m - B) + (a + s + 1) * B := by grind
    rw [f, Int.add_mul_ediv_right _ _ (by omega), Int.add_mul_emod_self_right, Int.ediv_eq_zero_of_lt (by omega) (by omega), Int.emod_eq_of_lt (by omega) (by omega)]
    omega
theorem ctr_up {A B k : Int} (hB : 0 < B) : k * A / B + (if 0 < k * A % B then 1 else 0) = cdv (k * A) B := by
  rw [cdv_part hB]
  have h2 := Int.emod_nonneg (k * A) (show B ≠ 0 by omega)
  by_cases c : k * A % B = 0
  · rw [if_pos c, if_neg (by omega)]
  · rw [if_neg c, if_pos (by omega)]
/-- how great its numbers are -/
theorem ctr_fit {A B k K : Int} (hB : 0 < B) (hA0 : 0 ≤ A) (hA1 : A ≤ 1048576) (k0 : 0 ≤ k) (kK : k ≤ K) (hK : K ≤ 2199023255552) :
    0 ≤ k * A / B ∧ k * A / B ≤ 2305843009213693952 ∧ 0 ≤ k * A % B ∧ k * A % B < B ∧ 0 ≤ A / B ∧ A / B ≤ 1048576 ∧ 0 ≤ A % B ∧ A % B < B := by
  have h := mul_bd k0 (show k ≤ 2199023255552 by omega) hA0 hA1
  have h1 := Int.ediv_le_self B h.1
  have h2 := Int.ediv_le_self B hA0
  exact ⟨Int.ediv_nonneg h.1 (by omega), by omega, Int.emod_nonneg _ (by omega), Int.emod_lt_of_pos _ hB, Int.ediv_nonneg hA0 (by omega), by omega, Int.emod_nonneg _ (by omega), Int.emod_lt_of_pos _ hB⟩

/-! ### the counters of a stepper, n subtasks told -/
/-- what the groups' counter goes by -/
def gB (E P : Int) : Int := if E = P then E else P - E
/-- .. and how many steps on it is -/
def gK (E P n : Int) : Int := if E = P then n else wK E P n
theorem gB_pos {E P : Int} (hM : MayBe E P) : 0 < gB E P ∧ gB E P ≤ 1048576 := by
  obtain ⟨h1, h2, h3⟩ := hM
  unfold gB; split <;> omega
theorem wK_none {E P : Int} (hM : MayBe E P) (h : ¬ E = P) : wK E P 0 = 0 := by
  obtain ⟨h1, h2, h3⟩ := hM
  have d : wD E P 0 = 0 := by
    unfold wD
    refine cdv_is (by omega) (by omega) ?_
    have : (0 - 1) * E = - E := by grind
    omega
  unfold wK
  rw [d]
  have e : (0 - 1) * (P - E) = E + (-1) * P := by grind
  rw [e, Int.add_mul_ediv_right _ _ (by omega), Int.ediv_eq_zero_of_lt (by omega) (by omega)]
  rfl
theorem gK_none {E P : Int} (hM : MayBe E P) : gK E P 0 = 0 := by
  unfold gK; split
  · rfl
  · rename_i h; exact wK_none hM h
theorem wD_one {E n : Int} (hE : 0 < E) : wD E E n = n := by unfold wD; exact cdv_exact hE
/-- the group that a heavy weight's window is in, by its counter -/
theorem gK_group {E P n : Int} (hM : MayBe E P) (hh : ¬ 2 * E < P) : cdv (gK E P n * P) (gB E P) = wG E P n := by
  obtain ⟨h1, h2, h3⟩ := hM
  unfold gK gB wG
  rw [if_neg hh]
  by_cases q : E = P
  · subst q
    simp only [if_true]
    rfl
  · simp only [if_neg q]
theorem gK_least {E P n k : Int} (hM : MayBe E P) (hh : ¬ 2 * E < P) (h : wD E P n ≤ cdv (k * P) (gB E P)) : gK E P n ≤ k := by
  obtain ⟨h1, h2, h3⟩ := hM
  unfold gB at h
  unfold gK
  by_cases q : E = P
  · subst q
    simp only [if_true] at h ⊢
    rw [wD_one (by omega), cdv_exact (by omega)] at h
    exact h
  · simp only [if_neg q] at h ⊢
    exact group_least (by omega) (by omega) h
theorem gK_mono {E P n : Int} (hM : MayBe E P) (hh : ¬ 2 * E < P) : gK E P n ≤ gK E P (n + 1) := by
  refine gK_least hM hh ?_
  rw [gK_group hM hh]
  have h1 := next_later (P := P) (i := n) (show 0 < E by have := hM.1; omega) hM.2.1
  have h2 := (group_bd (i := n + 1) (show 0 < E by have := hM.1; omega) hM.2.1 hh).1
  omega
theorem gK_fit {E P n : Int} (hM : MayBe E P) (hh : ¬ 2 * E < P) (n0 : 0 ≤ n) (n1 : n ≤ 1099511627776) : 0 ≤ gK E P n ∧ gK E P n ≤ 2199023255552 := by
  by_cases z : n = 0
  · subst z; rw [gK_none hM]; omega
  · unfold gK
    split
    · omega
    · have := wK_fit hM hh (show 1 ≤ n by omega) n1
      omega
end Go.Proofs.Ythaoijmjkmgebaa
