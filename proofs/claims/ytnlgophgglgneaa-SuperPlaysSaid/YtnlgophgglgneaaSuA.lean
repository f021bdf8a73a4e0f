/-
  Tasks of tasks, as plain data: parts and what was handed on of each; who is first; what is missed; and that a supertask of enough weight misses nothing. No function of the program in sight.
  That a supertask of enough weight misses nothing: plain.
-/
import Derived.Test.YtnlgophgglgneaaKit
namespace Go.Proofs.Ytnlgophgglgneaa

/-- the sum of the first n -/
def sumN : Nat → (Nat → Int) → Int
  | 0, _ => 0
  | n + 1, f => sumN n f + f n
theorem sumN_le {n : Nat} {f g : Nat → Int} (h : ∀ i, i < n → f i ≤ g i) : sumN n f ≤ sumN n g := by
  induction n with
  | zero => exact Int.le_refl _
  | succ n ih =>
    have h1 := ih (fun i hi => h i (by omega))
    have h2 := h n (by omega)
    simp only [sumN]
    omega
theorem sumN_congr {n : Nat} {f g : Nat → Int} (h : ∀ i, i < n → f i = g i) : sumN n f = sumN n g :=
  Int.le_antisymm (sumN_le fun i hi => Int.le_of_eq (h i hi)) (sumN_le fun i hi => Int.le_of_eq (h i hi).symm)
theorem sumN_nonneg {n : Nat} {f : Nat → Int} (h : ∀ i, i < n → 0 ≤ f i) : 0 ≤ sumN n f := by
  induction n with
  | zero => exact Int.le_refl _
  | succ n ih =>
    have h1 := ih (fun i hi => h i (by omega))
    have h2 := h n (by omega)
    simp only [sumN]
    omega
theorem sumN_mul {n : Nat} (c : Int) (f : Nat → Int) : sumN n (fun i => c * f i) = c * sumN n f := by
  induction n with
  | zero => simp [sumN]
  | succ n ih => simp only [sumN]; rw [ih]; grind
theorem sumN_mul_right {n : Nat} (c : Int) (f : Nat → Int) : sumN n (fun i => f i * c) = sumN n f * c := by
  induction n with
  | zero => simp [sumN]
  | succ n ih => simp only [sumN]; rw [ih]; grind
/-- one more in one place -/
theorem sumN_one {n b : Nat} {f g : Nat → Int} (hb : b < n) (h : ∀ i, i < n → i ≠ b → f i = g i) (c : Int) (e : f b = g b + c) : sumN n f = sumN n g + c := by
  induction n with
  | zero => omega
  | succ n ih =>
    simp only [sumN]
    by_cases hn : b = n
    · subst hn
      rw [sumN_congr (g := g) fun i hi => h i (by omega) (by omega)]
      omega
    · have h1 := ih (by omega) (fun i hi => h i (by omega))
      have h2 := h n (by omega) (fun e => hn e.symm)
      omega
theorem sumN_pos {n : Nat} {f : Nat → Int} (h : ∀ i, i < n → 0 ≤ f i) (hp : 0 < sumN n f) : ∃ i, i < n ∧ 0 < f i := by
  induction n with
  | zero => simp [sumN] at hp
  | succ n ih =>
    simp only [sumN] at hp
    by_cases q : 0 < f n
    · exact ⟨n, by omega, q⟩
    · obtain ⟨i, hi, hf⟩ := ih (fun i hi => h i (by omega)) (by omega)
      exact ⟨i, by omega, hf⟩
/-! ### who waits, and who is first -/
section
variable (E P D : Nat → Int) (A t : Int)
/-- a part's first job that has quanta left -/
def jobN (i : Nat) : Int := D i / E i
def relN (i : Nat) : Int := (t - A) / P i + 1
def PendN (i : Nat) : Prop := jobN E D i < relN P A t i
def dlN (i : Nat) : Int := A + (jobN E D i + 1) * P i
instance (i : Nat) : Decidable (PendN E P D A t i) := inferInstanceAs (Decidable (_ < _))
def bestN : Nat → Option Nat
  | 0 => none
  | n + 1 => if PendN E P D A t n then match bestN n with
      | none => some n
      | some b => if dlN E P D A n < dlN E P D A b then some n else some b
    else bestN n
theorem best_spec (n : Nat) : match bestN E P D A t n with
    | none => ∀ i, i < n → ¬ PendN E P D A t i
    | some b => b < n ∧ PendN E P D A t b ∧ (∀ i, i < n → PendN E P D A t i → dlN E P D A b ≤ dlN E P D A i) ∧ ∀ i, i < b → PendN E P D A t i → dlN E P D A b < dlN E P D A i := by
  induction n with
  | zero => exact fun i hi => by omega
  | succ n ih =>
    simp only [bestN]
    by_cases hp : PendN E P D A t n
    · rw [if_pos hp]
      cases hb : bestN E P D A t n with
      | none =>
        rw [hb] at ih
        refine ⟨by omega, hp, fun i hi hpi => ?_, fun i hi hpi => absurd hpi (ih i hi)⟩
        by_cases e : i = n
        · subst e; exact Int.le_refl _
        · exact absurd hpi (ih i (by omega))
      | some b =>
        rw [hb] at ih
        obtain ⟨h1, h2, h3, h4⟩ := ih
        by_cases hl : dlN E P D A n < dlN E P D A b
        · simp only [if_pos hl]
          refine ⟨by omega, hp, fun i hi hpi => ?_, fun i hi hpi => by have := h3 i hi hpi; omega⟩
          by_cases e : i = n
          · subst e; exact Int.le_refl _
          · have := h3 i (by omega) hpi; omega
        · simp only [if_neg hl]
          refine ⟨by omega, h2, fun i hi hpi => ?_, h4⟩
          by_cases e : i = n
          · subst e; omega
          · exact h3 i (by omega) hpi
    · rw [if_neg hp]
      cases hb : bestN E P D A t n with
      | none =>
        rw [hb] at ih
        intro i hi
        by_cases e : i = n
        · subst e; exact hp
        · exact ih i (by omega)
      | some b =>
        rw [hb] at ih
        obtain ⟨h1, h2, h3, h4⟩ := ih
        refine ⟨by omega, h2, fun i hi hpi => ?_, h4⟩
        by_cases e : i = n
        · subst e; exact absurd hpi hp
        · exact h3 i (by omega) hpi
theorem best_none {n : Nat} (h : bestN E P D A t n = none) : ∀ i, i < n → ¬ PendN E P D A t i := by have := best_spec E P D A t n; rw [h] at this; exact this
theorem best_some {n b : Nat} (h : bestN E P D A t n = some b) : b < n ∧ PendN E P D A t b ∧ (∀ i, i < n → PendN E P D A t i → dlN E P D A b ≤ dlN E P D A i) ∧ ∀ i, i < b → PendN E P D A t i → dlN E P D A b < dlN E P D A i := by have := best_spec E P D A t n; rw [h] at this; exact this
/-- what is handed on then -/
def doneN (n : Nat) : Nat → Int := match bestN E P D A t n with
  | none => D
  | some b => fun i => if i = b then D i + 1 else D i
/-- what is left of what is due by T -/
def leftN (n : Nat) (T : Int) : Int := sumN n fun i => max 0 ((T - A) / P i * E i - D i)
end
end Go.Proofs.Ytnlgophgglgneaa
namespace Go.Proofs.Ytnlgophgglgneaa

/-- what all of them ask between two slots -/
def askN (E P : Nat → Int) (n : Nat) (u T : Int) : Int := sumN n fun i => max 0 ((T / P i - u / P i - 1) * E i)
/-- the weight we of p is enough for these parts -/
structure Enough (E P : Nat → Int) (n : Nat) (we p : Int) : Prop where
  e1 : ∀ i, i < n → 1 ≤ E i
  p1 : ∀ i, i < n → 1 ≤ P i
  pos : 0 < p
  div : ∀ i, i < n → P i ∣ p
  w1 : 1 ≤ we
  wp : we ≤ p
  fits : sumN n (fun i => E i * (p / P i)) ≤ p
  much : we = p ∨ ∃ least, 0 < least ∧ least ∣ p ∧ (∀ i, i < n → least ≤ P i) ∧ we = sumN n (fun i => E i * (p / P i)) + p / least
section
variable {E P : Nat → Int} {n : Nat} {we p : Int}
theorem ask_term {E P p u T : Int} (e1 : 1 ≤ E) (p1 : 1 ≤ P) (hd : P ∣ p) (pp : 0 < p) (h : u + 1 ≤ T) : p * max 0 ((T / P - u / P - 1) * E) ≤ E * (p / P) * (T - (u + 1)) := by
  obtain ⟨c, rfl⟩ := hd
  have c0 : 0 < c := by
    rcases Int.lt_or_le 0 c with q | q
    · exact q
    · have := Int.mul_le_mul_of_nonneg_left q (show 0 ≤ P by omega); omega
  rw [Int.mul_ediv_cancel_left _ (show P ≠ 0 by omega)]
  have h1 : P * (T / P) ≤ T := Int.mul_ediv_self_le (by omega)
  have h2 := Int.lt_mul_ediv_self_add (x := u) (k := P) (by omega)
  have h3 : P * (T / P - u / P - 1) ≤ T - (u + 1) := by
    have : P * (T / P - u / P - 1) = P * (T / P) - P * (u / P) - P := by grind
    omega
  have ec : 0 ≤ E * c := Int.mul_nonneg (by omega) (by omega)
  rcases Int.le_total 0 ((T / P - u / P - 1) * E) with q | q
  · rw [Int.max_eq_right q]
    have := Int.mul_le_mul_of_nonneg_left h3 ec
    have e : P * c * ((T / P - u / P - 1) * E) = E * c * (P * (T / P - u / P - 1)) := by grind
    omega
  · rw [Int.max_eq_left q]
    have := Int.mul_nonneg ec (show 0 ≤ T - (u + 1) by omega)
    omega
theorem ask_le (h : Enough E P n we p) {u T : Int} (hu : u + 1 ≤ T) : p * askN E P n u T ≤ sumN n (fun i => E i * (p / P i)) * (T - (u + 1)) := by
  unfold askN
  rw [← sumN_mul, ← sumN_mul_right]
  exact sumN_le fun i hi => ask_term (h.e1 i hi) (h.p1 i hi) (h.div i hi) h.pos hu
theorem ask_long (h : Enough E P n we p) {u T : Int} (hp : 0 < askN E P n u T) : ∃ i, i < n ∧ P i ≤ T - (u + 1) := by
  obtain ⟨i, hi, hx⟩ := sumN_pos (fun i _ => Int.le_max_left 0 _) hp
  refine ⟨i, hi, ?_⟩
  have p1 := h.p1 i hi
  have e1 := h.e1 i hi
  have hx2 : 0 < (T / P i - u / P i - 1) * E i := by
    rcases Int.le_total ((T / P i - u / P i - 1) * E i) 0 with q | q
    · rw [Int.max_eq_left q] at hx; omega
    · rw [Int.max_eq_right q] at hx; exact hx
  have hx3 : 1 ≤ T / P i - u / P i - 1 := by
    rcases Int.lt_or_le (T / P i - u / P i - 1) 1 with q | q
    · have := Int.mul_le_mul_of_nonneg_right (show T / P i - u / P i - 1 ≤ 0 by omega) (show 0 ≤ E i by omega)
      omega
    · exact q
  have h1 : P i * (T / P i) ≤ T := Int.mul_ediv_self_le (by omega)
  have h2 := Int.lt_mul_ediv_self_add (x := u) (k := P i) (by omega)
  have h3 := Int.mul_le_mul_of_nonneg_left hx3 (show 0 ≤ P i by omega)
  have e : P i * (T / P i - u / P i - 1) = P i * (T / P i) - P i * (u / P i) - P i := by grind
  omega
/-- who got its g + 1-th quantum after slot u began has room for what is asked behind it -/
theorem ask_room (h : Enough E P n we p) {u T g : Int} (hu : u + 1 ≤ T) (hg : g * p < we * (u + 1)) (hp : 0 < askN E P n u T) : askN E P n u T ≤ we * T / p - (g + 1) := by
  have hl := ask_le h hu
  obtain ⟨i, hi, hlong⟩ := ask_long h hp
  obtain ⟨a, ha⟩ : ∃ a, askN E P n u T = a := ⟨_, rfl⟩
  obtain ⟨sm, hsm⟩ : ∃ s, sumN n (fun i => E i * (p / P i)) = s := ⟨_, rfl⟩
  have fits := h.fits
  have much := h.much
  rw [ha, hsm] at hl
  rw [hsm] at fits much
  rw [ha] at hp ⊢
  have pp := h.pos
  have key : (a + (g + 1)) * p ≤ we * T := by
    have eT : we * T = we * (u + 1) + we * (T - (u + 1)) := by grind
    rcases much with rfl | ⟨least, l0, ⟨c, hc⟩, l1, rfl⟩
    · have h1 : g < u + 1 := Int.lt_of_mul_lt_mul_left (a := we) (by rw [Int.mul_comm we g]; exact hg) (by omega)
      have h2 := Int.mul_le_mul_of_nonneg_right fits (show 0 ≤ T - (u + 1) by omega)
      have h3 : a ≤ T - (u + 1) := Int.le_of_mul_le_mul_left (a := we) (by omega) (by omega)
      have h4 := Int.mul_le_mul_of_nonneg_left (show a + (g + 1) ≤ T by omega) (show 0 ≤ we by omega)
      rw [Int.mul_comm]
      exact h4
    · have hle : least ≤ T - (u + 1) := by have := l1 i hi; omega
      have c0 : 0 ≤ p / least := Int.ediv_nonneg (by omega) (by omega)
      have ec : least * (p / least) = p := Int.mul_ediv_cancel' ⟨c, hc⟩
      have h2 := Int.mul_le_mul_of_nonneg_right hle c0
      rw [ec] at h2
      have h3 : (sm + p / least) * (T - (u + 1)) = sm * (T - (u + 1)) + (T - (u + 1)) * (p / least) := by grind
      have h4 : (a + (g + 1)) * p = p * a + g * p + p := by grind
      omega
  have := Int.le_ediv_of_mul_le pp key
  omega
/-- g quanta were handed on; what is due by any later T has room -/
def InvN (E P : Nat → Int) (n : Nat) (we p g t : Int) (D : Nat → Int) : Prop := (∀ i, i < n → 0 ≤ D i) ∧ ∀ T, t ≤ T → leftN E P D 0 n T ≤ max 0 (we * T / p - g)
theorem inv_zero (h : Enough E P n we p) (hs : sumN n (fun i => E i * (p / P i)) ≤ we) : InvN E P n we p 0 0 (fun _ => 0) := by
  refine ⟨fun i _ => Int.le_refl _, fun T hT => ?_⟩
  have pp := h.pos
  have h1 : p * leftN E P (fun _ => 0) 0 n T ≤ sumN n (fun i => E i * (p / P i)) * T := by
    unfold leftN
    rw [← sumN_mul, ← sumN_mul_right]
    refine sumN_le fun i hi => ?_
    have := ask_term (u := -1) (h.e1 i hi) (h.p1 i hi) (h.div i hi) pp (show -1 + 1 ≤ T by omega)
    rw [show (-1 : Int) / P i = -1 from by rw [Int.neg_one_ediv, Int.sign_eq_one_of_pos (by have := h.p1 i hi; omega)]] at this
    have e : T / P i - -1 - 1 = T / P i := by omega
    rw [e] at this
    simp only [Int.sub_zero]
    have e2 : T - (-1 + 1) = T := by omega
    rw [e2] at this
    exact this
  have h2 := Int.mul_le_mul_of_nonneg_right hs hT
  have h3 : leftN E P (fun _ => 0) 0 n T * p ≤ we * T := by rw [Int.mul_comm]; omega
  have h4 := Int.le_ediv_of_mul_le pp h3
  have := Int.le_max_right 0 (we * T / p - 0)
  omega
theorem job_bd {E D : Int} (e1 : 1 ≤ E) : D / E * E ≤ D ∧ D < (D / E + 1) * E := by
  have h1 : E * (D / E) ≤ D := Int.mul_ediv_self_le (by omega)
  have h2 := Int.lt_mul_ediv_self_add (x := D) (k := E) (by omega)
  constructor
  · rw [Int.mul_comm]; exact h1
  · have : (D / E + 1) * E = E * (D / E) + E := by grind
    omega
theorem left_idle {E P D : Int} (e1 : 1 ≤ E) {u T : Int} (hn : ¬ D / E < u / P + 1) : T / P * E - D ≤ (T / P - u / P - 1) * E := by
  have h1 := (job_bd (D := D) e1).1
  have h2 := Int.mul_le_mul_of_nonneg_right (show u / P + 1 ≤ D / E by omega) (show 0 ≤ E by omega)
  have e : (T / P - u / P - 1) * E = T / P * E - (u / P + 1) * E := by grind
  omega
theorem left_late {E P D : Int} (e1 : 1 ≤ E) (p1 : 1 ≤ P) {T : Int} (hn : T < (D / E + 1) * P) : T / P * E - D ≤ 0 := by
  have h1 := (job_bd (D := D) e1).1
  have h2 : T / P < D / E + 1 := Int.ediv_lt_of_lt_mul (by omega) hn
  have h3 := Int.mul_le_mul_of_nonneg_right (show T / P ≤ D / E by omega) (show 0 ≤ E by omega)
  omega
theorem left_due {E P D : Int} (e1 : 1 ≤ E) (p1 : 1 ≤ P) {T : Int} (hn : (D / E + 1) * P ≤ T) : 1 ≤ T / P * E - D := by
  have h1 := (job_bd (D := D) e1).2
  have h2 : D / E + 1 ≤ T / P := Int.le_ediv_of_mul_le (by omega) hn
  have h3 := Int.mul_le_mul_of_nonneg_right h2 (show 0 ≤ E by omega)
  omega
theorem done_ge (D : Nat → Int) (A t : Int) (i : Nat) : D i ≤ doneN E P D A t n i := by
  unfold doneN
  cases bestN E P D A t n with
  | none => exact Int.le_refl _
  | some b =>
    show D i ≤ if i = b then D i + 1 else D i
    split <;> omega
theorem left_mono {D D' : Nat → Int} (h : ∀ i, i < n → D i ≤ D' i) (A T : Int) : leftN E P D' A n T ≤ leftN E P D A n T := by
  unfold leftN
  refine sumN_le fun i hi => ?_
  have := h i hi
  omega
theorem left_nonneg (D : Nat → Int) (A T : Int) : 0 ≤ leftN E P D A n T := sumN_nonneg fun _ _ => Int.le_max_left 0 _
/-- the next quantum, at any slot of its window, keeps it so -/
theorem inv_step (h : Enough E P n we p) {g t u : Int} {D : Nat → Int} (hi : InvN E P n we p g t D) (hu : t ≤ u) (hg : g * p < we * (u + 1)) : InvN E P n we p (g + 1) (u + 1) (doneN E P D 0 u n) := by
  refine ⟨fun i hn => Int.le_trans (hi.1 i hn) (done_ge D 0 u i), fun T hT => ?_⟩
  have hold := hi.2 T (by omega)
  -- nobody waits with a deadline by T
  have free : (∀ i, i < n → PendN E P D 0 u i → T < (D i / E i + 1) * P i) → leftN E P D 0 n T ≤ max 0 (we * T / p - (g + 1)) := fun hf => by
    have h1 : leftN E P D 0 n T ≤ askN E P n u T := by
      unfold leftN askN
      refine sumN_le fun i hi => ?_
      by_cases hp : PendN E P D 0 u i
      · have := left_late (D := D i) (h.e1 i hi) (h.p1 i hi) (hf i hi hp)
        simp only [Int.sub_zero]
        omega
      · have hp' : ¬ D i / E i < u / P i + 1 := by
          have := hp
          unfold PendN jobN relN at this
          simpa using this
        have := left_idle (P := P i) (T := T) (h.e1 i hi) hp'
        simp only [Int.sub_zero]
        omega
    by_cases hz : 0 < askN E P n u T
    · have := ask_room h hT hg hz
      omega
    · omega
  cases hb : bestN E P D 0 u n with
  | none =>
    have e : doneN E P D 0 u n = D := by unfold doneN; rw [hb]
    rw [e]
    exact free fun i hi hp => absurd hp (best_none E P D 0 u hb i hi)
  | some b =>
    obtain ⟨bn, bp, bl, _⟩ := best_some E P D 0 u hb
    have e : doneN E P D 0 u n = fun i => if i = b then D i + 1 else D i := by unfold doneN; rw [hb]
    by_cases hd : (D b / E b + 1) * P b ≤ T
    · have h1 := left_due (D := D b) (h.e1 b bn) (h.p1 b bn) hd
      have h2 : leftN E P D 0 n T = leftN E P (doneN E P D 0 u n) 0 n T + 1 := by
        unfold leftN
        refine sumN_one bn (fun i hi hne => ?_) 1 ?_
        · rw [e]; simp only [if_neg hne]
        · rw [e]; simp only [if_pos, Int.sub_zero]; omega
      have h3 := left_nonneg (E := E) (P := P) (n := n) (doneN E P D 0 u n) 0 T
      omega
    · have h1 := free fun i hi hp => by
        have := bl i hi hp
        unfold dlN jobN at this
        omega
      exact Int.le_trans (left_mono (fun i _ => done_ge D 0 u i) 0 T) h1
/-- nothing is missed at any slot ahead of the next window's end -/
theorem inv_none (h : Enough E P n we p) {g t T : Int} {D : Nat → Int} (hi : InvN E P n we p g t D) (hT : t ≤ T) (hg : T * we < (g + 1) * p) : leftN E P D 0 n T = 0 := by
  have h1 := hi.2 T hT
  have h2 : we * T / p < g + 1 := Int.ediv_lt_of_lt_mul h.pos (by rw [Int.mul_comm we T]; exact hg)
  have h3 := left_nonneg (E := E) (P := P) (n := n) D 0 T
  omega
end
end Go.Proofs.Ytnlgophgglgneaa
