/-
  A row in which each subtask runs within its window, as plain facts.
-/
import Derived.Test.YtnmiiebfpeoafaaFl11
namespace Go.Proofs.Ytnmiiebfpeoafaa

/-- behind i subtasks: the last one ran in slot last; bs is the row -/
structure Inv (E P : Int) (i : Nat) (last : Int) (bs : List Bool) : Prop where
  len : bs.length = 1400
  lo : -1 ≤ last
  hi : last < wD E P i
  free : ∀ x : Nat, last < x → bs.getD x false = false
  all : ∀ m : Nat, m ≤ 1400 → last < m → runsI (bs.take m) = i
  fair : ∀ m : Nat, (m : Int) ≤ wD E P i → lowV E P m ≤ runsI (bs.take m) ∧ runsI (bs.take m) ≤ highV E P m

theorem wD_zero {E P : Int} (hE : 0 < E) : wD E P 0 = 0 := by
  unfold wD
  rw [Int.zero_mul]
  exact cdv_is hE (by omega) (by omega)
theorem wD_le {E P i : Int} (hE : 0 < E) (hi : 0 ≤ i) (hP : 0 ≤ P) : wD E P i ≤ i * P := by
  unfold wD
  refine cdv_min hE ?_
  have h0 := Int.mul_nonneg hi hP
  have := Int.mul_le_mul_of_nonneg_left (show 1 ≤ E by omega) h0
  omega
theorem wD_nonneg {E P i : Int} (hE : 0 < E) (hi : 0 ≤ i) (hP : 0 ≤ P) : 0 ≤ wD E P i := by
  have h := (wD_bd (P := P) (i := i) hE).1
  have h0 := Int.mul_nonneg hi hP
  rcases Int.lt_or_le (wD E P i) 0 with g | g
  · have := Int.mul_neg_of_neg_of_pos g hE
    omega
  · exact g
theorem runs_replicate (n k : Nat) : runsI ((List.replicate n false).take k) = 0 := by
  unfold runsI
  rw [List.take_replicate, List.count_replicate]
  simp
theorem inv_zero {E P : Int} (hM : MayBe E P) : Inv E P 0 (-1) (List.replicate 1400 false) where
  len := List.length_replicate
  lo := by omega
  hi := by rw [show ((0 : Nat) : Int) = 0 from rfl, wD_zero hM.1]; omega
  free := fun x _ => by
    rw [List.getD_eq_getElem?_getD]
    rcases Nat.lt_or_ge x 1400 with g | g
    · rw [List.getElem?_replicate_of_lt g]; rfl
    · rw [List.getElem?_eq_none (by rw [List.length_replicate]; exact g)]; rfl
  all := fun m _ _ => runs_replicate 1400 m
  fair := fun m hm => by
    rw [show ((0 : Nat) : Int) = 0 from rfl, wD_zero hM.1] at hm
    obtain rfl : m = 0 := by omega
    rw [runs_replicate, show ((0 : Nat) : Int) = 0 from rfl, lowV_zero]
    exact ⟨by omega, (highV_fit hM sl_zero).1⟩
theorem runs_set_low {bs : List Bool} {t m : Nat} (h : m ≤ t) : runsI ((bs.set t true).take m) = runsI (bs.take m) := by
  unfold runsI
  rw [List.take_set_of_le h]
theorem runs_set_high {bs : List Bool} {t m : Nat} (h : t < m) (hl : t < bs.length) (hf : bs.getD t false = false) : runsI ((bs.set t true).take m) = runsI (bs.take m) + 1 := by
  unfold runsI
  rw [List.take_set]
  have hb : bs[t] = false := by
    rw [List.getD_eq_getElem?_getD, List.getElem?_eq_getElem hl] at hf; simpa using hf
  have hl2 : t < (bs.take m).length := by simp; omega
  rw [List.count_set hl2]
  simp [hb]
theorem inv_next {E P : Int} {i : Nat} {last : Int} {bs : List Bool} (hM : MayBe E P) (h : Inv E P i last bs) (hD : wD E P (i + 1) ≤ 1400) {t : Nat} (h1 : wR E P (i + 1) ≤ t) (h2 : last < t) (h3 : (t : Int) < wD E P (i + 1)) :
    Inv E P (i + 1) t (bs.set t true) := by
  have hE : 0 < E := hM.1
  have hEP : E ≤ P := hM.2.1
  have hn : wD E P i < wD E P (i + 1) := next_later hE hEP
  have hn2 : wD E P (i + 1) < wD E P (i + 1 + 1) := next_later hE hEP
  have hr : i = 0 ∨ wR E P i < wD E P i := .inr (next_some hE (by omega))
  have c1 : (((i + 1 : Nat)) : Int) = (i : Int) + 1 := by omega
  have tl : t < bs.length := by rw [h.len]; omega
  have tf := h.free t h2
  have st : ∀ m : Nat, (m : Int) ≤ wD E P (i + 1) → Sl m := fun m hm => ⟨by omega, by omega⟩
  refine ⟨by simp [h.len], by omega, by rw [c1]; exact h3, ?_, ?_, ?_⟩
  · intro x hx
    have hx' : t ≠ x := by omega
    rw [List.getD_eq_getElem?_getD, List.getElem?_set_ne hx', ← List.getD_eq_getElem?_getD]
    exact h.free x (by omega)
  · intro m hm hl
    rw [runs_set_high (by omega) tl tf, h.all m hm (by omega), c1]
  · intro m hm
    rw [c1] at hm
    have sm := st m hm
    have d1 := low_dead (i := (i : Int) + 1) hM sm
    have d2 := low_dead (i := (i : Int) + 1 + 1) hM sm
    have r1 := high_rel (i := (i : Int) + 1) hM sm
    have r0 := high_rel (i := (i : Int)) hM sm
    have hh := highV_fit hM sm
    rcases Nat.lt_or_ge t m with g | g
    · -- behind the new slot: i + 1 have run
      rw [runs_set_high g tl tf, h.all m (by omega) (by omega)]
      have a1 := r1.mp (by omega)
      refine ⟨?_, a1⟩
      rcases Int.lt_or_le ((i : Int) + 1) (lowV E P m) with q | q
      · have := d2.mpr (by omega); omega
      · exact q
    · rw [runs_set_low g]
      rcases Int.lt_or_le (wD E P i) m with q | q
      · -- behind the one ahead's window: i have run
        rw [h.all m (by omega) (by have := h.hi; omega)]
        refine ⟨?_, ?_⟩
        · rcases Int.lt_or_le (i : Int) (lowV E P m) with q' | q'
          · have := d1.mpr (by omega); omega
          · exact q'
        · rcases hr with e | e
          · subst e; exact hh.1
          · exact r0.mp (by omega)
      · exact h.fair m q
/-- .. so it follows the share, up to the last one's deadline -/
theorem inv_follows {E P : Int} {i en : Nat} {last : Int} {bs : List Bool} (hM : MayBe E P) (h : Inv E P i last bs) (he : wD E P i = en) (hl : en ≤ 1400) : followsB E P (bs.take en) = true := by
  refine followsB_yes (fun x hx => ?_)
  simp only [upto, List.mem_map, List.mem_range] at hx
  obtain ⟨j, hj, rfl⟩ := hx
  have hle : (bs.take en).length = en := by rw [List.length_take, h.len]; omega
  rw [hle] at hj
  show fairB E P (j : Int) (runsI ((bs.take en).take j)) = true
  rw [List.take_take, show min j en = j by omega]
  have hb := runs_take_bd bs j
  exact (fair_iff hM ⟨by omega, by omega⟩ ⟨by omega, by omega⟩).mpr (h.fair j (by omega))
theorem inv_runs {E P : Int} {i en : Nat} {last : Int} {bs : List Bool} (h : Inv E P i last bs) (he : wD E P i = en) (hl : en ≤ 1400) : runsI (bs.take en) = i :=
  h.all en hl (by have := h.hi; omega)
/-- behind its deadline it is not fair any more, if it has not run -/
theorem late_no {E P k d : Int} (hM : MayBe E P) (hd : wD E P k = d) (hs : Sl d) : fairB E P d (k - 1) = false := by
  cases e : fairB E P d (k - 1)
  · rfl
  · have hq : Sl (k - 1) := by
      unfold fairB at e
      exact (of_decide_eq_true e).1.2.2
    have h1 := (fair_iff hM hs hq).mp e
    have h2 := (low_dead (i := k) hM hs).mp (by omega)
    omega
/-- .. nor ahead of its release, if it has -/
theorem early_no {E P k r : Int} (hM : MayBe E P) (hr : wR E P k = r) (hs : Sl r) : fairB E P r k = false := by
  cases e : fairB E P r k
  · rfl
  · have hq : Sl k := by
      unfold fairB at e
      exact (of_decide_eq_true e).1.2.2
    have h1 := (fair_iff hM hs hq).mp e
    have h2 := (high_rel (i := k) hM hs).mpr (by omega)
    omega
end Go.Proofs.Ytnmiiebfpeoafaa
