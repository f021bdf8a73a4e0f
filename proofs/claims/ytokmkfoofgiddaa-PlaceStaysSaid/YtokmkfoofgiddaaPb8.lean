/-
  Who does not stay, and why; the walk of the law PlaceHolds.
-/
import Derived.Test.YtokmkfoofgiddaaPb7
namespace Go.Proofs.Ytokmkfoofgiddaa
open Go.RowKit

/-! ### plain -/
theorem outK_later {l : List Rn} {k : Nat} {x : Int} (h : (outK l (k + 1))[k]? = some x) : ∀ j, k + 1 ≤ j → j ≤ l.length → (outK l j)[k]? = some x
  | 0, h1, _ => by omega
  | j + 1, h1, h2 => by
    by_cases e : j = k
    · rw [e]; exact h
    · have ih := outK_later h j (by omega) (by omega)
      obtain ⟨r, hr, -⟩ := getR (l := l) (i := j) (by omega)
      by_cases c : KeepC (tkK l j) r
      · rw [(outK_yes hr c).1, List.getElem?_set_ne e]; exact ih
      · rw [(outK_no hr c).1]; exact ih
theorem rest_keeps (m : Nat) : ∀ (os tk : List Int) (k : Nat) (x : Int), os[k]? = some x → 0 ≤ x → (restR m os tk)[k]? = some x
  | [], _, _, _, h, _ => by simp at h
  | o :: os, tk, 0, x, h, h0 => by
    have : o = x := by simpa using h
    subst this
    rw [restR, if_neg (by omega)]
    simp
  | o :: os, tk, k + 1, x, h, h0 => by
    have h' : os[k]? = some x := by simpa using h
    rw [restR]
    split
    · simpa using rest_keeps m os _ k x h' h0
    · simpa using rest_keeps m os _ k x h' h0
/-- who is kept, is on its last core in the end -/
theorem kept_on {l : List Rn} {m k : Nat} {r : Rn} (h : l[k]? = some r) (c : KeepC (tkK l k) r) : (assignR l m)[k]? = some r.last := by
  have hk := lt_of_get h
  have h1 : (outK l (k + 1))[k]? = some r.last := by rw [(outK_yes h c).1, List.getElem?_set_self (by rw [outK_len]; exact hk)]
  have h2 := outK_later h1 l.length (by omega) (Nat.le_refl _)
  rw [outK_end] at h2
  exact rest_keeps m _ _ k _ h2 c.2.1
/-- what is taken is somebody's pin, or somebody's ahead -/
theorem taken_why {l : List Rn} {m : Nat} {c : Int} : ∀ i, i ≤ l.length → c ∈ tkK l i → c ∈ pinsR l ∨ ∃ (k : Nat) (r : Rn), k < i ∧ l[k]? = some r ∧ r.pin < 0 ∧ r.last = c ∧ (assignR l m)[k]? = some c
  | 0, _, h => by rw [tkK_zero] at h; exact .inl h
  | i + 1, hi, h => by
    obtain ⟨r, hr, -⟩ := getR (l := l) (i := i) (by omega)
    have old : c ∈ tkK l i → c ∈ pinsR l ∨ ∃ (k : Nat) (r : Rn), k < i + 1 ∧ l[k]? = some r ∧ r.pin < 0 ∧ r.last = c ∧ (assignR l m)[k]? = some c := fun q => by
      rcases taken_why (m := m) i (by omega) q with e | ⟨k, x, h1, h2⟩
      · exact Or.inl e
      · exact Or.inr ⟨k, x, Nat.lt_succ_of_lt h1, h2⟩
    by_cases q : KeepC (tkK l i) r
    · rw [(outK_yes hr q).2] at h
      rcases List.mem_append.mp h with e | e
      · exact old e
      · have e : c = r.last := by simpa using e
        exact .inr ⟨i, r, by omega, hr, q.1, e.symm, by rw [e]; exact kept_on hr q⟩
    · rw [(outK_no hr q).2] at h
      exact old h
/-- one of those ahead of k has the core z -/
def TakenP (l : List Rn) (cs : List Int) (i : Nat) (z : Int) (k : Nat) : Prop := ∃ (j : Nat) (r : Rn) (c : Int), j < k ∧ l[j]? = some r ∧ cs[j]? = some c ∧ (r.pin = z ∨ (j < i ∧ r.pin < 0 ∧ c = z ∧ r.last = z))
open Classical in
noncomputable def takenB (l : List Rn) (cs : List Int) (i : Nat) (z : Int) (k : Nat) : Bool := decide (TakenP l cs i z k)
theorem taken_zero (l : List Rn) (cs : List Int) (i : Nat) (z : Int) : takenB l cs i z 0 = false := by
  unfold takenB
  simp only [decide_eq_false_iff_not]
  rintro ⟨j, _, _, h, _⟩
  omega
theorem taken_next {l : List Rn} {cs : List Int} {i : Nat} {z : Int} {k : Nat} {r : Rn} {c : Int} (hr : l[k]? = some r) (hc : cs[k]? = some c) :
    takenB l cs i z (k + 1) = (takenB l cs i z k || ((r.pin == z) || (decide (k < i) && (decide (r.pin < 0) && ((c == z) && (r.last == z)))))) := by
  unfold takenB
  rw [Bool.eq_iff_iff]
  simp only [decide_eq_true_eq, Bool.or_eq_true, Bool.and_eq_true, beq_iff_eq]
  constructor
  · rintro ⟨j, x, y, h1, h2, h3, h4⟩
    by_cases q : j = k
    · subst q
      rw [hr] at h2; rw [hc] at h3
      cases h2; cases h3
      exact .inr h4
    · exact .inl ⟨j, x, y, by omega, h2, h3, h4⟩
  · rintro (⟨j, x, y, h1, h2, h3, h4⟩ | q)
    · exact ⟨j, x, y, by omega, h2, h3, h4⟩
    · exact ⟨k, r, c, by omega, hr, hc, q⟩
/-- who is not on its last core: it is taken -/
theorem taken_yes {l : List Rn} {m i : Nat} {r : Rn} {c : Int} (hr : l[i]? = some r) (hc : (assignR l m)[i]? = some c) (h1 : r.pin < 0) (h2 : 0 ≤ r.last) (h3 : c ≠ r.last) : takenB l (assignR l m) i r.last l.length = true := by
  have hi := lt_of_get hr
  unfold takenB
  simp only [decide_eq_true_eq]
  have hn : ¬ KeepC (tkK l i) r := fun q => by
    rw [kept_on hr q] at hc
    exact h3 (by cases hc; rfl)
  have hm : r.last ∈ tkK l i := Classical.byContradiction fun q => hn ⟨h1, h2, q⟩
  rcases taken_why (m := m) i (by omega) hm with e | ⟨k, x, q1, q2, q3, q4, q5⟩
  · obtain ⟨_, x, hx, e⟩ := mem_pins.mp e
    obtain ⟨j, hj, ej⟩ := List.getElem_of_mem hx
    have hj2 : j < (assignR l m).length := by rw [assign_len]; exact hj
    exact ⟨j, x, _, hj, by rw [List.getElem?_eq_getElem hj, ej], List.getElem?_eq_getElem hj2, .inl e⟩
  · exact ⟨k, x, _, lt_of_get q2, q2, q5, .inr ⟨q1, q3, rfl, q4⟩⟩
end Go.Proofs.Ytokmkfoofgiddaa
