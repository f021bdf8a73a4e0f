/-
  Plain facts for CalendarDue: what is due of events in order.
-/
import Derived.Test.YtfeemdljlikpbaaCi4
namespace Go.Proofs.Ytfeemdljlikpbaa
open Go.RowKit

theorem befB_le {a b : Ev} (h : befB a b = true) : a.d ≤ b.d := by
  unfold befB at h
  have := of_decide_eq_true h
  omega
theorem sorted_le {es : List Ev} (h : es.Pairwise (fun a b => befB a b = true)) {i j : Nat} {x y : Ev} (hij : i ≤ j) (hx : es[i]? = some x) (hy : es[j]? = some y) : x.d ≤ y.d := by
  rcases Nat.lt_or_ge i j with q | q
  · rw [List.pairwise_iff_getElem] at h
    have lt : ∀ {n : Nat} {z : Ev}, es[n]? = some z → ∃ p : n < es.length, es[n] = z := fun {n z} hz => by
      rcases Nat.lt_or_ge n es.length with g | g
      · exact ⟨g, by rw [List.getElem?_eq_getElem g] at hz; simpa using hz⟩
      · rw [List.getElem?_eq_none g] at hz; cases hz
    obtain ⟨p1, e1⟩ := lt hx
    obtain ⟨p2, e2⟩ := lt hy
    have := befB_le (h i j p1 p2 q)
    rwa [e1, e2] at this
  · obtain rfl : i = j := by omega
    rw [hx] at hy
    cases hy
    omega
/-- the first ones are due, the others are not -/
theorem dueN_iff {es : List Ev} (h : es.Pairwise (fun a b => befB a b = true)) (t : Int) {i : Nat} {x : Ev} (hx : es[i]? = some x) : i < dueN es t ↔ x.d ≤ t := by
  induction es generalizing i with
  | nil => simp at hx
  | cons y r ih =>
    have hs := List.pairwise_cons.mp h
    have step : dueN (y :: r) t = if y.d ≤ t then dueN r t + 1 else 0 := by
      unfold dueN
      rw [List.takeWhile_cons]
      by_cases q : y.d ≤ t
      · rw [if_pos (by simpa using q), if_pos q]; rfl
      · rw [if_neg (by simpa using q), if_neg q]; rfl
    rw [step]
    cases i with
    | zero =>
      simp at hx
      subst hx
      split <;> simp <;> omega
    | succ i =>
      rw [List.getElem?_cons_succ] at hx
      have := ih hs.2 hx
      have le := befB_le (hs.1 x (List.mem_of_getElem? hx))
      split
      · omega
      · omega
/-- what is left is due later, all of it -/
theorem dueN_rest {es : List Ev} (h : es.Pairwise (fun a b => befB a b = true)) (t : Int) : dueN (es.drop (dueN es t)) t = 0 :=
  dueN_all _ t 0 (Nat.zero_le _) (by simp) (fun e he => by
    rw [List.getElem?_drop, Nat.add_zero] at he
    have := dueN_iff h t he
    omega)
end Go.Proofs.Ytfeemdljlikpbaa
