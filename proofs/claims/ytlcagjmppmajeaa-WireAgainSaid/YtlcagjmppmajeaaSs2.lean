/-
  The document's Row and Empty (regattaref16): contracts.
-/
import Derived.Test.YtlcagjmppmajeaaSs1
namespace Go.Proofs.Ytlcagjmppmajeaa
open Go.RowKit

/-- the first i slots are a row that may be -/
def RowTo (l : List Sk) (m : Int) (i : Nat) : Prop := ∀ (j : Nat) (s : Sk), j < i → l[j]? = some s → MayS s m ∧ ∀ t : Sk, 0 < j → l[j - 1]? = some t → s.tm = t.tm + 1
theorem rt_zero (l : List Sk) (m : Int) : RowTo l m 0 := fun j _ h => by omega
theorem rt_next {l : List Sk} {m : Int} {i : Nat} {s : Sk} (hs : l[i]? = some s) : RowTo l m (i + 1) ↔ RowTo l m i ∧ MayS s m ∧ ∀ t : Sk, 0 < i → l[i - 1]? = some t → s.tm = t.tm + 1 := by
  constructor
  · intro h
    exact ⟨fun j x hj => h j x (by omega), h i s (by omega) hs⟩
  · rintro ⟨h1, h2⟩ j x hj hx
    by_cases e : j = i
    · subst e
      rw [hs] at hx
      cases hx
      exact h2
    · exact h1 j x (by omega) hx
theorem rt_le {l : List Sk} {m : Int} {i k : Nat} (h : RowTo l m k) (q : i ≤ k) : RowTo l m i := fun j s hj => h j s (by omega)
open Classical in
noncomputable def rowB (l : List Sk) (m : Int) : Bool := decide (RowTo l m l.length)
theorem rowB_yes {l : List Sk} {m : Int} (h : RowTo l m l.length) : rowB l m = true := by unfold rowB; simp [h]
theorem rowB_true {l : List Sk} {m : Int} : rowB l m = true ↔ RowTo l m l.length := by unfold rowB; simp
theorem rowB_not {l : List Sk} {m : Int} {i : Nat} {s : Sk} (hs : l[i]? = some s) (hn : ¬ (MayS s m ∧ ∀ t : Sk, 0 < i → l[i - 1]? = some t → s.tm = t.tm + 1)) : rowB l m = false := by
  unfold rowB
  simp only [decide_eq_false_iff_not]
  intro q
  exact hn ((rt_next hs).mp (rt_le q (by have := lt_of_get hs; omega))).2
/-! ### Empty -/
def emS (l : List Sk) (m : Int) : Int := (l.map fun s => m - s.runs.length).sum
noncomputable def emV (l : List Sk) (m : Int) : Int := if rowB l m then emS l m else 0
theorem em_snoc (l : List Sk) (s : Sk) (m : Int) : emS (l ++ [s]) m = emS l m + (m - s.runs.length) := by unfold emS; simp
theorem em_bd : ∀ (l : List Sk) (m : Int), 1 ≤ m → m ≤ 1024 → (∀ s ∈ l, s.runs.length ≤ 4096) → -(4096 * l.length : Int) ≤ emS l m ∧ emS l m ≤ 1024 * l.length
  | [], m, _, _, _ => by simp [emS]
  | s :: l, m, h1, h2, h => by
    have h3 := h s List.mem_cons_self
    have h4 := em_bd l m h1 h2 fun x hx => h x (List.mem_cons_of_mem _ hx)
    have e : emS (s :: l) m = (m - s.runs.length) + emS l m := by unfold emS; simp
    rw [e, List.length_cons]
    omega
end Go.Proofs.Ytlcagjmppmajeaa
