/-
  Package heap as landed: what is said of its row: a thing that stands above another one; what an exchange, a push, a take leave. Plain facts, no function of the program in sight.
-/
import Derived.Test.YtfeemdljlikpbaaHe0
namespace Go.Proofs.Ytfeemdljlikpbaa
open Go.RowKit

section
variable {ltb : Ev → Ev → Bool}
/-- exchange of what stands at i and at j -/
def swpE (xs : List Te) (i j : Nat) : List Te := match xs[i]?, xs[j]? with | some a, some b => (xs.set i b).set j a | _, _ => xs
theorem swp_isE {xs : List Te} {i j : Nat} {a b : Te} (ha : xs[i]? = some a) (hb : xs[j]? = some b) : swpE xs i j = (xs.set i b).set j a := by unfold swpE; rw [ha, hb]
theorem swp_lenE (xs : List Te) (i j : Nat) : (swpE xs i j).length = xs.length := by unfold swpE; split <;> simp
theorem lt_atE {xs : List Te} {i : Nat} {a : Te} (h : xs[i]? = some a) : i < xs.length := (List.getElem?_eq_some_iff.mp h).1
theorem swp_iE {xs : List Te} {i j : Nat} {a b : Te} (ha : xs[i]? = some a) (hb : xs[j]? = some b) : (swpE xs i j)[i]? = some b := by
  rw [swp_isE ha hb, List.getElem?_set]
  have h1 := lt_atE ha
  have h2 := lt_atE hb
  by_cases e : j = i
  · subst e
    rw [ha] at hb
    cases hb
    simp [h1]
  · rw [if_neg e, List.getElem?_set, if_pos rfl, if_pos h1]
theorem swp_jE {xs : List Te} {i j : Nat} {a b : Te} (ha : xs[i]? = some a) (hb : xs[j]? = some b) : (swpE xs i j)[j]? = some a := by
  rw [swp_isE ha hb, List.getElem?_set]
  have h2 := lt_atE hb
  simp [h2]
theorem swp_kE {xs : List Te} {i j k : Nat} {a b : Te} (ha : xs[i]? = some a) (hb : xs[j]? = some b) (h1 : k ≠ i) (h2 : k ≠ j) : (swpE xs i j)[k]? = xs[k]? := by
  rw [swp_isE ha hb, List.getElem?_set_ne (Ne.symm h2), List.getElem?_set_ne (Ne.symm h1)]
theorem swp_permE {xs : List Te} {i j : Nat} {a b : Te} (ha : xs[i]? = some a) (hb : xs[j]? = some b) : (swpE xs i j).Perm xs := by
  rw [swp_isE ha hb]
  have h1 := lt_atE ha
  have h2 := lt_atE hb
  rw [List.getElem?_eq_getElem h1] at ha
  rw [List.getElem?_eq_getElem h2] at hb
  cases ha; cases hb
  exact List.set_set_perm h1 h2

/-- what stands at j does not go ahead of what stands above it -/
def OkE (ltb : Ev → Ev → Bool) (xs : List Te) (j : Nat) : Prop := ∀ a b, xs[j]? = some a → xs[(j - 1) / 2]? = some b → ¬ AheadE ltb a b
/-- what stands below i does not go ahead of what stands above i -/
def GpE (ltb : Ev → Ev → Bool) (xs : List Te) (i : Nat) : Prop := 0 < i → ∀ c, 0 < c → (c - 1) / 2 = i → ∀ a b, xs[c]? = some a → xs[(i - 1) / 2]? = some b → ¬ AheadE ltb a b
def HqE (ltb : Ev → Ev → Bool) (xs : List Te) : Prop := ∀ j, 0 < j → OkE ltb xs j
/-- but for i against what stands above it -/
def UpE (ltb : Ev → Ev → Bool) (xs : List Te) (i : Nat) : Prop := (∀ j, 0 < j → j ≠ i → OkE ltb xs j) ∧ GpE ltb xs i
/-- but for i against what stands above it and below it -/
def MidE (ltb : Ev → Ev → Bool) (xs : List Te) (i : Nat) : Prop := (∀ j, 0 < j → j ≠ i → (j - 1) / 2 ≠ i → OkE ltb xs j) ∧ GpE ltb xs i
/-- but for i against what stands below it -/
def DnE (ltb : Ev → Ev → Bool) (xs : List Te) (i : Nat) : Prop := (∀ j, 0 < j → (j - 1) / 2 ≠ i → OkE ltb xs j) ∧ GpE ltb xs i

theorem UpE.mid {xs : List Te} {i : Nat} (h : UpE ltb xs i) : MidE ltb xs i := ⟨fun j h0 h1 _ => h.1 j h0 h1, h.2⟩
theorem HqE.dn [O : Nonempty (OrdE ltb)] {xs : List Te} (h : HqE ltb xs) (i : Nat) : DnE ltb xs i := by
  refine ⟨fun j h0 _ => h j h0, fun hi c hc hp a b ha hb => ?_⟩
  by_cases hl : i < xs.length
  · exact ahead_downE (h c hc a xs[i] ha (by rw [hp]; exact List.getElem?_eq_getElem hl)) (h i hi xs[i] b (List.getElem?_eq_getElem hl) hb)
  · have := lt_atE ha
    omega
theorem MidE.step [O : Nonempty (OrdE ltb)] {xs : List Te} {i : Nat} {a b : Te} (h : MidE ltb xs i) (hi : 0 < i) (ha : xs[i]? = some a) (hb : xs[(i - 1) / 2]? = some b) (hab : AheadE ltb a b) : UpE ltb (swpE xs i ((i - 1) / 2)) ((i - 1) / 2) := by
  obtain ⟨p, hp⟩ : ∃ p, (i - 1) / 2 = p := ⟨_, rfl⟩
  have hpi : p ≠ i := by omega
  rw [hp] at hb ⊢
  refine ⟨fun j h0 hj u v hu hv => ?_, fun h0 c hc hcp u v hu hv => ?_⟩
  · by_cases e : j = i
    · subst e
      rw [swp_iE ha hb] at hu
      rw [hp, swp_jE ha hb] at hv
      cases hu; cases hv
      exact ahead_asymE hab
    · rw [swp_kE ha hb e hj] at hu
      by_cases e2 : (j - 1) / 2 = i
      · rw [e2, swp_iE ha hb] at hv
        cases hv
        exact h.2 hi j h0 e2 u b hu (by rw [hp]; exact hb)
      · by_cases e3 : (j - 1) / 2 = p
        · rw [e3, swp_jE ha hb] at hv
          cases hv
          have := h.1 j h0 e e2 u b hu (by rw [e3]; exact hb)
          exact ahead_notE hab this
        · rw [swp_kE ha hb e2 e3] at hv
          exact h.1 j h0 e e2 u v hu hv
  · have hq1 : (p - 1) / 2 ≠ i := by omega
    have hq2 : (p - 1) / 2 ≠ p := by omega
    rw [swp_kE ha hb hq1 hq2] at hv
    have hpq : ¬ AheadE ltb b v := h.1 p h0 hpi hq1 b v hb hv
    have hcp' : c ≠ p := by omega
    by_cases e : c = i
    · subst e
      rw [swp_iE ha hb] at hu
      cases hu
      exact hpq
    · rw [swp_kE ha hb e hcp'] at hu
      exact ahead_downE (h.1 c hc e (by omega) u b hu (by rw [hcp]; exact hb)) hpq
theorem UpE.done {xs : List Te} {i : Nat} (h : UpE ltb xs i) (hi : i = 0 ∨ OkE ltb xs i) : HqE ltb xs := fun j h0 => by
  by_cases e : j = i
  · subst e
    rcases hi with z | z
    · omega
    · exact z
  · exact h.1 j h0 e
theorem MidE.done {xs : List Te} {i : Nat} (h : MidE ltb xs i) (hi : i = 0 ∨ OkE ltb xs i) : DnE ltb xs i := ⟨fun j h0 hp => by
  by_cases e : j = i
  · subst e
    rcases hi with z | z
    · omega
    · exact z
  · exact h.1 j h0 e hp, h.2⟩
theorem DnE.leaf {xs : List Te} {i : Nat} (h : DnE ltb xs i) (hl : xs.length ≤ 2 * i + 1) : HqE ltb xs := fun j h0 a b ha hb => by
  by_cases e : (j - 1) / 2 = i
  · have := lt_atE ha
    omega
  · exact h.1 j h0 e a b ha hb
/-- c is the one below i that goes ahead of the other -/
def LeastE (ltb : Ev → Ev → Bool) (xs : List Te) (i c : Nat) : Prop := (c = 2 * i + 1 ∨ c = 2 * i + 2) ∧ ∀ o, (o = 2 * i + 1 ∨ o = 2 * i + 2) → ∀ u v, xs[o]? = some u → xs[c]? = some v → ¬ AheadE ltb u v
theorem DnE.done [O : Nonempty (OrdE ltb)] {xs : List Te} {i c : Nat} (h : DnE ltb xs i) (hc : LeastE ltb xs i c) (hcl : c < xs.length) (hok : OkE ltb xs c) : HqE ltb xs := fun j h0 u v hu hv => by
  by_cases e : (j - 1) / 2 = i
  · have h1 := hc.2 j (by omega) u xs[c] hu (List.getElem?_eq_getElem hcl)
    have e2 : (c - 1) / 2 = i := by have := hc.1; omega
    have h2 := hok xs[c] v (List.getElem?_eq_getElem hcl) (by rw [e2, ← e]; exact hv)
    exact ahead_downE h1 h2
  · exact h.1 j h0 e u v hu hv
theorem DnE.step [O : Nonempty (OrdE ltb)] {xs : List Te} {i c : Nat} {a b : Te} (h : DnE ltb xs i) (hc : LeastE ltb xs i c) (ha : xs[i]? = some a) (hb : xs[c]? = some b) (hba : AheadE ltb b a) : DnE ltb (swpE xs i c) c := by
  have hci : c ≠ i := by have := hc.1; omega
  have hc0 : 0 < c := by have := hc.1; omega
  have hcp : (c - 1) / 2 = i := by have := hc.1; omega
  refine ⟨fun j h0 hj u v hu hv => ?_, fun _ d hd hdp u v hu hv => ?_⟩
  · by_cases e : j = c
    · subst e
      rw [swp_jE ha hb] at hu
      rw [hcp, swp_iE ha hb] at hv
      cases hu; cases hv
      exact ahead_asymE hba
    · by_cases e2 : j = i
      · subst e2
        rw [swp_iE ha hb] at hu
        cases hu
        rw [swp_kE ha hb (by omega) hj] at hv
        exact h.2 h0 c hc0 hcp b v hb hv
      · rw [swp_kE ha hb e2 e] at hu
        by_cases e3 : (j - 1) / 2 = i
        · rw [e3, swp_iE ha hb] at hv
          cases hv
          exact hc.2 j (by omega) u b hu hb
        · rw [swp_kE ha hb e3 hj] at hv
          exact h.1 j h0 e3 u v hu hv
  · have hdi : d ≠ i := by omega
    have hdc : d ≠ c := by omega
    rw [swp_kE ha hb hdi hdc] at hu
    rw [hcp, swp_iE ha hb] at hv
    cases hv
    exact h.1 d hd (by omega) u b hu (by rw [hdp]; exact hb)
theorem HqE.nil : HqE ltb [] := fun j _ a b ha _ => by simp at ha
theorem HqE.push {xs : List Te} (h : HqE ltb xs) (t : Te) : MidE ltb (xs ++ [t]) xs.length := by
  refine ⟨fun j h0 hj hp a b ha hb => ?_, fun h0 c hc hcp a b ha hb => ?_⟩
  · have hl := lt_atE ha
    rw [List.length_append, List.length_singleton] at hl
    rw [List.getElem?_append_left (by omega)] at ha hb
    exact h j h0 a b ha hb
  · have hl := lt_atE ha
    rw [List.length_append, List.length_singleton] at hl
    omega
theorem HqE.take {xs : List Te} (h : HqE ltb xs) (m : Nat) : HqE ltb (xs.take m) := fun j h0 a b ha hb => by
  rw [List.getElem?_take] at ha hb
  split at ha
  · rw [if_pos (by omega)] at hb
    exact h j h0 a b ha hb
  · cases ha
theorem HqE.cut [O : Nonempty (OrdE ltb)] {xs : List Te} {i l : Nat} {a b : Te} (h : HqE ltb xs) (hl : l + 1 = xs.length) (ha : xs[i]? = some a) (hb : xs[l]? = some b) : MidE ltb ((swpE xs i l).take l) i := by
  have far : ∀ k, k ≠ i → ∀ u, ((swpE xs i l).take l)[k]? = some u → xs[k]? = some u := fun k hk u hu => by
    rw [List.getElem?_take] at hu
    split at hu
    · rw [swp_kE ha hb hk (by omega)] at hu
      exact hu
    · cases hu
  refine ⟨fun j h0 hj hp u v hu hv => h j h0 u v (far j hj u hu) (far _ hp v hv), fun h0 c hc hcp u v hu hv => ?_⟩
  have h1 := h c hc u a (far c (by omega) u hu) (by rw [hcp]; exact ha)
  have h2 := h i h0 a v ha (far _ (by omega) v hv)
  exact ahead_downE h1 h2
theorem HqE.first [O : Nonempty (OrdE ltb)] {xs : List Te} (h : HqE ltb xs) {r : Te} (hr : xs[0]? = some r) : ∀ (j : Nat) (a : Te), xs[j]? = some a → ¬ AheadE ltb a r := by
  intro j
  induction j using Nat.strongRecOn with
  | _ j ih =>
    intro a ha
    by_cases z : j = 0
    · subst z
      rw [hr] at ha; cases ha
      exact ahead_irrE _
    · have hl := lt_atE ha
      have hp : (j - 1) / 2 < xs.length := by omega
      exact ahead_downE (h j (by omega) a _ ha (List.getElem?_eq_getElem hp)) (ih _ (by omega) _ (List.getElem?_eq_getElem hp))
theorem take_permE {xs : List Te} {i l : Nat} {a b : Te} (hl : l + 1 = xs.length) (ha : xs[i]? = some a) (hb : xs[l]? = some b) : xs.Perm (a :: (swpE xs i l).take l) := by
  have h1 := (swp_permE ha hb).symm
  have h2 : swpE xs i l = (swpE xs i l).take l ++ [a] := by
    have h3 : (swpE xs i l)[l]? = some a := swp_jE ha hb
    have h4 := List.take_add_one (l := swpE xs i l) (i := l)
    rw [h3, List.take_of_length_le (by rw [swp_lenE]; omega)] at h4
    exact h4
  obtain ⟨t, ht⟩ : ∃ t, (swpE xs i l).take l = t := ⟨_, rfl⟩
  rw [ht] at h2 ⊢
  rw [h2] at h1
  exact h1.trans (List.perm_append_comm (l₁ := t) (l₂ := [a]))
/-! ### the numbers -/
def OwnE (ts : List Te) : Prop := ts.Pairwise (fun a b => a.n ≠ b.n)
theorem OwnE.perm {xs ys : List Te} (h : OwnE xs) (p : xs.Perm ys) : OwnE ys := (p.pairwise_iff (fun {_ _} h => Ne.symm h)).mp h
theorem own_sameE {xs : List Te} (h : OwnE xs) {i j : Nat} {a b : Te} (ha : xs[i]? = some a) (hb : xs[j]? = some b) (e : a.n = b.n) : i = j := by
  have h1 := lt_atE ha
  have h2 := lt_atE hb
  rw [List.getElem?_eq_getElem h1] at ha
  rw [List.getElem?_eq_getElem h2] at hb
  cases ha; cases hb
  unfold OwnE at h
  rw [List.pairwise_iff_getElem] at h
  rcases Nat.lt_trichotomy i j with q | q | q
  · exact absurd e (h i j h1 h2 q)
  · exact q
  · exact absurd e.symm (h j i h2 h1 q)
theorem own_memE {xs : List Te} (h : OwnE xs) {a b : Te} (ha : a ∈ xs) (hb : b ∈ xs) (e : a.n = b.n) : a = b := by
  obtain ⟨i, hi⟩ := List.getElem?_of_mem ha
  obtain ⟨j, hj⟩ := List.getElem?_of_mem hb
  have := own_sameE h hi hj e
  subst this
  rw [hi] at hj
  cases hj; rfl
end
end Go.Proofs.Ytfeemdljlikpbaa
