/-
  Package heap as landed: what is said of its row: a thing that stands above another one; what an exchange, a push, a take leave. Plain facts, no function of the program in sight.
-/
import Derived.Test.YtimafmalfmeehaaHr3
namespace Go.Proofs.Ytimafmalfmeehaa
open Go.RowKit

theorem ahead_irr (a : Th) : ¬ AheadT a a := by unfold AheadT; omega
theorem ahead_asym {a b : Th} (h : AheadT a b) : ¬ AheadT b a := by unfold AheadT at h ⊢; omega
theorem ahead_down {a b c : Th} (h : ¬ AheadT a b) (k : ¬ AheadT b c) : ¬ AheadT a c := by unfold AheadT at h k ⊢; omega
theorem ahead_not {a b c : Th} (h : AheadT a b) (k : ¬ AheadT c b) : ¬ AheadT c a := by unfold AheadT at h k ⊢; omega
/-- exchange of what stands at i and at j -/
def swp (xs : List Th) (i j : Nat) : List Th := match xs[i]?, xs[j]? with | some a, some b => (xs.set i b).set j a | _, _ => xs
theorem swp_is {xs : List Th} {i j : Nat} {a b : Th} (ha : xs[i]? = some a) (hb : xs[j]? = some b) : swp xs i j = (xs.set i b).set j a := by unfold swp; rw [ha, hb]
theorem swp_len (xs : List Th) (i j : Nat) : (swp xs i j).length = xs.length := by unfold swp; split <;> simp
theorem lt_at {xs : List Th} {i : Nat} {a : Th} (h : xs[i]? = some a) : i < xs.length := (List.getElem?_eq_some_iff.mp h).1
theorem swp_i {xs : List Th} {i j : Nat} {a b : Th} (ha : xs[i]? = some a) (hb : xs[j]? = some b) : (swp xs i j)[i]? = some b := by
  rw [swp_is ha hb, List.getElem?_set]
  have h1 := lt_at ha
  have h2 := lt_at hb
  by_cases e : j = i
  · subst e
    rw [ha] at hb
    cases hb
    simp [h1]
  · rw [if_neg e, List.getElem?_set, if_pos rfl, if_pos h1]
theorem swp_j {xs : List Th} {i j : Nat} {a b : Th} (ha : xs[i]? = some a) (hb : xs[j]? = some b) : (swp xs i j)[j]? = some a := by
  rw [swp_is ha hb, List.getElem?_set]
  have h2 := lt_at hb
  simp [h2]
theorem swp_k {xs : List Th} {i j k : Nat} {a b : Th} (ha : xs[i]? = some a) (hb : xs[j]? = some b) (h1 : k ≠ i) (h2 : k ≠ j) : (swp xs i j)[k]? = xs[k]? := by
  rw [swp_is ha hb, List.getElem?_set_ne (Ne.symm h2), List.getElem?_set_ne (Ne.symm h1)]
theorem swp_perm {xs : List Th} {i j : Nat} {a b : Th} (ha : xs[i]? = some a) (hb : xs[j]? = some b) : (swp xs i j).Perm xs := by
  rw [swp_is ha hb]
  have h1 := lt_at ha
  have h2 := lt_at hb
  rw [List.getElem?_eq_getElem h1] at ha
  rw [List.getElem?_eq_getElem h2] at hb
  cases ha; cases hb
  exact List.set_set_perm h1 h2

/-- what stands at j does not go ahead of what stands above it -/
def Ok (xs : List Th) (j : Nat) : Prop := ∀ a b, xs[j]? = some a → xs[(j - 1) / 2]? = some b → ¬ AheadT a b
/-- what stands below i does not go ahead of what stands above i -/
def Gp (xs : List Th) (i : Nat) : Prop := 0 < i → ∀ c, 0 < c → (c - 1) / 2 = i → ∀ a b, xs[c]? = some a → xs[(i - 1) / 2]? = some b → ¬ AheadT a b
def Hq (xs : List Th) : Prop := ∀ j, 0 < j → Ok xs j
/-- but for i against what stands above it -/
def Up (xs : List Th) (i : Nat) : Prop := (∀ j, 0 < j → j ≠ i → Ok xs j) ∧ Gp xs i
/-- but for i against what stands above it and below it -/
def Mid (xs : List Th) (i : Nat) : Prop := (∀ j, 0 < j → j ≠ i → (j - 1) / 2 ≠ i → Ok xs j) ∧ Gp xs i
/-- but for i against what stands below it -/
def Dn (xs : List Th) (i : Nat) : Prop := (∀ j, 0 < j → (j - 1) / 2 ≠ i → Ok xs j) ∧ Gp xs i

theorem Up.mid {xs : List Th} {i : Nat} (h : Up xs i) : Mid xs i := ⟨fun j h0 h1 _ => h.1 j h0 h1, h.2⟩
theorem Hq.dn {xs : List Th} (h : Hq xs) (i : Nat) : Dn xs i := by
  refine ⟨fun j h0 _ => h j h0, fun hi c hc hp a b ha hb => ?_⟩
  by_cases hl : i < xs.length
  · exact ahead_down (h c hc a xs[i] ha (by rw [hp]; exact List.getElem?_eq_getElem hl)) (h i hi xs[i] b (List.getElem?_eq_getElem hl) hb)
  · have := lt_at ha
    omega
theorem Mid.step {xs : List Th} {i : Nat} {a b : Th} (h : Mid xs i) (hi : 0 < i) (ha : xs[i]? = some a) (hb : xs[(i - 1) / 2]? = some b) (hab : AheadT a b) : Up (swp xs i ((i - 1) / 2)) ((i - 1) / 2) := by
  obtain ⟨p, hp⟩ : ∃ p, (i - 1) / 2 = p := ⟨_, rfl⟩
  have hpi : p ≠ i := by omega
  rw [hp] at hb ⊢
  refine ⟨fun j h0 hj u v hu hv => ?_, fun h0 c hc hcp u v hu hv => ?_⟩
  · by_cases e : j = i
    · subst e
      rw [swp_i ha hb] at hu
      rw [hp, swp_j ha hb] at hv
      cases hu; cases hv
      exact ahead_asym hab
    · rw [swp_k ha hb e hj] at hu
      by_cases e2 : (j - 1) / 2 = i
      · rw [e2, swp_i ha hb] at hv
        cases hv
        exact h.2 hi j h0 e2 u b hu (by rw [hp]; exact hb)
      · by_cases e3 : (j - 1) / 2 = p
        · rw [e3, swp_j ha hb] at hv
          cases hv
          have := h.1 j h0 e e2 u b hu (by rw [e3]; exact hb)
          exact ahead_not hab this
        · rw [swp_k ha hb e2 e3] at hv
          exact h.1 j h0 e e2 u v hu hv
  · have hq1 : (p - 1) / 2 ≠ i := by omega
    have hq2 : (p - 1) / 2 ≠ p := by omega
    rw [swp_k ha hb hq1 hq2] at hv
    have hpq : ¬ AheadT b v := h.1 p h0 hpi hq1 b v hb hv
    have hcp' : c ≠ p := by omega
    by_cases e : c = i
    · subst e
      rw [swp_i ha hb] at hu
      cases hu
      exact hpq
    · rw [swp_k ha hb e hcp'] at hu
      exact ahead_down (h.1 c hc e (by omega) u b hu (by rw [hcp]; exact hb)) hpq
theorem Up.done {xs : List Th} {i : Nat} (h : Up xs i) (hi : i = 0 ∨ Ok xs i) : Hq xs := fun j h0 => by
  by_cases e : j = i
  · subst e
    rcases hi with z | z
    · omega
    · exact z
  · exact h.1 j h0 e
theorem Mid.done {xs : List Th} {i : Nat} (h : Mid xs i) (hi : i = 0 ∨ Ok xs i) : Dn xs i := ⟨fun j h0 hp => by
  by_cases e : j = i
  · subst e
    rcases hi with z | z
    · omega
    · exact z
  · exact h.1 j h0 e hp, h.2⟩
theorem Dn.leaf {xs : List Th} {i : Nat} (h : Dn xs i) (hl : xs.length ≤ 2 * i + 1) : Hq xs := fun j h0 a b ha hb => by
  by_cases e : (j - 1) / 2 = i
  · have := lt_at ha
    omega
  · exact h.1 j h0 e a b ha hb
/-- c is the one below i that goes ahead of the other -/
def Least (xs : List Th) (i c : Nat) : Prop := (c = 2 * i + 1 ∨ c = 2 * i + 2) ∧ ∀ o, (o = 2 * i + 1 ∨ o = 2 * i + 2) → ∀ u v, xs[o]? = some u → xs[c]? = some v → ¬ AheadT u v
theorem Dn.done {xs : List Th} {i c : Nat} (h : Dn xs i) (hc : Least xs i c) (hcl : c < xs.length) (hok : Ok xs c) : Hq xs := fun j h0 u v hu hv => by
  by_cases e : (j - 1) / 2 = i
  · have h1 := hc.2 j (by omega) u xs[c] hu (List.getElem?_eq_getElem hcl)
    have e2 : (c - 1) / 2 = i := by have := hc.1; omega
    have h2 := hok xs[c] v (List.getElem?_eq_getElem hcl) (by rw [e2, ← e]; exact hv)
    exact ahead_down h1 h2
  · exact h.1 j h0 e u v hu hv
theorem Dn.step {xs : List Th} {i c : Nat} {a b : Th} (h : Dn xs i) (hc : Least xs i c) (ha : xs[i]? = some a) (hb : xs[c]? = some b) (hba : AheadT b a) : Dn (swp xs i c) c := by
  have hci : c ≠ i := by have := hc.1; omega
  have hc0 : 0 < c := by have := hc.1; omega
  have hcp : (c - 1) / 2 = i := by have := hc.1; omega
  refine ⟨fun j h0 hj u v hu hv => ?_, fun _ d hd hdp u v hu hv => ?_⟩
  · by_cases e : j = c
    · subst e
      rw [swp_j ha hb] at hu
      rw [hcp, swp_i ha hb] at hv
      cases hu; cases hv
      exact ahead_asym hba
    · by_cases e2 : j = i
      · subst e2
        rw [swp_i ha hb] at hu
        cases hu
        rw [swp_k ha hb (by omega) hj] at hv
        exact h.2 h0 c hc0 hcp b v hb hv
      · rw [swp_k ha hb e2 e] at hu
        by_cases e3 : (j - 1) / 2 = i
        · rw [e3, swp_i ha hb] at hv
          cases hv
          exact hc.2 j (by omega) u b hu hb
        · rw [swp_k ha hb e3 hj] at hv
          exact h.1 j h0 e3 u v hu hv
  · have hdi : d ≠ i := by omega
    have hdc : d ≠ c := by omega
    rw [swp_k ha hb hdi hdc] at hu
    rw [hcp, swp_i ha hb] at hv
    cases hv
    exact h.1 d hd (by omega) u b hu (by rw [hdp]; exact hb)
theorem Hq.nil : Hq [] := fun j _ a b ha _ => by simp at ha
theorem Hq.push {xs : List Th} (h : Hq xs) (t : Th) : Mid (xs ++ [t]) xs.length := by
  refine ⟨fun j h0 hj hp a b ha hb => ?_, fun h0 c hc hcp a b ha hb => ?_⟩
  · have hl := lt_at ha
    rw [List.length_append, List.length_singleton] at hl
    rw [List.getElem?_append_left (by omega)] at ha hb
    exact h j h0 a b ha hb
  · have hl := lt_at ha
    rw [List.length_append, List.length_singleton] at hl
    omega
theorem Hq.take {xs : List Th} (h : Hq xs) (m : Nat) : Hq (xs.take m) := fun j h0 a b ha hb => by
  rw [List.getElem?_take] at ha hb
  split at ha
  · rw [if_pos (by omega)] at hb
    exact h j h0 a b ha hb
  · cases ha
theorem Hq.cut {xs : List Th} {i l : Nat} {a b : Th} (h : Hq xs) (hl : l + 1 = xs.length) (ha : xs[i]? = some a) (hb : xs[l]? = some b) : Mid ((swp xs i l).take l) i := by
  have far : ∀ k, k ≠ i → ∀ u, ((swp xs i l).take l)[k]? = some u → xs[k]? = some u := fun k hk u hu => by
    rw [List.getElem?_take] at hu
    split at hu
    · rw [swp_k ha hb hk (by omega)] at hu
      exact hu
    · cases hu
  refine ⟨fun j h0 hj hp u v hu hv => h j h0 u v (far j hj u hu) (far _ hp v hv), fun h0 c hc hcp u v hu hv => ?_⟩
  have h1 := h c hc u a (far c (by omega) u hu) (by rw [hcp]; exact ha)
  have h2 := h i h0 a v ha (far _ (by omega) v hv)
  exact ahead_down h1 h2
theorem Hq.first {xs : List Th} (h : Hq xs) {r : Th} (hr : xs[0]? = some r) : ∀ (j : Nat) (a : Th), xs[j]? = some a → ¬ AheadT a r := by
  intro j
  induction j using Nat.strongRecOn with
  | _ j ih =>
    intro a ha
    by_cases z : j = 0
    · subst z
      rw [hr] at ha; cases ha
      exact ahead_irr _
    · have hl := lt_at ha
      have hp : (j - 1) / 2 < xs.length := by omega
      exact ahead_down (h j (by omega) a _ ha (List.getElem?_eq_getElem hp)) (ih _ (by omega) _ (List.getElem?_eq_getElem hp))
theorem take_perm {xs : List Th} {i l : Nat} {a b : Th} (hl : l + 1 = xs.length) (ha : xs[i]? = some a) (hb : xs[l]? = some b) : xs.Perm (a :: (swp xs i l).take l) := by
  have h1 := (swp_perm ha hb).symm
  have h2 : swp xs i l = (swp xs i l).take l ++ [a] := by
    have h3 : (swp xs i l)[l]? = some a := swp_j ha hb
    have h4 := List.take_add_one (l := swp xs i l) (i := l)
    rw [h3, List.take_of_length_le (by rw [swp_len]; omega)] at h4
    exact h4
  obtain ⟨t, ht⟩ : ∃ t, (swp xs i l).take l = t := ⟨_, rfl⟩
  rw [ht] at h2 ⊢
  rw [h2] at h1
  exact h1.trans (List.perm_append_comm (l₁ := t) (l₂ := [a]))
/-! ### the numbers -/
def Own (ts : List Th) : Prop := ts.Pairwise (fun a b => a.id ≠ b.id)
theorem Own.perm {xs ys : List Th} (h : Own xs) (p : xs.Perm ys) : Own ys := (p.pairwise_iff (fun {_ _} h => Ne.symm h)).mp h
theorem own_same {xs : List Th} (h : Own xs) {i j : Nat} {a b : Th} (ha : xs[i]? = some a) (hb : xs[j]? = some b) (e : a.id = b.id) : i = j := by
  have h1 := lt_at ha
  have h2 := lt_at hb
  rw [List.getElem?_eq_getElem h1] at ha
  rw [List.getElem?_eq_getElem h2] at hb
  cases ha; cases hb
  unfold Own at h
  rw [List.pairwise_iff_getElem] at h
  rcases Nat.lt_trichotomy i j with q | q | q
  · exact absurd e (h i j h1 h2 q)
  · exact q
  · exact absurd e.symm (h j i h2 h1 q)
theorem own_mem {xs : List Th} (h : Own xs) {a b : Th} (ha : a ∈ xs) (hb : b ∈ xs) (e : a.id = b.id) : a = b := by
  obtain ⟨i, hi⟩ := List.getElem?_of_mem ha
  obtain ⟨j, hj⟩ := List.getElem?_of_mem hb
  have := own_same h hi hj e
  subst this
  rw [hi] at hj
  cases hj; rfl
end Go.Proofs.Ytimafmalfmeehaa
