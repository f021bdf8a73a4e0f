/-
  All cores gone over, one runner after the other: the fewest moves of all: plain.
-/
import Derived.Test.YtokmkfoofgiddaaPl1
namespace Go.Proofs.Ytokmkfoofgiddaa

/-- may the next runner be on that core, those ahead being on these? -/
def OkR (l : List Rn) (cores : List Int) (c : Int) : Prop := c ∉ cores ∧ (∀ k r, cores.length < k → l[k]? = some r → r.pin ≠ c) ∧ ∀ r, l[cores.length]? = some r → 0 ≤ r.pin → r.pin = c
open Classical in
noncomputable def bestC (l : List Rn) (cores : List Int) (v : Int → Int) : Nat → Int
  | 0 => 1000
  | c + 1 => if OkR l cores c ∧ v c < bestC l cores v c then v c else bestC l cores v c
noncomputable def bestV (l : List Rn) (m : Nat) : Nat → List Int → Int
  | 0, cores => movesR l cores
  | k + 1, cores => bestC l cores (fun c => bestV l m k (cores ++ [c])) m
theorem best_ge {l : List Rn} {cores : List Int} {v : Int → Int} {x : Int} (hx : x ≤ 1000) : ∀ n : Nat, (∀ c : Nat, c < n → OkR l cores c → x ≤ v c) → x ≤ bestC l cores v n
  | 0, _ => hx
  | n + 1, h => by
    have ih := best_ge hx n fun c hc => h c (by omega)
    rw [bestC]
    split
    · rename_i q
      exact h n (by omega) q.1
    · exact ih
theorem best_le {l : List Rn} {cores : List Int} {v : Int → Int} : ∀ (n : Nat) (c : Nat), c < n → OkR l cores c → bestC l cores v n ≤ v c
  | 0, c, h, _ => by omega
  | n + 1, c, h, ho => by
    rw [bestC]
    by_cases e : c = n
    · subst e
      split
      · exact Int.le_refl _
      · rename_i q
        exact Int.not_lt.mp fun lt => q ⟨ho, lt⟩
    · have ih := best_le (l := l) (cores := cores) (v := v) n c (by omega) ho
      split
      · rename_i q
        have := q.2
        omega
      · exact ih
/-- those ahead are on these, as they may be -/
structure PreR (l : List Rn) (m : Nat) (cores : List Int) : Prop where
  each : ∀ c ∈ cores, 0 ≤ c ∧ c < (m : Int)
  one : cores.Nodup
  pin : ∀ (i : Nat) (r : Rn) (c : Int), l[i]? = some r → cores[i]? = some c → 0 ≤ r.pin → c = r.pin
theorem pre_nil (l : List Rn) (m : Nat) : PreR l m [] := ⟨by simp, by simp, by simp⟩
theorem pre_snoc {l : List Rn} {m : Nat} {cores : List Int} (h : PreR l m cores) {c : Nat} (hc : c < m) (ho : OkR l cores c) : PreR l m (cores ++ [(c : Int)]) := by
  refine ⟨fun x hx => ?_, ?_, fun i r x hr hx h0 => ?_⟩
  · rcases List.mem_append.mp hx with q | q
    · exact h.each x q
    · have : x = c := by simpa using q
      omega
  · rw [List.nodup_append]
    refine ⟨h.one, by simp, fun a ha b hb e => ?_⟩
    have : b = c := by simpa using hb
    rw [e, this] at ha
    exact ho.1 ha
  · by_cases q : i < cores.length
    · rw [List.getElem?_append_left q] at hx
      exact h.pin i r x hr hx h0
    · rw [List.getElem?_append_right (by omega)] at hx
      by_cases q2 : i = cores.length
      · subst q2
        simp at hx
        rw [← hx]
        exact (ho.2.2 r hr h0).symm
      · rw [List.getElem?_eq_none (by simp; omega)] at hx
        cases hx
theorem pre_on {l : List Rn} {m : Nat} {cores : List Int} (h : PreR l m cores) (hl : cores.length = l.length) : OnR l cores m := by
  refine ⟨hl, h.each, h.one, fun p hp h0 => ?_⟩
  obtain ⟨i, hi, e⟩ := List.getElem_of_mem hp
  have hi1 : i < l.length := by simp at hi; omega
  have hi2 : i < cores.length := by omega
  rw [List.getElem_zip] at e
  have := h.pin i l[i] cores[i] (List.getElem?_eq_getElem hi1) (List.getElem?_eq_getElem hi2)
  rw [← e] at h0 ⊢
  exact this h0
theorem moves_le : ∀ (l : List Rn) (cs : List Int), movesR l cs ≤ l.length
  | [], cs => by simp [movesR]
  | _ :: _, [] => by simp [movesR]
  | r :: l, c :: cs => by
    have := moves_le l cs
    rw [movesR, List.length_cons]
    split <;> omega
theorem none_less {l : List Rn} {m : Nat} (hn : l.length ≤ 1000) : ∀ (k : Nat) (cores : List Int), PreR l m cores → cores.length + k = l.length → (movesR l (assignR l m) : Int) ≤ bestV l m k cores
  | 0, cores, h, hl => by
    rw [bestV]
    have := least_moves (pre_on h (by omega))
    omega
  | k + 1, cores, h, hl => by
    rw [bestV]
    refine best_ge (by have := moves_le l (assignR l m); omega) m fun c hc ho => ?_
    exact none_less hn k (cores ++ [(c : Int)]) (pre_snoc h hc ho) (by rw [List.length_append]; simp; omega)
theorem ok_assign {l : List Rn} {m : Nat} (h : OnR l (assignR l m) m) {i : Nat} {c : Int} (hc : (assignR l m)[i]? = some c) : OkR l ((assignR l m).take i) c := by
  obtain ⟨hi, hc'⟩ := List.getElem?_eq_some_iff.mp hc
  have pinAt : ∀ (k : Nat) (r : Rn) (x : Int), l[k]? = some r → (assignR l m)[k]? = some x → 0 ≤ r.pin → x = r.pin := fun k r x hr hx h0 => by
    refine h.pin (r, x) ?_ h0
    obtain ⟨k1, e1⟩ := List.getElem?_eq_some_iff.mp hr
    obtain ⟨k2, e2⟩ := List.getElem?_eq_some_iff.mp hx
    have : (l.zip (assignR l m))[k]'(by simp; omega) = (r, x) := by rw [List.getElem_zip, e1, e2]
    rw [← this]
    exact List.getElem_mem _
  have lt : ((assignR l m).take i).length = i := by rw [List.length_take]; omega
  refine ⟨fun hm => ?_, fun k r hk hr e => ?_, fun r hr h0 => ?_⟩
  · obtain ⟨j, hj, ej⟩ := List.getElem_of_mem hm
    rw [lt] at hj
    rw [List.getElem_take] at ej
    have : j = i := (List.getElem_inj h.one).mp (by rw [ej, hc'])
    omega
  · rw [lt] at hk
    obtain ⟨k1, e1⟩ := List.getElem?_eq_some_iff.mp hr
    have k2 : k < (assignR l m).length := by rw [assign_len]; exact k1
    have c0 := h.each c (by rw [← hc']; exact List.getElem_mem _)
    have := pinAt k r _ hr (List.getElem?_eq_getElem k2) (by omega)
    have : k = i := (List.getElem_inj (h₀ := k2) (h₁ := hi) h.one).mp (by rw [this, hc', e])
    omega
  · rw [lt] at hr
    exact (pinAt i r c hr hc h0).symm
theorem some_best {l : List Rn} {m : Nat} (h : OnR l (assignR l m) m) : ∀ (k i : Nat), i + k = l.length → bestV l m k ((assignR l m).take i) ≤ movesR l (assignR l m)
  | 0, i, hi => by
    rw [bestV, List.take_of_length_le (by rw [assign_len]; omega)]
    exact Int.le_refl _
  | k + 1, i, hi => by
    have hlt : i < (assignR l m).length := by rw [assign_len]; omega
    have hc : (assignR l m)[i]? = some (assignR l m)[i] := List.getElem?_eq_getElem hlt
    obtain ⟨c, hcc⟩ : ∃ c, (assignR l m)[i] = c := ⟨_, rfl⟩
    rw [hcc] at hc
    obtain ⟨c0, c1⟩ := h.each c (by rw [← hcc]; exact List.getElem_mem _)
    obtain ⟨n, rfl⟩ := Int.eq_ofNat_of_zero_le c0
    have ok := ok_assign h hc
    have ih := some_best h k (i + 1) (by omega)
    rw [List.take_add_one, hc] at ih
    rw [bestV]
    exact Int.le_trans (best_le m n (by omega) ok) ih
/-- P15.3: all cores were tried -/
theorem best_is {l : List Rn} {m : Nat} (h : MayR l m) (hn : l.length ≤ 1000) : bestV l m l.length [] = movesR l (assignR l m) :=
  Int.le_antisymm (by have := some_best (assign_on h) l.length 0 (by omega); simpa using this) (none_less hn l.length [] (pre_nil l m) (by simp))
end Go.Proofs.Ytokmkfoofgiddaa
