/-
  What is assigned holds the runners; and all cores gone over one by one have no fewer moves: plain.
-/
import Derived.Test.YtokmkfoofgiddaaPl0
namespace Go.Proofs.Ytokmkfoofgiddaa

def pos (c : Int) : Bool := decide (0 ≤ c)
theorem pins_cons (r : Rn) (l : List Rn) : pinsR (r :: l) = if 0 ≤ r.pin then r.pin :: pinsR l else pinsR l := by
  unfold pinsR
  by_cases h : 0 ≤ r.pin
  · simp [h]
  · simp [h]
theorem keep_spec : ∀ (l : List Rn) (tk : List Int), tk.Nodup → ∃ S, (keepR l tk).2 = tk ++ S ∧ (tk ++ S).Nodup ∧ ((keepR l tk).1.filter pos).Perm (pinsR l ++ S) ∧ ∀ c ∈ S, ∃ r ∈ l, r.last = c ∧ 0 ≤ c
  | [], tk, h => ⟨[], by simp [keepR], by simpa using h, by simp [keepR, pinsR], by simp⟩
  | r :: l, tk, h => by
    rw [keepR, pins_cons]
    split
    · rename_i hc
      obtain ⟨c1, c2, c3⟩ := hc
      obtain ⟨S, h1, h2, h3, h4⟩ := keep_spec l (tk ++ [r.last]) (by
        rw [List.nodup_append]
        exact ⟨h, by simp, fun a ha b hb => by
          have : b = r.last := by simpa using hb
          rw [this]
          intro e
          rw [e] at ha
          exact c3 ha⟩)
      refine ⟨r.last :: S, by rw [h1]; simp, by simpa using h2, ?_, ?_⟩
      · rw [List.filter_cons_of_pos (by unfold pos; simpa using c2), if_neg (by omega)]
        exact (h3.cons r.last).trans List.perm_middle.symm
      · intro c hc
        rcases List.mem_cons.mp hc with e | e
        · exact ⟨r, List.mem_cons_self, e.symm, by rw [e]; exact c2⟩
        · obtain ⟨x, hx, q⟩ := h4 c e
          exact ⟨x, List.mem_cons_of_mem _ hx, q⟩
    · obtain ⟨S, h1, h2, h3, h4⟩ := keep_spec l tk h
      refine ⟨S, h1, h2, ?_, ?_⟩
      · by_cases hp : 0 ≤ r.pin
        · rw [List.filter_cons_of_pos (by unfold pos; simpa using hp), if_pos hp, List.cons_append]
          exact h3.cons r.pin
        · rw [List.filter_cons_of_neg (by unfold pos; simpa using hp), if_neg hp]
          exact h3
      · intro c hc
        obtain ⟨x, hx, q⟩ := h4 c hc
        exact ⟨x, List.mem_cons_of_mem _ hx, q⟩
theorem free_is (tk : List Int) : ∀ (n : Nat) (c : Int), (∃ d, c ≤ d ∧ d < c + n ∧ d ∉ tk) → freeR tk n c ∉ tk ∧ c ≤ freeR tk n c ∧ freeR tk n c < c + n
  | 0, c, h => by obtain ⟨d, h1, h2, _⟩ := h; omega
  | n + 1, c, h => by
    rw [freeR]
    split
    · rename_i q
      exact ⟨q, by omega, by omega⟩
    · rename_i q
      obtain ⟨d, h1, h2, h3⟩ := h
      have hne : d ≠ c := fun e => q (by rw [← e]; exact h3)
      obtain ⟨i1, i2, i3⟩ := free_is tk n (c + 1) ⟨d, by omega, by omega, h3⟩
      exact ⟨i1, by omega, by omega⟩
theorem some_free {tk : List Int} {m : Nat} (h : tk.length < m) : ∃ d : Int, 0 ≤ d ∧ d < 0 + (m : Int) ∧ d ∉ tk := by
  refine Classical.byContradiction fun hn => ?_
  have hl := nodup_len ((List.range m).map (fun i : Nat => (i : Int))) tk (by
    unfold List.Nodup
    rw [List.pairwise_map]
    exact List.nodup_range.imp fun h e => h (by omega)) (fun x hx => by
    obtain ⟨i, hi, rfl⟩ := List.mem_map.mp hx
    have hi := List.mem_range.mp hi
    refine Classical.byContradiction fun q => hn ⟨i, by omega, by omega, q⟩)
  simp at hl
  omega
theorem rest_spec (m : Nat) : ∀ (os tk : List Int), tk.Nodup → tk.length + (os.filter fun c => !pos c).length ≤ m → ∃ N, (restR m os tk).Perm (os.filter pos ++ N) ∧ (tk ++ N).Nodup ∧ ∀ c ∈ N, 0 ≤ c ∧ c < (m : Int)
  | [], tk, h, _ => ⟨[], by simp [restR], by simpa using h, by simp⟩
  | o :: os, tk, h, hl => by
    rw [restR]
    split
    · rename_i ho
      have hp : pos o = false := by unfold pos; simp; omega
      rw [List.filter_cons_of_pos (by simp [hp]), List.length_cons] at hl
      obtain ⟨f1, f2, f3⟩ := free_is tk m 0 (some_free (by omega))
      obtain ⟨N, h1, h2, h3⟩ := rest_spec m os (tk ++ [freeR tk m 0]) (by
        rw [List.nodup_append]
        exact ⟨h, by simp, fun a ha b hb => by
          have : b = freeR tk m 0 := by simpa using hb
          rw [this]
          intro e
          rw [e] at ha
          exact f1 ha⟩) (by rw [List.length_append]; simp; omega)
      refine ⟨freeR tk m 0 :: N, ?_, by simpa using h2, ?_⟩
      · rw [List.filter_cons_of_neg (by simp [hp])]
        exact (h1.cons _).trans List.perm_middle.symm
      · intro c hc
        rcases List.mem_cons.mp hc with e | e
        · rw [e]; omega
        · exact h3 c e
    · rename_i ho
      have hp : pos o = true := by unfold pos; simp; omega
      rw [List.filter_cons_of_neg (by simp [hp])] at hl
      obtain ⟨N, h1, h2, h3⟩ := rest_spec m os tk h hl
      exact ⟨N, by rw [List.filter_cons_of_pos hp]; exact h1.cons o, h2, h3⟩
theorem part_len (os : List Int) : (os.filter pos).length + (os.filter fun c => !pos c).length = os.length := by
  induction os with
  | nil => rfl
  | cons o os ih =>
    by_cases h : pos o = true
    · rw [List.filter_cons_of_pos h, List.filter_cons_of_neg (by simp [h])]
      simp only [List.length_cons]
      omega
    · rw [List.filter_cons_of_neg h, List.filter_cons_of_pos (by simpa using h)]
      simp only [List.length_cons]
      omega
theorem keep_on : ∀ (l : List Rn) (tk : List Int) (p : Rn × Int), p ∈ l.zip (keepR l tk).1 → 0 ≤ p.1.pin → p.2 = p.1.pin
  | [], tk, p, h, _ => by simp at h
  | r :: l, tk, p, h, h0 => by
    rw [keepR] at h
    split at h
    · rename_i q
      rw [List.zip_cons_cons] at h
      rcases List.mem_cons.mp h with e | e
      · rw [e] at h0; exact absurd h0 (by show ¬ 0 ≤ r.pin; omega)
      · exact keep_on l _ p e h0
    · rw [List.zip_cons_cons] at h
      rcases List.mem_cons.mp h with e | e
      · rw [e]
      · exact keep_on l _ p e h0
theorem rest_on (m : Nat) : ∀ (l : List Rn) (os tk : List Int), (∀ p ∈ l.zip os, 0 ≤ p.1.pin → p.2 = p.1.pin) → ∀ p ∈ l.zip (restR m os tk), 0 ≤ p.1.pin → p.2 = p.1.pin
  | [], os, tk, _, p, h => by simp at h
  | r :: l, [], tk, _, p, h => by simp [restR] at h
  | r :: l, o :: os, tk, hk, p, h => by
    intro h0
    rw [restR] at h
    split at h
    · rename_i q
      rw [List.zip_cons_cons] at h
      rcases List.mem_cons.mp h with e | e
      · have := hk (r, o) (by rw [List.zip_cons_cons]; exact List.mem_cons_self) (by rw [e] at h0; exact h0)
        rw [e] at h0
        have h1 : o = r.pin := this
        have h2 : 0 ≤ r.pin := h0
        omega
      · exact rest_on m l os _ (fun x hx => hk x (by rw [List.zip_cons_cons]; exact List.mem_cons_of_mem _ hx)) p e h0
    · rw [List.zip_cons_cons] at h
      rcases List.mem_cons.mp h with e | e
      · rw [e]
        exact hk (r, o) (by rw [List.zip_cons_cons]; exact List.mem_cons_self) (by rw [e] at h0; exact h0)
      · exact rest_on m l os _ (fun x hx => hk x (by rw [List.zip_cons_cons]; exact List.mem_cons_of_mem _ hx)) p e h0
theorem pins_nodup : ∀ {l : List Rn}, (l.Pairwise fun a b => a.pin = b.pin → a.pin < 0) → (pinsR l).Nodup
  | [], _ => by simp [pinsR]
  | r :: l, h => by
    obtain ⟨h1, h2⟩ := List.pairwise_cons.mp h
    rw [pins_cons]
    split
    · rename_i hp
      refine List.nodup_cons.mpr ⟨fun hm => ?_, pins_nodup h2⟩
      obtain ⟨q, hq, e⟩ := List.mem_map.mp (List.mem_filter.mp hm).1
      have := h1 q hq e.symm
      omega
    · exact pins_nodup h2
/-- what is assigned holds them -/
theorem assign_on {l : List Rn} {m : Nat} (h : MayR l m) : OnR l (assignR l m) m := by
  obtain ⟨S, h1, h2, h3, h4⟩ := keep_spec l (pinsR l) (pins_nodup h.pins)
  have hlen := part_len (keepR l (pinsR l)).1
  rw [keep_len, h3.length_eq] at hlen
  have hfew := h.few
  obtain ⟨N, r1, r2, r3⟩ := rest_spec m (keepR l (pinsR l)).1 (keepR l (pinsR l)).2 (by rw [h1]; exact h2) (by rw [h1]; omega)
  rw [h1] at r2
  have pm : (assignR l m).Perm (pinsR l ++ S ++ N) := r1.trans (h3.append_right N)
  refine ⟨assign_len l m, fun c hc => ?_, pm.nodup_iff.mpr r2, rest_on m l _ _ (keep_on l _)⟩
  rcases List.mem_append.mp (pm.mem_iff.mp hc) with q | q
  · rcases List.mem_append.mp q with q | q
    · obtain ⟨q1, q2⟩ := List.mem_filter.mp q
      obtain ⟨x, hx, e⟩ := List.mem_map.mp q1
      have := h.each x hx
      have q2 : 0 ≤ c := by simpa using q2
      omega
    · obtain ⟨x, hx, e, e0⟩ := h4 c q
      have := h.each x hx
      omega
  · exact r3 c q
end Go.Proofs.Ytokmkfoofgiddaa
