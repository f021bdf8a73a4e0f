/-
  Runners and cores, as plain data: who may be, who holds, how many move, who is assigned where; and that no cores that hold them have fewer moves. No function of the program in sight.
-/
import Derived.Test.YtokmkfoofgiddaaKit
namespace Go.Proofs.Ytokmkfoofgiddaa

structure Rn where
  id : Int
  pin : Int
  last : Int
structure MayR (l : List Rn) (m : Int) : Prop where
  m1 : 1 ≤ m
  m2 : m ≤ 1024
  few : (l.length : Int) ≤ m
  each : ∀ r ∈ l, -1 ≤ r.pin ∧ r.pin < m ∧ -1 ≤ r.last ∧ r.last < m
  ids : l.Pairwise fun a b => a.id ≠ b.id
  pins : l.Pairwise fun a b => a.pin = b.pin → a.pin < 0
/-- the cores hold them: one for each, on its pin, no two the same -/
structure OnR (l : List Rn) (cs : List Int) (m : Int) : Prop where
  len : cs.length = l.length
  each : ∀ c ∈ cs, 0 ≤ c ∧ c < m
  one : cs.Nodup
  pin : ∀ p ∈ l.zip cs, 0 ≤ p.1.pin → p.2 = p.1.pin
/-- who moves, of those that have a core -/
def movesR : List Rn → List Int → Nat
  | r :: l, c :: cs => (if r.last ≠ -1 ∧ r.last ≠ c then 1 else 0) + movesR l cs
  | _, _ => 0
/-- the cores of those that stay -/
def stayR : List Rn → List Int → List Int
  | r :: l, c :: cs => if r.last ≠ -1 ∧ r.last = c then c :: stayR l cs else stayR l cs
  | _, _ => []
def lastR (l : List Rn) : Nat := (l.filter fun r => r.last ≠ -1).length
theorem last_cons (r : Rn) (l : List Rn) : lastR (r :: l) = (if r.last ≠ -1 then 1 else 0) + lastR l := by
  unfold lastR
  by_cases e : r.last = -1
  · simp [e]
  · simp [e]; omega
theorem moves_stay : ∀ (l : List Rn) (cs : List Int), cs.length = l.length → movesR l cs + (stayR l cs).length = lastR l
  | [], [], _ => rfl
  | [], _ :: _, h => by simp at h
  | _ :: _, [], h => by simp at h
  | r :: l, c :: cs, h => by
    have ih := moves_stay l cs (by simpa using h)
    rw [last_cons, movesR, stayR]
    by_cases e : r.last = -1
    · rw [if_neg (fun q => q.1 e), if_neg (fun q => q.1 e), if_neg (fun q => q e)]
      omega
    · by_cases g : r.last = c
      · rw [if_neg (fun q => q.2 g), if_pos ⟨e, g⟩, if_pos e, List.length_cons]
        omega
      · rw [if_pos ⟨e, g⟩, if_neg (fun q => g q.2), if_pos e]
        omega
theorem stay_sub : ∀ (l : List Rn) (cs : List Int), (stayR l cs).Sublist cs
  | [], cs => by simp [stayR]
  | _ :: _, [] => by simp [stayR]
  | r :: l, c :: cs => by
    unfold stayR
    split
    · exact (stay_sub l cs).cons_cons c
    · exact (stay_sub l cs).cons c
theorem mem_stay : ∀ (l : List Rn) (cs : List Int) (c : Int), c ∈ stayR l cs ↔ ∃ r, (r, c) ∈ l.zip cs ∧ r.last ≠ -1 ∧ r.last = c
  | [], cs, c => by simp [stayR]
  | _ :: _, [], c => by simp [stayR]
  | r :: l, d :: cs, c => by
    have ih := mem_stay l cs c
    unfold stayR
    split
    · rename_i h
      simp only [List.mem_cons, List.zip_cons_cons, Prod.mk.injEq, ih]
      constructor
      · rintro (rfl | ⟨x, h1, h2⟩)
        · exact ⟨r, .inl ⟨rfl, rfl⟩, h⟩
        · exact ⟨x, .inr h1, h2⟩
      · rintro ⟨x, ⟨rfl, rfl⟩ | h1, h2⟩
        · exact .inl rfl
        · exact .inr ⟨x, h1, h2⟩
    · rename_i h
      simp only [List.mem_cons, List.zip_cons_cons, Prod.mk.injEq, ih]
      constructor
      · rintro ⟨x, h1, h2⟩
        exact ⟨x, .inr h1, h2⟩
      · rintro ⟨x, ⟨rfl, rfl⟩ | h1, h2⟩
        · exact absurd h2 h
        · exact ⟨x, h1, h2⟩
theorem nodup_len {α : Type} [DecidableEq α] : ∀ (S G : List α), S.Nodup → (∀ x ∈ S, x ∈ G) → S.length ≤ G.length
  | [], _, _, _ => Nat.zero_le _
  | x :: S, G, h, k => by
    have hx := List.nodup_cons.mp h
    have hg := k x List.mem_cons_self
    have ih := nodup_len S (G.erase x) hx.2 fun y hy => (List.mem_erase_of_ne (fun e => hx.1 (by rw [← e]; exact hy))).mpr (k y (List.mem_cons_of_mem _ hy))
    rw [List.length_erase_of_mem hg] at ih
    have := List.length_pos_of_mem hg
    simp
    omega
/-! ### assigned -/
/-- who is on a pin, or on the core that it last ran on; -1 else; with what is taken behind it -/
def keepR : List Rn → List Int → List Int × List Int
  | [], tk => ([], tk)
  | r :: l, tk => if r.pin < 0 ∧ 0 ≤ r.last ∧ r.last ∉ tk then (r.last :: (keepR l (tk ++ [r.last])).1, (keepR l (tk ++ [r.last])).2)
    else (r.pin :: (keepR l tk).1, (keepR l tk).2)
def pinsR (l : List Rn) : List Int := (l.map Rn.pin).filter fun p => decide (0 ≤ p)
/-- the least core that is free, from c on, below c + n -/
def freeR (tk : List Int) : Nat → Int → Int
  | 0, _ => -1
  | n + 1, c => if c ∉ tk then c else freeR tk n (c + 1)
def restR (m : Nat) : List Int → List Int → List Int
  | [], _ => []
  | o :: os, tk => if o < 0 then freeR tk m 0 :: restR m os (tk ++ [freeR tk m 0]) else o :: restR m os tk
def assignR (l : List Rn) (m : Nat) : List Int := restR m (keepR l (pinsR l)).1 (keepR l (pinsR l)).2
theorem keep_len : ∀ (l : List Rn) (tk : List Int), (keepR l tk).1.length = l.length
  | [], _ => rfl
  | r :: l, tk => by
    unfold keepR
    split <;> simp [keep_len l]
theorem rest_len (m : Nat) : ∀ (os tk : List Int), (restR m os tk).length = os.length
  | [], _ => rfl
  | o :: os, tk => by
    unfold restR
    split <;> simp [rest_len m os]
theorem assign_len (l : List Rn) (m : Nat) : (assignR l m).length = l.length := by unfold assignR; rw [rest_len, keep_len]
/-- who may stay, stays, or one ahead of it does -/
theorem keep_stay : ∀ (l : List Rn) (tk : List Int) (r : Rn), r ∈ l → r.pin < 0 → 0 ≤ r.last → r.last ∉ tk → r.last ∈ stayR l (keepR l tk).1
  | x :: l, tk, r, hr, h1, h2, h3 => by
    unfold keepR
    split
    · rename_i hx
      by_cases e : r.last = x.last
      · rw [e]
        rw [stayR]
        rw [if_pos ⟨by omega, rfl⟩]
        exact List.mem_cons_self
      · rcases List.mem_cons.mp hr with q | q
        · rw [q] at e; exact absurd rfl e
        · have := keep_stay l (tk ++ [x.last]) r q h1 h2 (by simp [h3, e])
          rw [stayR]
          rw [if_pos ⟨by omega, rfl⟩]
          exact List.mem_cons_of_mem _ this
    · rename_i hx
      rcases List.mem_cons.mp hr with q | q
      · rw [q] at h1 h2 h3; exact absurd ⟨h1, h2, h3⟩ hx
      · have := keep_stay l tk r q h1 h2 h3
        rw [stayR]
        split
        · exact List.mem_cons_of_mem _ this
        · exact this
theorem keep_pin : ∀ (l : List Rn) (tk : List Int) (r : Rn), r ∈ l → 0 ≤ r.pin → r.last = r.pin → r.last ∈ stayR l (keepR l tk).1
  | x :: l, tk, r, hr, h1, h2 => by
    rcases List.mem_cons.mp hr with q | q
    · subst q
      unfold keepR
      rw [if_neg (by omega)]
      rw [stayR]
      rw [if_pos ⟨by omega, h2⟩, h2]
      exact List.mem_cons_self
    · unfold keepR
      split
      · have := keep_pin l (tk ++ [x.last]) r q h1 h2
        rw [stayR]
        split
        · exact List.mem_cons_of_mem _ this
        · exact this
      · have := keep_pin l tk r q h1 h2
        rw [stayR]
        split
        · exact List.mem_cons_of_mem _ this
        · exact this
/-- what was given stays given -/
theorem rest_stay (m : Nat) : ∀ (l : List Rn) (os tk : List Int) (c : Int), c ∈ stayR l os → 0 ≤ c → c ∈ stayR l (restR m os tk)
  | [], os, tk, c, h, _ => by simp [stayR] at h
  | _ :: _, [], tk, c, h, _ => by simp [stayR] at h
  | r :: l, o :: os, tk, c, h, h0 => by
    unfold restR
    simp only [stayR] at h
    split
    · rename_i ho
      have hm : c ∈ stayR l os := by
        split at h
        · rcases List.mem_cons.mp h with e | e
          · omega
          · exact e
        · exact h
      have := rest_stay m l os (tk ++ [freeR tk m 0]) c hm h0
      rw [stayR]
      split
      · exact List.mem_cons_of_mem _ this
      · exact this
    · rw [stayR]
      split at h
      · rename_i e
        rw [if_pos e]
        rcases List.mem_cons.mp h with q | q
        · rw [q]; exact List.mem_cons_self
        · exact List.mem_cons_of_mem _ (rest_stay m l os tk c q h0)
      · rename_i e
        rw [if_neg e]
        exact rest_stay m l os tk c h h0
/-- P15.3: no cores that hold them have fewer moves -/
theorem least_moves {l : List Rn} {m : Nat} {cs : List Int} (h : OnR l cs m) : movesR l (assignR l m) ≤ movesR l cs := by
  have h1 := moves_stay l cs h.len
  have h2 := moves_stay l (assignR l m) (assign_len l m)
  have h3 : (stayR l cs).length ≤ (stayR l (assignR l m)).length := by
    refine nodup_len _ _ ((stay_sub l cs).nodup h.one) fun c hc => ?_
    obtain ⟨r, hz, hn, he⟩ := (mem_stay l cs c).mp hc
    have hr : r ∈ l := (List.of_mem_zip hz).1
    have h0 := (h.each c (List.of_mem_zip hz).2).1
    refine rest_stay m l _ _ c ?_ h0
    rw [← he]
    by_cases hp : 0 ≤ r.pin
    · exact keep_pin l _ r hr hp (by rw [he]; exact h.pin _ hz hp)
    · refine keep_stay l _ r hr (by omega) (by omega) fun hm => ?_
      -- its core is nobody's pin
      unfold pinsR at hm
      obtain ⟨h5, h6⟩ := List.mem_filter.mp hm
      obtain ⟨q, hq, eq⟩ := List.mem_map.mp h5
      have h6 : 0 ≤ r.last := by simpa using h6
      obtain ⟨i, hi, ei⟩ := List.getElem_of_mem hq
      obtain ⟨j, hj, ej⟩ := List.getElem_of_mem hz
      have hj1 : j < l.length := by simp at hj; omega
      have hj2 : j < cs.length := by simp at hj; omega
      have hi2 : i < cs.length := by rw [h.len]; exact hi
      have ez : (l.zip cs)[i]'(by simp; omega) = (q, cs[i]) := by simp [ei]
      have pi := h.pin (q, cs[i]) (by rw [← ez]; exact List.getElem_mem _) (by show 0 ≤ q.pin; omega)
      have pi : cs[i] = q.pin := pi
      simp only [List.getElem_zip, Prod.mk.injEq] at ej
      have ec : cs[i] = cs[j] := by rw [pi, ej.2, ← he, eq]
      have eij : i = j := (List.getElem_inj h.one).mp ec
      subst eij
      have : q = r := by rw [← ei, ← ej.1]
      rw [this] at eq
      omega
  omega
end Go.Proofs.Ytokmkfoofgiddaa
