/-
  Runners of other IDs; one more that runs for the first time: plain.
-/
import Derived.Test.YtokmkfoofgiddaaPb8
namespace Go.Proofs.Ytokmkfoofgiddaa
open Go.RowKit

def pl (r : Rn) : Int × Int := (r.pin, r.last)
theorem pins_same : ∀ {x y : List Rn}, x.map pl = y.map pl → pinsR x = pinsR y
  | [], [], _ => rfl
  | [], _ :: _, h => by simp at h
  | _ :: _, [], h => by simp at h
  | a :: x, b :: y, h => by
    rw [List.map_cons, List.map_cons] at h
    obtain ⟨h1, h2⟩ := List.cons.inj h
    have e : a.pin = b.pin := (Prod.mk.inj h1).1
    rw [pins_cons, pins_cons, pins_same h2, e]
theorem keep_same : ∀ {x y : List Rn} (tk : List Int), x.map pl = y.map pl → keepR x tk = keepR y tk
  | [], [], _, _ => rfl
  | [], _ :: _, _, h => by simp at h
  | _ :: _, [], _, h => by simp at h
  | a :: x, b :: y, tk, h => by
    rw [List.map_cons, List.map_cons] at h
    obtain ⟨h1, h2⟩ := List.cons.inj h
    have e : a.pin = b.pin := (Prod.mk.inj h1).1
    have f : a.last = b.last := (Prod.mk.inj h1).2
    rw [keepR, keepR, e, f, keep_same _ h2, keep_same _ h2]
theorem assign_same {x y : List Rn} (h : x.map pl = y.map pl) (m : Nat) : assignR x m = assignR y m := by
  unfold assignR
  rw [pins_same h, keep_same _ h]
theorem moves_same : ∀ {x y : List Rn} (cs : List Int), x.map pl = y.map pl → movesR x cs = movesR y cs
  | [], [], _, _ => rfl
  | [], _ :: _, _, h => by simp at h
  | _ :: _, [], _, h => by simp at h
  | _ :: _, _ :: _, [], _ => rfl
  | a :: x, b :: y, c :: cs, h => by
    rw [List.map_cons, List.map_cons] at h
    obtain ⟨h1, h2⟩ := List.cons.inj h
    have f : a.last = b.last := (Prod.mk.inj h1).2
    rw [movesR, movesR, f, moves_same cs h2]
/-- the first i of them have other IDs -/
structure ReS (l : List Rn) (i : Nat) (ls : List Rn) : Prop where
  len : ls.length = l.length
  at_ : ∀ (j : Nat) (r : Rn), l[j]? = some r → ls[j]? = some (if j < i then ⟨1000 - 7 * (j : Int), r.pin, r.last⟩ else r)
theorem re_zero (l : List Rn) : ReS l 0 l := ⟨rfl, fun j r h => by rw [if_neg (by omega)]; exact h⟩
theorem re_next {l ls : List Rn} {i : Nat} {r : Rn} (h : ReS l i ls) (hr : l[i]? = some r) : ReS l (i + 1) (ls.set i ⟨1000 - 7 * (i : Int), r.pin, r.last⟩) := by
  have hi := lt_of_get hr
  refine ⟨by rw [List.length_set]; exact h.len, fun j x hx => ?_⟩
  by_cases e : j = i
  · subst e
    rw [hr] at hx
    cases hx
    rw [List.getElem?_set_self (by rw [h.len]; exact hi), if_pos (by omega)]
  · rw [List.getElem?_set_ne (fun q => e q.symm), h.at_ j x hx]
    by_cases q : j < i
    · rw [if_pos q, if_pos (by omega)]
    · rw [if_neg q, if_neg (by omega)]
theorem re_pl {l ls : List Rn} {i : Nat} (h : ReS l i ls) : ls.map pl = l.map pl := by
  apply List.ext_getElem?
  intro j
  rw [List.getElem?_map, List.getElem?_map]
  by_cases q : j < l.length
  · have e := List.getElem?_eq_getElem q
    rw [h.at_ j _ e, e]
    simp only [Option.map_some]
    split <;> rfl
  · have e := h.len
    rw [List.getElem?_eq_none (show ls.length ≤ j by omega), List.getElem?_eq_none (show l.length ≤ j by omega)]
/-- the runner at j, of those that have other IDs all -/
theorem re_get {l ls : List Rn} (h : ReS l l.length ls) {j : Nat} {x : Rn} (hx : ls[j]? = some x) : ∃ r, l[j]? = some r ∧ x = ⟨1000 - 7 * (j : Int), r.pin, r.last⟩ := by
  have hj := lt_of_get hx
  rw [h.len] at hj
  have e := List.getElem?_eq_getElem hj
  have h1 := h.at_ j _ e
  rw [hx, if_pos hj] at h1
  exact ⟨_, e, by simpa using h1⟩
theorem re_may {l ls : List Rn} {m : Int} (h : ReS l l.length ls) (hm : MayR l m) : MayR ls m := by
  refine ⟨hm.m1, hm.m2, by rw [h.len]; exact hm.few, fun x hx => ?_, ?_, ?_⟩
  · obtain ⟨j, hj, e⟩ := List.getElem_of_mem hx
    obtain ⟨r, hr, rfl⟩ := re_get h (x := x) (by rw [List.getElem?_eq_getElem hj, e])
    exact hm.each r (List.mem_of_getElem? hr)
  · rw [List.pairwise_iff_getElem]
    intro i j hi hj hij
    obtain ⟨r, _, e1⟩ := re_get h (List.getElem?_eq_getElem hi)
    obtain ⟨s, _, e2⟩ := re_get h (List.getElem?_eq_getElem hj)
    rw [e1, e2]
    show (1000 - 7 * (i : Int)) ≠ 1000 - 7 * (j : Int)
    omega
  · rw [List.pairwise_iff_getElem]
    intro i j hi hj hij
    obtain ⟨r, hr, e1⟩ := re_get h (List.getElem?_eq_getElem hi)
    obtain ⟨s, hs, e2⟩ := re_get h (List.getElem?_eq_getElem hj)
    rw [e1, e2]
    have li := lt_of_get hr
    have lj := lt_of_get hs
    have hp := List.pairwise_iff_getElem.mp hm.pins i j li lj hij
    rw [List.getElem?_eq_getElem li] at hr
    rw [List.getElem?_eq_getElem lj] at hs
    rw [show l[i] = r by simpa using hr, show l[j] = s by simpa using hs] at hp
    exact hp
/-- one that runs for the first time -/
def rNew : Rn := ⟨-1, -1, -1⟩
theorem new_may {l ls : List Rn} {m : Int} (h : ReS l l.length ls) (hm : MayR l m) (hl : (l.length : Int) < m) (h20 : m ≤ 20) : MayR (ls ++ [rNew]) m := by
  have g := re_may h hm
  refine ⟨g.m1, g.m2, by rw [List.length_append, h.len]; simp; omega, fun x hx => ?_, ?_, ?_⟩
  · rcases List.mem_append.mp hx with q | q
    · exact g.each x q
    · have : x = rNew := by simpa using q
      rw [this]
      show -1 ≤ (-1 : Int) ∧ (-1 : Int) < m ∧ -1 ≤ (-1 : Int) ∧ (-1 : Int) < m
      omega
  · rw [List.pairwise_append]
    refine ⟨g.ids, by simp, fun x hx y hy => ?_⟩
    have : y = rNew := by simpa using hy
    rw [this]
    obtain ⟨j, hj, e⟩ := List.getElem_of_mem hx
    obtain ⟨r, hr, rfl⟩ := re_get h (x := x) (by rw [List.getElem?_eq_getElem hj, e])
    have := lt_of_get hr
    show (1000 - 7 * (j : Int)) ≠ -1
    omega
  · rw [List.pairwise_append]
    refine ⟨g.pins, by simp, fun x hx y hy e => ?_⟩
    have : y = rNew := by simpa using hy
    rw [this] at e
    have e : x.pin = -1 := e
    omega
theorem moves_append : ∀ (x : List Rn) (cs : List Int) (r : Rn) (c : Int), cs.length = x.length → r.last = -1 → movesR (x ++ [r]) (cs ++ [c]) = movesR x cs
  | [], [], r, c, _, h => by simp [movesR, h]
  | [], _ :: _, _, _, h, _ => by simp at h
  | _ :: _, [], _, _, h, _ => by simp at h
  | a :: x, d :: cs, r, c, h, g => by
    rw [List.cons_append, List.cons_append, movesR, movesR, moves_append x cs r c (by simpa using h) g]
theorem new_moves (l : List Rn) (m : Nat) : movesR (l ++ [rNew]) (assignR (l ++ [rNew]) m) = movesR l (assignR l m) := by
  have hp : pinsR (l ++ [rNew]) = pinsR l := by rw [pins_append, pins_one, if_neg (by show ¬ (0 : Int) ≤ -1; omega), List.append_nil]
  have hk : ∀ tk, keepR [rNew] tk = ([-1], tk) := fun tk => by
    have h1 := (keep_one rNew tk).2 (fun q => by have h2 : (0 : Int) ≤ -1 := q.2.1; omega)
    exact h1
  unfold assignR
  rw [hp, keep_append, hk, rest_append]
  obtain ⟨c, hc⟩ : ∃ c, restR m [-1] (restT m (keepR l (pinsR l)).1 (keepR l (pinsR l)).2) = [c] := by
    rw [restR, if_pos (by omega), restR]
    exact ⟨_, rfl⟩
  show movesR (l ++ [rNew]) (restR m (keepR l (pinsR l)).1 (keepR l (pinsR l)).2 ++ restR m [-1] (restT m (keepR l (pinsR l)).1 (keepR l (pinsR l)).2)) = _
  rw [hc]
  exact moves_append l _ rNew c (by rw [rest_len, keep_len]) rfl
theorem flat_setR (xs : List Rn) (k : Nat) (r : Rn) (id : Int) (h : xs[k]? = some r) : (xs.map Rn.cs).flatten.set (k * 3) (.int .i64 id) = ((xs.set k ⟨id, r.pin, r.last⟩).map Rn.cs).flatten := by
  induction xs generalizing k with
  | nil => simp at h
  | cons x xs ih =>
    cases k with
    | zero =>
      have : x = r := by simpa using h
      subst this
      rfl
    | succ k =>
      have := ih k (by simpa using h)
      rw [List.map_cons, List.flatten_cons, List.set_cons_succ, List.map_cons, List.flatten_cons, ← this]
      rw [show (k + 1) * 3 = (Rn.cs x).length + k * 3 by simp [Rn.cs]; omega, List.set_append_right _ _ (by omega)]
      simp
end Go.Proofs.Ytokmkfoofgiddaa
