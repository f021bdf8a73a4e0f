/-
  Plain facts on rows of entries whose IDs are set one by one, and on ranks.
-/
import Derived.Test.YtkiolkceaibmgaaPr2
namespace Go.Proofs.Ytkiolkceaibmgaa
open Go.RowKit

theorem owns_form {w : World} {base : Nat} {e : TypeId} {c : Nat} {v : Value} {n : Nat} {xs : List Value} (h : w.ownsRow base e c v n xs) (hn : 0 < n) : ∃ g cap, v = .slice (some ⟨g, 0, none⟩) n cap := by
  rcases h.2 with ⟨_, h0⟩ | ⟨g, cap, _, hv, _⟩
  · omega
  · exact ⟨g, cap, hv⟩
def withId (e : Ent) (n : Int) : Ent := ⟨n, e.idx, e.rel, e.dl, e.bit, e.grp⟩
/-- the first i have their IDs -/
def idTo (f : Nat → Int) (i : Nat) (es : List Ent) : List Ent := es.mapIdx (fun j e => if j < i then withId e (f j) else e)
theorem idTo_len (f : Nat → Int) (i : Nat) (es : List Ent) : (idTo f i es).length = es.length := by unfold idTo; simp
theorem idTo_zero (f : Nat → Int) (es : List Ent) : idTo f 0 es = es := by
  unfold idTo
  apply List.ext_getElem?
  intro j
  rw [List.getElem?_mapIdx]
  cases es[j]? <;> simp
theorem idTo_at (f : Nat → Int) (i : Nat) (es : List Ent) (j : Nat) : (idTo f i es)[j]? = (es[j]?).map (fun e => if j < i then withId e (f j) else e) := by
  unfold idTo; rw [List.getElem?_mapIdx]
theorem flat_set {c : Nat} (hc : 0 < c) (u : Value) (rs : List (List Value)) (hw : Wide c rs) (i : Nat) (r : List Value) (hr : rs[i]? = some r) : rs.flatten.set (i * c) u = (rs.set i (r.set 0 u)).flatten := by
  induction rs generalizing i with
  | nil => simp at hr
  | cons s rs ih =>
    have hs : s.length = c := hw s (List.mem_cons_self ..)
    cases i with
    | zero =>
      simp at hr
      subst hr
      rw [Nat.zero_mul, List.flatten_cons, List.set_append_left _ _ (by omega)]
      rfl
    | succ i =>
      rw [List.flatten_cons, List.set_append_right _ _ (by rw [hs, Nat.succ_mul]; omega), show (i + 1) * c - s.length = i * c by rw [hs, Nat.succ_mul]; omega]
      rw [ih (fun r' h => hw r' (List.mem_cons_of_mem _ h)) i (by simpa using hr)]
      rfl
theorem idTo_step (f : Nat → Int) (i : Nat) (es : List Ent) (hi : i < es.length) : ((idTo f i es).map Ent.cs).flatten.set (i * 6) (.int .i64 (f i)) = ((idTo f (i + 1) es).map Ent.cs).flatten := by
  have h1 : (idTo f i es)[i]? = some es[i] := by rw [idTo_at, List.getElem?_eq_getElem hi]; simp
  rw [flat_set (c := 6) (by omega) _ _ (wideE _) i (es[i].cs) (by rw [List.getElem?_map, h1]; rfl)]
  congr 1
  apply List.ext_getElem?
  intro j
  rw [List.getElem?_set, List.length_map, idTo_len, List.getElem?_map, List.getElem?_map, idTo_at, idTo_at]
  by_cases e : i = j
  · subst e
    rw [if_pos rfl, if_pos hi, List.getElem?_eq_getElem hi]
    simp [withId, Ent.cs]
  · rw [if_neg e]
    cases hj : es[j]? with
    | none => rfl
    | some x =>
      simp only [Option.map_some]
      by_cases lt : j < i
      · rw [if_pos lt, if_pos (by omega)]
      · rw [if_neg lt, if_neg (by omega)]
theorem idTo_id {f : Nat → Int} {es : List Ent} {j : Nat} {x : Ent} (h : (idTo f es.length es)[j]? = some x) : x.id = f j ∧ j < es.length := by
  rw [idTo_at] at h
  cases hj : es[j]? with
  | none => rw [hj] at h; cases h
  | some y =>
    have lt : j < es.length := by
      rcases Nat.lt_or_ge j es.length with g | g
      · exact g
      · rw [List.getElem?_eq_none g] at hj; cases hj
    rw [hj] at h
    simp [lt] at h
    rw [← h]
    exact ⟨rfl, lt⟩
/-- IDs of their own -/
def Own (l : List Ent) : Prop := l.Pairwise fun a b => a.id ≠ b.id
theorem own_idTo {f : Nat → Int} {es : List Ent} (hf : ∀ i j, i < es.length → j < es.length → f i = f j → i = j) : Own (idTo f es.length es) := by
  unfold Own
  rw [List.pairwise_iff_getElem]
  intro i j hi hj hij e
  have h1 := idTo_id (List.getElem?_eq_getElem hi)
  have h2 := idTo_id (List.getElem?_eq_getElem hj)
  rw [h1.1, h2.1] at e
  have := hf i j h1.2 h2.2 e
  omega
/-- the rank of one that is there -/
theorem rank_own {l : List Ent} (h : Own l) {i : Nat} {x : Ent} (hx : l[i]? = some x) : rankE l x.id = (l.countP (fun y => lessB y x) : Nat) := by
  have hi : i < l.length := by
    rcases Nat.lt_or_ge i l.length with g | g
    · exact g
    · rw [List.getElem?_eq_none g] at hx; cases hx
  have ex : l[i] = x := by rw [List.getElem?_eq_getElem hi] at hx; simpa using hx
  refine rank_found (i := i) ?_ ?_ rfl
  · conv => lhs; rw [← List.take_append_drop i l]
    rw [List.drop_eq_getElem_cons hi, ex]
  · intro y hy
    obtain ⟨j, hj, e⟩ := List.mem_iff_getElem.mp hy
    rw [List.length_take] at hj
    rw [List.getElem_take] at e
    unfold Own at h
    rw [List.pairwise_iff_getElem] at h
    have := h j i (by omega) hi (by omega)
    rw [e, ex] at this
    exact this
theorem count_lt {l : List Ent} {x : Ent} (hx : x ∈ l) : l.countP (fun y => lessB y x) < l.length := by
  obtain ⟨s, t, rfl⟩ := List.append_of_mem hx
  rw [List.countP_append, List.countP_cons, lessB_self, List.length_append, List.length_cons]
  have h1 := List.countP_le_length (p := fun y => lessB y x) (l := s)
  have h2 := List.countP_le_length (p := fun y => lessB y x) (l := t)
  simp
  omega
/-- all ranks -/
def ranks (m l : List Ent) : Nat := (m.map (fun x => l.countP (fun y => lessB y x))).sum
theorem ranks_cons (x : Ent) (m r : List Ent) : ranks m (x :: r) = m.countP (fun y => lessB x y) + ranks m r := by
  induction m with
  | nil => rfl
  | cons y m ih =>
    unfold ranks at ih ⊢
    rw [List.map_cons, List.sum_cons, ih, List.countP_cons, List.countP_cons, List.map_cons, List.sum_cons]
    omega
theorem one_way {x : Ent} {r : List Ent} (h : ∀ y ∈ r, x.id ≠ y.id) : r.countP (fun y => lessB y x) + r.countP (fun y => lessB x y) = r.length := by
  induction r with
  | nil => rfl
  | cons y r ih =>
    have h1 := ih (fun z hz => h z (List.mem_cons_of_mem _ hz))
    have ne := h y (List.mem_cons_self ..)
    rw [List.countP_cons, List.countP_cons, List.length_cons]
    rcases ahead_one ne with g | g
    · rw [lessB_yes g, lessB_no (ahead_asym g)]; simp; omega
    · rw [lessB_yes g, lessB_no (ahead_asym g)]; simp; omega
theorem ranks_own {l : List Ent} (h : Own l) : 2 * ranks l l + l.length = l.length * l.length := by
  induction l with
  | nil => rfl
  | cons x r ih =>
    unfold Own at h
    rw [List.pairwise_cons] at h
    have h1 := ih h.2
    have h2 := one_way h.1
    have e1 : ranks (x :: r) (x :: r) = (x :: r).countP (fun y => lessB x y) + ranks (x :: r) r := ranks_cons x (x :: r) r
    have e2 : ranks (x :: r) r = r.countP (fun y => lessB y x) + ranks r r := by unfold ranks; rw [List.map_cons, List.sum_cons]
    rw [List.countP_cons, lessB_self] at e1
    simp at e1
    rw [List.length_cons, Nat.add_mul, Nat.mul_add, e1, e2]
    omega
theorem ranks_snoc (m l : List Ent) (x : Ent) : ranks (m ++ [x]) l = ranks m l + l.countP (fun y => lessB y x) := by unfold ranks; simp
theorem ranks_le {m l : List Ent} (h : ∀ x ∈ m, x ∈ l) : ranks m l ≤ m.length * l.length := by
  induction m with
  | nil => simp [ranks]
  | cons x m ih =>
    have h1 := ih (fun z hz => h z (List.mem_cons_of_mem _ hz))
    have h2 := count_lt (h x (List.mem_cons_self ..))
    unfold ranks at h1 ⊢
    rw [List.map_cons, List.sum_cons, List.length_cons, Nat.succ_mul]
    omega
end Go.Proofs.Ytkiolkceaibmgaa
