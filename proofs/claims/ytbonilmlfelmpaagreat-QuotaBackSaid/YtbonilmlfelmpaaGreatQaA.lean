/-
  Servers within servers, as plain data: paths, who holds what where, what is asked. No function of the program in sight.
  Servers within servers, as plain data: what comes of it when each ledger of a path is asked one thing, then each another. No function of the program in sight.
-/
import Derived.Test.YtbonilmlfelmpaaGreatHaA
import Derived.Test.YtbonilmlfelmpaaGreatHzA
import Derived.Test.YtbonilmlfelmpaaGreatHz10
namespace Go.Proofs.YtbonilmlfelmpaaGreat
open Go.RowKit

/-- a server: its parent, its quota -/
structure Sv where
  par : Int
  E : Int
  P : Int
/-- a holder, and where it joined -/
structure Hq where
  srv : Int
  h : Hd
structure GoodSv (S : List Sv) : Prop where
  len : S.length ≤ 16
  each : ∀ (i : Nat) (v : Sv), S[i]? = some v → -1 ≤ v.par ∧ v.par < (i : Int) ∧ 0 ≤ v.E ∧ v.E ≤ 1073741824 ∧ 1 ≤ v.P ∧ v.P ≤ 1048576
/-! ### paths -/
def pathF (S : List Sv) : Nat → Int → List Int
  | 0, _ => [-1]
  | n + 1, s => if s < 0 then [-1] else match S[s.toNat]? with
    | none => [-1]
    | some v => s :: pathF S n v.par
def pathV (S : List Sv) (s : Int) : List Int := pathF S (s + 1).toNat s
theorem pathF_neg (S : List Sv) (n : Nat) {s : Int} (h : s < 0) : pathF S n s = [-1] := by
  cases n with
  | zero => rfl
  | succ n => exact if_pos h
theorem pathV_neg (S : List Sv) {s : Int} (h : s < 0) : pathV S s = [-1] := pathF_neg S _ h
theorem pathF_enough {S : List Sv} (g : GoodSv S) : ∀ (n m : Nat) (s : Int), (s + 1).toNat ≤ n → (s + 1).toNat ≤ m → pathF S n s = pathF S m s := by
  intro n
  induction n with
  | zero =>
    intro m s h1 h2
    rw [pathF_neg S 0 (by omega), pathF_neg S m (by omega)]
  | succ n ih =>
    intro m s h1 h2
    by_cases hs : s < 0
    · rw [pathF_neg S _ hs, pathF_neg S _ hs]
    · obtain ⟨m, rfl⟩ : ∃ k, m = k + 1 := ⟨m - 1, by omega⟩
      unfold pathF
      rw [if_neg hs, if_neg hs]
      cases hv : S[s.toNat]? with
      | none => rfl
      | some v =>
        have := g.each _ v hv
        simp only
        rw [ih m v.par (by omega) (by omega)]
theorem pathV_step {S : List Sv} (g : GoodSv S) {s : Int} {v : Sv} (h : 0 ≤ s) (hv : S[s.toNat]? = some v) : pathV S s = s :: pathV S v.par := by
  have hp := g.each _ v hv
  unfold pathV
  obtain ⟨k, hk⟩ : ∃ k, (s + 1).toNat = k + 1 := ⟨s.toNat, by omega⟩
  rw [hk]
  show (if s < 0 then [-1] else match S[s.toNat]? with | none => [-1] | some v => s :: pathF S k v.par) = _
  rw [if_neg (by omega), hv]
  simp only
  rw [pathF_enough g k (v.par + 1).toNat v.par (by omega) (Nat.le_refl _)]
def hasB (S : List Sv) (s : Int) : Bool := decide (-1 ≤ s ∧ s < (S.length : Int))
theorem has_is {S : List Sv} {s : Int} : hasB S s = true ↔ -1 ≤ s ∧ s < (S.length : Int) := by unfold hasB; exact decide_eq_true_iff
theorem has_no {S : List Sv} {s : Int} (h : ¬ (-1 ≤ s ∧ s < (S.length : Int))) : hasB S s = false := decide_eq_false h
/-- from a place that is none, or is one: a way to go on -/
theorem place_cases {S : List Sv} (g : GoodSv S) {s : Int} (h : -1 ≤ s ∧ s < (S.length : Int)) : s = -1 ∨ ∃ v, 0 ≤ s ∧ S[s.toNat]? = some v ∧ -1 ≤ v.par ∧ v.par < s ∧ v.par < (S.length : Int) := by
  by_cases h0 : s < 0
  · exact .inl (by omega)
  · have hl : s.toNat < S.length := by omega
    have hv : S[s.toNat]? = some S[s.toNat] := List.getElem?_eq_getElem hl
    have := g.each _ _ hv
    exact .inr ⟨_, by omega, hv, by omega, by omega, by omega⟩
theorem path_ind {S : List Sv} (g : GoodSv S) {p : Int → Prop} (h0 : p (-1)) (h1 : ∀ (s : Int) (v : Sv), 0 ≤ s → S[s.toNat]? = some v → -1 ≤ v.par → v.par < s → p v.par → p s) : ∀ s, -1 ≤ s → s < (S.length : Int) → p s := by
  have : ∀ (n : Nat) (s : Int), (s + 1).toNat ≤ n → -1 ≤ s → s < (S.length : Int) → p s := by
    intro n
    induction n with
    | zero => intro s hn hs _; obtain rfl : s = -1 := by omega
              exact h0
    | succ n ih =>
      intro s hn hs hl
      rcases place_cases g ⟨hs, hl⟩ with rfl | ⟨v, a, b, c, d, e⟩
      · exact h0
      · exact h1 s v a b c d (ih v.par (by omega) c e)
  exact fun s => this _ s (Nat.le_refl _)
theorem path_bd {S : List Sv} (g : GoodSv S) : ∀ s, -1 ≤ s → s < (S.length : Int) → ∀ x ∈ pathV S s, -1 ≤ x ∧ x ≤ s ∧ x < (S.length : Int) := by
  refine fun s h1 h2 x hx => ?_
  have := path_ind g (p := fun s => ∀ x ∈ pathV S s, -1 ≤ x ∧ x ≤ s) (fun x hx => by rw [pathV_neg S (by omega)] at hx; simp at hx; omega) (fun s v a b c d ih x hx => by
    rw [pathV_step g a b] at hx
    rcases List.mem_cons.mp hx with rfl | q
    · omega
    · have := ih x q; omega) s h1 h2 x hx
  omega
theorem path_len {S : List Sv} (g : GoodSv S) : ∀ s, -1 ≤ s → s < (S.length : Int) → ((pathV S s).length : Int) ≤ s + 2 := by
  refine path_ind g (p := fun s => ((pathV S s).length : Int) ≤ s + 2) (by rw [pathV_neg S (by omega)]; simp) (fun s v a b c d ih => ?_)
  rw [pathV_step g a b, List.length_cons]
  omega
theorem path_nodup {S : List Sv} (g : GoodSv S) : ∀ s, -1 ≤ s → s < (S.length : Int) → (pathV S s).Nodup := by
  refine fun s h1 h2 => (path_ind g (p := fun s => (pathV S s).Nodup ∧ ∀ x ∈ pathV S s, x ≤ s) ?_ (fun s v a b c d ih => ?_) s h1 h2).1
  · rw [pathV_neg S (by omega)]; simp
  · rw [pathV_step g a b]
    refine ⟨List.nodup_cons.mpr ⟨fun q => ?_, ih.1⟩, fun x hx => ?_⟩
    · have := ih.2 s q; omega
    · rcases List.mem_cons.mp hx with rfl | q
      · omega
      · have := ih.2 x q; omega
theorem path_whole {S : List Sv} (g : GoodSv S) : ∀ s, -1 ≤ s → s < (S.length : Int) → -1 ∈ pathV S s := by
  refine path_ind g (p := fun s => -1 ∈ pathV S s) (by rw [pathV_neg S (by omega)]; simp) (fun s v a b c d ih => ?_)
  rw [pathV_step g a b]
  exact List.mem_cons_of_mem _ ih
theorem path_ne (S : List Sv) (s : Int) : pathV S s ≠ [] := by
  unfold pathV
  generalize (s + 1).toNat = n
  cases n with
  | zero => simp [pathF]
  | succ n =>
    unfold pathF
    split
    · simp
    · split <;> simp
theorem path_head {S : List Sv} (g : GoodSv S) {s : Int} (h : -1 ≤ s ∧ s < (S.length : Int)) : ∃ t, pathV S s = s :: t := by
  rcases place_cases g h with rfl | ⟨v, a, b, _⟩
  · exact ⟨[], pathV_neg S (by omega)⟩
  · exact ⟨_, pathV_step g a b⟩
theorem path_self {S : List Sv} (g : GoodSv S) {s : Int} (h : -1 ≤ s ∧ s < (S.length : Int)) : s ∈ pathV S s := by
  obtain ⟨t, ht⟩ := path_head g h
  rw [ht]
  exact List.mem_cons_self ..
/-! ### who holds what, where -/
def onB (S : List Sv) (x s : Int) : Bool := decide (x ∈ pathV S s)
theorem on_is {S : List Sv} {x s : Int} : onB S x s = true ↔ x ∈ pathV S s := decide_eq_true_iff
def lst (hs : List Hq) : List Hd := hs.map Hq.h
def listAt (S : List Sv) (x : Int) (hs : List Hq) : List Hd := lst (hs.filter fun q => onB S x q.srv)
theorem lst_len (hs : List Hq) : (lst hs).length = hs.length := by unfold lst; rw [List.length_map]
theorem lst_at {hs : List Hq} {j : Nat} {q : Hq} (h : hs[j]? = some q) : (lst hs)[j]? = some q.h := by unfold lst; rw [List.getElem?_map, h]; rfl
theorem lst_at' {hs : List Hq} {j : Nat} {x : Hd} (h : (lst hs)[j]? = some x) : ∃ q, hs[j]? = some q ∧ q.h = x := by
  unfold lst at h
  rw [List.getElem?_map] at h
  cases hq : hs[j]? with
  | none => rw [hq] at h; cases h
  | some q => rw [hq] at h; exact ⟨q, rfl, Option.some.inj h⟩
theorem listAt_append (S : List Sv) (x : Int) (a b : List Hq) : listAt S x (a ++ b) = listAt S x a ++ listAt S x b := by
  unfold listAt lst
  rw [List.filter_append, List.map_append]
theorem listAt_cons (S : List Sv) (x : Int) (q : Hq) (b : List Hq) : listAt S x (q :: b) = (if onB S x q.srv then [q.h] else []) ++ listAt S x b := by
  unfold listAt lst
  rw [List.filter_cons]
  split <;> simp_all
theorem listAt_one (S : List Sv) (x : Int) (q : Hq) : listAt S x [q] = if onB S x q.srv then [q.h] else [] := by rw [listAt_cons]; simp [listAt, lst]
theorem listAt_sub (S : List Sv) (x : Int) (hs : List Hq) : ∀ h ∈ listAt S x hs, ∃ q ∈ hs, q.h = h := fun h hh => by
  obtain ⟨q, hq, rfl⟩ := List.mem_map.mp hh
  exact ⟨q, (List.mem_filter.mp hq).1, rfl⟩
theorem listAt_len (S : List Sv) (x : Int) (hs : List Hq) : (listAt S x hs).length ≤ hs.length := by
  unfold listAt
  rw [lst_len]
  exact List.length_filter_le ..
/-- the whole holds what all do -/
theorem listAt_whole {S : List Sv} (g : GoodSv S) {hs : List Hq} (h : ∀ q ∈ hs, hasB S q.srv = true) : listAt S (-1) hs = lst hs := by
  unfold listAt
  rw [List.filter_eq_self.mpr fun q hq => ?_]
  have := has_is.mp (h q hq)
  exact on_is.mpr (path_whole g _ this.1 this.2)
theorem split_q {hs : List Hq} {j : Nat} {q : Hq} (h : hs[j]? = some q) : hs = hs.take j ++ q :: hs.drop (j + 1) := by
  have hj : j < hs.length := by
    rcases Nat.lt_or_ge j hs.length with k | k
    · exact k
    · rw [List.getElem?_eq_none k] at h; cases h
  rw [List.getElem?_eq_getElem hj] at h
  cases h
  rw [← List.drop_eq_getElem_cons hj, List.take_append_drop]
theorem set_split_q {hs : List Hq} {j : Nat} {q : Hq} (y : Hq) (h : hs[j]? = some q) : hs.set j y = hs.take j ++ y :: hs.drop (j + 1) := by
  have hj : j < hs.length := by
    rcases Nat.lt_or_ge j hs.length with k | k
    · exact k
    · rw [List.getElem?_eq_none k] at h; cases h
  rw [List.set_eq_take_append_cons_drop, if_pos hj]
theorem listAt_split (S : List Sv) (x : Int) (a b : List Hq) (q : Hq) : listAt S x (a ++ q :: b) = listAt S x a ++ ((if onB S x q.srv then [q.h] else []) ++ listAt S x b) := by rw [listAt_append, listAt_cons]
/-- on whose path it is: there it stands -/
theorem at_on {S : List Sv} {x : Int} {hs : List Hq} {j : Nat} {q : Hq} (h : hs[j]? = some q) (ho : onB S x q.srv = true) :
    ∃ k, (listAt S x hs)[k]? = some q.h ∧ (∀ y : Hq, y.srv = q.srv → listAt S x (hs.set j y) = (listAt S x hs).set k y.h) ∧ listAt S x (hs.eraseIdx j) = (listAt S x hs).eraseIdx k := by
  have eL : listAt S x hs = listAt S x (hs.take j) ++ q.h :: listAt S x (hs.drop (j + 1)) := by
    have := congrArg (listAt S x) (split_q h)
    rw [listAt_split, ho] at this
    simpa using this
  have e2 : ∀ y : Hq, y.srv = q.srv → listAt S x (hs.set j y) = listAt S x (hs.take j) ++ y.h :: listAt S x (hs.drop (j + 1)) := fun y hy => by
    rw [set_split_q y h, listAt_split, hy, ho]
    simp
  have e3 : listAt S x (hs.eraseIdx j) = listAt S x (hs.take j) ++ listAt S x (hs.drop (j + 1)) := by rw [erase_split, listAt_append]
  rw [eL, e3]
  refine ⟨(listAt S x (hs.take j)).length, by simp, fun y hy => by rw [e2 y hy]; simp, by simp [List.eraseIdx_append_of_length_le]⟩
theorem at_off {S : List Sv} {x : Int} {hs : List Hq} {j : Nat} {q : Hq} (h : hs[j]? = some q) (ho : onB S x q.srv = false) :
    (∀ y : Hq, y.srv = q.srv → listAt S x (hs.set j y) = listAt S x hs) ∧ listAt S x (hs.eraseIdx j) = listAt S x hs := by
  have eL : listAt S x hs = listAt S x (hs.take j) ++ listAt S x (hs.drop (j + 1)) := by
    have := congrArg (listAt S x) (split_q h)
    rw [listAt_split, ho] at this
    simpa using this
  refine ⟨fun y hy => ?_, ?_⟩
  · rw [eL, set_split_q y h, listAt_split, hy, ho]
    simp
  · rw [eL, erase_split, listAt_append]
theorem find_lst {hs : List Hq} {id : Int} {j : Nat} (h : findH (lst hs) id = some j) : ∃ q, hs[j]? = some q ∧ q.h.id = id := by
  obtain ⟨x, hx, e⟩ := findH_some h
  obtain ⟨q, hq, rfl⟩ := lst_at' hx
  exact ⟨q, hq, e⟩
theorem find_no {hs : List Hq} {id : Int} (h : findH (lst hs) id = none) : ∀ q ∈ hs, q.h.id ≠ id := fun q hq => findH_none h q.h (List.mem_map_of_mem hq)
theorem find_no_at {S : List Sv} {x : Int} {hs : List Hq} {id : Int} (h : findH (lst hs) id = none) : findH (listAt S x hs) id = none := findH_of fun y hy => by
  obtain ⟨q, hq, rfl⟩ := listAt_sub S x hs y hy
  exact find_no h q hq
theorem uniq_filter {α : Type} (f : α → Int) (p : α → Bool) : ∀ l : List α, (l.map f).Nodup → ((l.filter p).map f).Nodup := fun l h => by
  exact List.Nodup.sublist ((List.filter_sublist (p := p) (l := l)).map f) h
theorem uniq_nodup {l : List Hd} : UniqH l ↔ (l.map Hd.id).Nodup := by
  show UniqH l ↔ List.Pairwise (· ≠ ·) (l.map Hd.id)
  rw [List.pairwise_map, List.pairwise_iff_getElem]
  constructor
  · intro h i j hi hj hij e
    have := h i j _ _ (List.getElem?_eq_getElem hi) (List.getElem?_eq_getElem hj) e
    omega
  · intro h i j x y hi hj e
    obtain ⟨hi', rfl⟩ := List.getElem?_eq_some_iff.mp hi
    obtain ⟨hj', rfl⟩ := List.getElem?_eq_some_iff.mp hj
    rcases Nat.lt_trichotomy i j with q | q | q
    · exact absurd e (h i j hi' hj' q)
    · exact q
    · exact absurd e.symm (h j i hj' hi' q)
theorem uniq_at_list {S : List Sv} {x : Int} {hs : List Hq} (h : UniqH (lst hs)) : UniqH (listAt S x hs) := by
  rw [uniq_nodup] at h ⊢
  unfold lst at h
  unfold listAt lst
  rw [List.map_map] at h ⊢
  exact uniq_filter _ _ _ h
theorem find_on {S : List Sv} {x : Int} {hs : List Hq} {id : Int} {k : Nat} {q : Hd} (u : UniqH (lst hs)) (hk : (listAt S x hs)[k]? = some q) (e : q.id = id) : findH (listAt S x hs) id = some k := findH_at (uniq_at_list u) hk e
/-! ### quotas -/
def qN (S : List Sv) (N x : Int) : Int := if x < 0 then N else match S[x.toNat]? with
  | none => N
  | some v => v.E
def qD (S : List Sv) (D x : Int) : Int := if x < 0 then D else match S[x.toNat]? with
  | none => D
  | some v => v.P
theorem qN_neg (S : List Sv) (N : Int) {x : Int} (h : x < 0) : qN S N x = N := if_pos h
theorem qD_neg (S : List Sv) (D : Int) {x : Int} (h : x < 0) : qD S D x = D := if_pos h
theorem qN_at {S : List Sv} (N : Int) {x : Int} {v : Sv} (h : 0 ≤ x) (hv : S[x.toNat]? = some v) : qN S N x = v.E := by unfold qN; rw [if_neg (by omega), hv]
theorem qD_at {S : List Sv} (D : Int) {x : Int} {v : Sv} (h : 0 ≤ x) (hv : S[x.toNat]? = some v) : qD S D x = v.P := by unfold qD; rw [if_neg (by omega), hv]
def fitAt (S : List Sv) (N D x : Int) (hs : List Hq) : Bool := fitH (qN S N x) (qD S D x) (listAt S x hs)
def fitsP (S : List Sv) (N D s : Int) (hs : List Hq) : Bool := (pathV S s).all fun x => fitAt S N D x hs
/-! ### what is told, and who holds what then -/
def newQ (s id E P : Int) : Hq := ⟨s, newH id E P⟩
def askQ1 (q : Hq) (E P : Int) : Hq := ⟨q.srv, askH q.h E P⟩
def doneQ (q : Hq) (id : Int) : Hq := ⟨q.srv, newH id q.h.NE q.h.NP⟩
def joinQ (S : List Sv) (N D : Int) (hs : List Hq) (id s E P : Int) : Int × List Hq :=
  if mayB E P = false ∨ hasB S s = false then (1, hs) else match findH (lst hs) id with
    | some _ => (14, hs)
    | none => if fitsP S N D s (hs ++ [newQ s id E P]) then (0, hs ++ [newQ s id E P]) else (18, hs)
def askQ (S : List Sv) (N D : Int) (hs : List Hq) (id E P : Int) : Int × List Hq :=
  if mayB E P = false then (1, hs) else match findH (lst hs) id with
    | none => (12, hs)
    | some j => match hs[j]? with
      | none => (12, hs)
      | some q => if q.h.asked then (13, hs) else if fitsP S N D q.srv (hs.set j (askQ1 q E P)) then (0, hs.set j (askQ1 q E P)) else (18, hs)
def settleQ (hs : List Hq) (id : Int) : Int × List Hq :=
  match findH (lst hs) id with
    | none => (12, hs)
    | some j => match hs[j]? with
      | none => (12, hs)
      | some q => if q.h.asked then (0, hs.set j (doneQ q id)) else (13, hs)
def freeQ (hs : List Hq) (id : Int) : Int × List Hq :=
  match findH (lst hs) id with
    | none => (12, hs)
    | some j => (0, hs.eraseIdx j)
def serverQ (hs : List Hq) (id : Int) : Int :=
  match findH (lst hs) id with
    | none => -2
    | some j => match hs[j]? with
      | none => -2
      | some q => q.srv
/-- what is told of what a place holds -/
def heldQ (S : List Sv) (x : Int) (hs : List Hq) : Int × Int := if hasB S x then sumH (listAt S x hs) else (0, 1)
/-- a tree's holders: shares that may be, numbers of their own, at servers that are there, within what there is -/
structure GoodQ (S : List Sv) (N D : Int) (hs : List Hq) : Prop where
  sv : GoodSv S
  n0 : 0 ≤ N
  d0 : 0 < D
  each : ∀ q ∈ hs, GoodH q.h
  none : ∀ q ∈ hs, q.h.asked = false → q.h.NE = 0 ∧ q.h.NP = 0
  uniq : UniqH (lst hs)
  srv : ∀ q ∈ hs, hasB S q.srv = true
  fit : ∀ x, -1 ≤ x → x < (S.length : Int) → fitAt S N D x hs = true
theorem qN_bd {S : List Sv} (g : GoodSv S) {N : Int} (h : 0 ≤ N) (x : Int) : 0 ≤ qN S N x := by
  unfold qN
  split
  · exact h
  · split
    · exact h
    · rename_i v hv; exact (g.each _ v hv).2.2.1
theorem qD_bd {S : List Sv} (g : GoodSv S) {D : Int} (h : 0 < D) (x : Int) : 0 < qD S D x := by
  unfold qD
  split
  · exact h
  · split
    · exact h
    · rename_i v hv; have := g.each _ v hv; omega
theorem GoodQ.at {S : List Sv} {N D : Int} {hs : List Hq} (h : GoodQ S N D hs) {x : Int} (hx : -1 ≤ x ∧ x < (S.length : Int)) : GoodL (qN S N x) (qD S D x) (listAt S x hs) := by
  refine ⟨qN_bd h.sv h.n0 x, qD_bd h.sv h.d0 x, fun y hy => ?_, fun y hy ha => ?_, uniq_at_list h.uniq, h.fit x hx.1 hx.2⟩
  · obtain ⟨q, hq, rfl⟩ := listAt_sub S x hs y hy
    exact h.each q hq
  · obtain ⟨q, hq, rfl⟩ := listAt_sub S x hs y hy
    exact h.none q hq ha
theorem fitH_nil {N D : Int} (n0 : 0 ≤ N) : fitH N D [] = true := fit_le.mpr (by show (0 : Int) * D ≤ N * 1; omega)
theorem GoodQ.nil {S : List Sv} {N D : Int} (g : GoodSv S) (n0 : 0 ≤ N) (d0 : 0 < D) : GoodQ S N D [] :=
  ⟨g, n0, d0, (fun _ h => by cases h), (fun _ h => by cases h), UniqH.nil, (fun _ h => by cases h), fun x _ _ => fitH_nil (qN_bd g n0 x)⟩
theorem mem_set_q {hs : List Hq} {j : Nat} {y z : Hq} (h : z ∈ hs.set j y) : z ∈ hs ∨ z = y := List.mem_or_eq_of_mem_set h
theorem lst_set (hs : List Hq) (j : Nat) (y : Hq) : lst (hs.set j y) = (lst hs).set j y.h := by unfold lst; rw [List.map_set]
theorem lst_erase (hs : List Hq) (j : Nat) : lst (hs.eraseIdx j) = (lst hs).eraseIdx j := by
  unfold lst
  rw [erase_split, erase_split, List.map_append, List.map_take, List.map_drop]
theorem lst_append (a b : List Hq) : lst (a ++ b) = lst a ++ lst b := by unfold lst; rw [List.map_append]
theorem fitsP_at {S : List Sv} {N D s : Int} {hs : List Hq} (h : fitsP S N D s hs = true) {x : Int} (hx : x ∈ pathV S s) : fitAt S N D x hs = true := List.all_eq_true.mp h x hx
theorem GoodQ.snoc {S : List Sv} {N D : Int} {hs : List Hq} (h : GoodQ S N D hs) {s id E P : Int} (hM : MayBe E P) (hsv : hasB S s = true) (hn : findH (lst hs) id = .none) (hf : fitsP S N D s (hs ++ [newQ s id E P]) = true) : GoodQ S N D (hs ++ [newQ s id E P]) := by
  refine ⟨h.sv, h.n0, h.d0, fun q hq => ?_, fun q hq ha => ?_, ?_, fun q hq => ?_, fun x h1 h2 => ?_⟩
  · rcases List.mem_append.mp hq with k | k
    · exact h.each q k
    · simp at k; subst k; exact ⟨hM, fun e => by cases e⟩
  · rcases List.mem_append.mp hq with k | k
    · exact h.none q k ha
    · simp at k; subst k; exact ⟨rfl, rfl⟩
  · rw [lst_append]
    exact h.uniq.snoc (n := newH id E P) (findH_none hn)
  · rcases List.mem_append.mp hq with k | k
    · exact h.srv q k
    · simp at k; subst k; exact hsv
  · cases ho : onB S x s with
    | true => exact fitsP_at hf (on_is.mp ho)
    | false =>
      unfold fitAt
      rw [listAt_append, listAt_one, show (newQ s id E P).srv = s from rfl, ho]
      simp
      exact h.fit x h1 h2
theorem GoodQ.set {S : List Sv} {N D : Int} {hs : List Hq} (h : GoodQ S N D hs) {j : Nat} {q y : Hq} (hj : hs[j]? = some q) (hy : y.srv = q.srv) (hi : y.h.id = q.h.id) (gy : GoodH y.h) (hno : y.h.asked = false → y.h.NE = 0 ∧ y.h.NP = 0) (hf : ∀ x, -1 ≤ x → x < (S.length : Int) → onB S x q.srv = true → fitAt S N D x (hs.set j y) = true) : GoodQ S N D (hs.set j y) := by
  refine ⟨h.sv, h.n0, h.d0, fun z hz => ?_, fun z hz ha => ?_, ?_, fun z hz => ?_, fun x h1 h2 => ?_⟩
  · rcases mem_set_q hz with k | k
    · exact h.each z k
    · subst k; exact gy
  · rcases mem_set_q hz with k | k
    · exact h.none z k ha
    · subst k; exact hno ha
  · rw [lst_set]
    exact h.uniq.set (lst_at hj) hi
  · rcases mem_set_q hz with k | k
    · exact h.srv z k
    · subst k; rw [hy]; exact h.srv q (List.mem_of_getElem? hj)
  · cases ho : onB S x q.srv with
    | true => exact hf x h1 h2 ho
    | false =>
      unfold fitAt
      rw [(at_off hj ho).1 y hy]
      exact h.fit x h1 h2
theorem GoodQ.erase {S : List Sv} {N D : Int} {hs : List Hq} (h : GoodQ S N D hs) {j : Nat} {q : Hq} (hj : hs[j]? = some q) : GoodQ S N D (hs.eraseIdx j) := by
  refine ⟨h.sv, h.n0, h.d0, fun z hz => h.each z (List.mem_of_mem_eraseIdx hz), fun z hz => h.none z (List.mem_of_mem_eraseIdx hz), ?_, fun z hz => h.srv z (List.mem_of_mem_eraseIdx hz), fun x h1 h2 => ?_⟩
  · rw [lst_erase]; exact h.uniq.erase j
  · unfold fitAt
    cases ho : onB S x q.srv with
    | true =>
      obtain ⟨k, hk, _, he⟩ := at_on hj ho
      rw [he]
      exact ((h.at ⟨h1, h2⟩).freed hk).fit
    | false =>
      rw [(at_off hj ho).2]
      exact h.fit x h1 h2
theorem GoodQ.join {S : List Sv} {N D : Int} {hs : List Hq} (h : GoodQ S N D hs) (id s E P : Int) : GoodQ S N D (joinQ S N D hs id s E P).2 := by
  unfold joinQ
  split
  · exact h
  · rename_i q
    obtain ⟨q1, q2⟩ := not_or.mp q
    split
    · exact h
    · rename_i hf
      split
      · rename_i ht
        exact h.snoc (mayB_is q1) (by simpa using q2) hf ht
      · exact h
theorem GoodQ.ask {S : List Sv} {N D : Int} {hs : List Hq} (h : GoodQ S N D hs) (id E P : Int) : GoodQ S N D (askQ S N D hs id E P).2 := by
  unfold askQ
  split
  · exact h
  · rename_i q
    split
    · exact h
    · split
      · exact h
      · rename_i hj
        split
        · exact h
        · split
          · rename_i ht
            exact h.set hj rfl rfl ⟨(h.each _ (List.mem_of_getElem? hj)).now, fun _ => mayB_is q⟩ (fun e => by cases e) (fun x _ _ ho => fitsP_at ht (on_is.mp ho))
          · exact h
theorem GoodQ.settle {S : List Sv} {N D : Int} {hs : List Hq} (h : GoodQ S N D hs) (id : Int) : GoodQ S N D (settleQ hs id).2 := by
  unfold settleQ
  split
  · exact h
  · rename_i hf
    split
    · exact h
    · rename_i q hj
      split
      · rename_i ha
        obtain ⟨y, hy, e⟩ := find_lst hf
        rw [hj] at hy
        cases hy
        have gx := h.each q (List.mem_of_getElem? hj)
        refine h.set hj rfl (show id = q.h.id from e.symm) ⟨gx.next ha, fun e => by cases e⟩ (fun _ => ⟨rfl, rfl⟩) (fun x h1 h2 ho => ?_)
        obtain ⟨k, hk, hs', _⟩ := at_on hj ho
        unfold fitAt
        rw [hs' (doneQ q id) rfl]
        have := ((h.at ⟨h1, h2⟩).settled hk ha).fit
        rwa [e] at this
      · exact h
theorem GoodQ.free {S : List Sv} {N D : Int} {hs : List Hq} (h : GoodQ S N D hs) (id : Int) : GoodQ S N D (freeQ hs id).2 := by
  unfold freeQ
  split
  · exact h
  · rename_i hf
    obtain ⟨y, hy, _⟩ := find_lst hf
    exact h.erase hy
theorem joinQ_len (S : List Sv) (N D : Int) (hs : List Hq) (id s E P : Int) : (joinQ S N D hs id s E P).2.length ≤ hs.length + 1 := by
  unfold joinQ
  split
  · simp
  · split
    · simp
    · split <;> simp
theorem askQ_len (S : List Sv) (N D : Int) (hs : List Hq) (id E P : Int) : (askQ S N D hs id E P).2.length = hs.length := by
  unfold askQ
  split
  · rfl
  · split
    · rfl
    · split
      · rfl
      · split
        · rfl
        · split <;> simp
theorem settleQ_len (hs : List Hq) (id : Int) : (settleQ hs id).2.length = hs.length := by
  unfold settleQ
  split
  · rfl
  · split
    · rfl
    · split <;> simp
theorem freeQ_len (hs : List Hq) (id : Int) : (freeQ hs id).2.length ≤ hs.length := by
  unfold freeQ
  split
  · simp
  · exact List.length_eraseIdx_le ..
end Go.Proofs.YtbonilmlfelmpaaGreat
namespace Go.Proofs.YtbonilmlfelmpaaGreat
open Go.RowKit

/-- what is asked of a ledger: of so much, with such a list -/
abbrev OpL := Int → Int → List Hd → Int × List Hd
def updL (Ls : Int → List Hd) (x : Int) (l : List Hd) : Int → List Hd := fun y => if y = x then l else Ls y
theorem updL_same (Ls : Int → List Hd) (x : Int) : updL Ls x (Ls x) = Ls := by
  funext y
  unfold updL
  split
  · rename_i h; rw [h]
  · rfl
theorem updL_at (Ls : Int → List Hd) (x : Int) (l : List Hd) : updL Ls x l x = l := if_pos rfl
theorem updL_ne (Ls : Int → List Hd) {x y : Int} (l : List Hd) (h : y ≠ x) : updL Ls x l y = Ls y := if_neg h
def stageV (S : List Sv) (N D : Int) (op : OpL) : List Int → (Int → List Hd) → Int × (Int → List Hd)
  | [], Ls => (0, Ls)
  | x :: xs, Ls => if (op (qN S N x) (qD S D x) (Ls x)).1 = 0 then stageV S N D op xs (updL Ls x (op (qN S N x) (qD S D x) (Ls x)).2) else ((op (qN S N x) (qD S D x) (Ls x)).1, updL Ls x (op (qN S N x) (qD S D x) (Ls x)).2)
def eachV (S : List Sv) (N D : Int) : List OpL → List Int → (Int → List Hd) → Int × (Int → List Hd)
  | [], _, Ls => (0, Ls)
  | op :: ops, xs, Ls => if (stageV S N D op xs Ls).1 = 0 then eachV S N D ops xs (stageV S N D op xs Ls).2 else stageV S N D op xs Ls
theorem stage_snoc {S : List Sv} {N D : Int} {op : OpL} {x : Int} {c : Int} {l : List Hd} : ∀ {pre : List Int} {Ls L1 : Int → List Hd}, stageV S N D op pre Ls = (0, L1) → op (qN S N x) (qD S D x) (L1 x) = (c, l) → stageV S N D op (pre ++ [x]) Ls = (c, updL L1 x l) := by
  intro pre
  induction pre with
  | nil =>
    intro Ls L1 h1 h2
    cases h1
    show (if _ then _ else _) = _
    rw [h2]
    split
    · rename_i h; simp only at h; subst h; rfl
    · rfl
  | cons y pre ih =>
    intro Ls L1 h1 h2
    rw [List.cons_append]
    unfold stageV at h1 ⊢
    split at h1
    · rename_i h0
      rw [if_pos h0]
      exact ih h1 h2
    · rename_i h0
      exact absurd (Prod.mk.inj h1).1 h0
theorem stage_stop {S : List Sv} {N D : Int} {op : OpL} {c : Int} (hc : c ≠ 0) (rest : List Int) : ∀ {pre : List Int} {Ls L1 : Int → List Hd}, stageV S N D op pre Ls = (c, L1) → stageV S N D op (pre ++ rest) Ls = (c, L1) := by
  intro pre
  induction pre with
  | nil => intro Ls L1 h; exact absurd (Prod.mk.inj h).1.symm hc
  | cons y pre ih =>
    intro Ls L1 h
    rw [List.cons_append]
    unfold stageV at h ⊢
    split at h
    · rename_i h0; rw [if_pos h0]; exact ih h
    · rename_i h0; rw [if_neg h0]; exact h
theorem stage_all {S : List Sv} {N D : Int} {op : OpL} : ∀ {xs : List Int} {Ls : Int → List Hd}, xs.Nodup → (∀ x ∈ xs, (op (qN S N x) (qD S D x) (Ls x)).1 = 0) → stageV S N D op xs Ls = (0, fun y => if y ∈ xs then (op (qN S N y) (qD S D y) (Ls y)).2 else Ls y) := by
  intro xs
  induction xs with
  | nil => intro Ls _ _; simp [stageV]
  | cons x xs ih =>
    intro Ls hn h
    obtain ⟨n1, n2⟩ := List.nodup_cons.mp hn
    have hne : ∀ y ∈ xs, y ≠ x := fun y hy e => n1 (e ▸ hy)
    unfold stageV
    rw [if_pos (h x (List.mem_cons_self ..)), ih n2 (fun y hy => by rw [updL_ne _ _ (hne y hy)]; exact h y (List.mem_cons_of_mem _ hy))]
    refine Prod.ext rfl (funext fun y => ?_)
    simp only
    by_cases hy : y ∈ xs
    · rw [if_pos hy, if_pos (List.mem_cons_of_mem _ hy), updL_ne _ _ (hne y hy)]
    · rw [if_neg hy]
      by_cases e : y = x
      · subst e
        rw [if_pos (List.mem_cons_self ..), updL_at]
      · rw [if_neg (fun q => by rcases List.mem_cons.mp q with k | k; exact e k; exact hy k), updL_ne _ _ e]
theorem stage_first {S : List Sv} {N D : Int} {op : OpL} {x : Int} {xs : List Int} {Ls : Int → List Hd} {c : Int} (hc : c ≠ 0) (h : op (qN S N x) (qD S D x) (Ls x) = (c, Ls x)) : stageV S N D op (x :: xs) Ls = (c, Ls) := by
  unfold stageV
  rw [h, if_neg hc]
  simp only
  rw [updL_same]
/-- of what changes nothing -/
theorem stage_fit {S : List Sv} {N D : Int} {op : OpL} {p : Int → Int → List Hd → Bool} (ho : ∀ n d l, op n d l = (if p n d l then 0 else 18, l)) : ∀ (xs : List Int) (Ls : Int → List Hd), stageV S N D op xs Ls = (if xs.all (fun x => p (qN S N x) (qD S D x) (Ls x)) then 0 else 18, Ls) := by
  intro xs
  induction xs with
  | nil => intro Ls; rfl
  | cons x xs ih =>
    intro Ls
    unfold stageV
    rw [ho, List.all_cons]
    simp only
    cases hp : p (qN S N x) (qD S D x) (Ls x) with
    | true => simp only [if_true, Bool.true_and]; rw [updL_same, ih]
    | false => simp [updL_same]
def fitsOp (E P E2 P2 : Int) : OpL := fun N D l => (if fitsV N D l E P E2 P2 then 0 else 18, l)
def joinOp (id E P : Int) : OpL := fun N D l => joinV N D l id E P
def askOp (id E P : Int) : OpL := fun N D l => askV N D l id E P
def settleOp (id : Int) : OpL := fun _ _ l => settleV l id
def freeOp (id : Int) : OpL := fun _ _ l => freeV l id
def lsOf (S : List Sv) (hs : List Hq) : Int → List Hd := fun x => listAt S x hs
theorem each_one {S : List Sv} {N D : Int} {op : OpL} {xs : List Int} {Ls : Int → List Hd} : eachV S N D [op] xs Ls = stageV S N D op xs Ls := by
  unfold eachV
  split
  · rename_i h
    unfold eachV
    exact Prod.ext h.symm rfl
  · rfl
theorem join_each {S : List Sv} {N D : Int} {hs : List Hq} (g : GoodQ S N D hs) {id s E P : Int} (hM : MayBe E P) (hsv : -1 ≤ s ∧ s < (S.length : Int)) (hf : findH (lst hs) id = none) :
    eachV S N D [fitsOp E P 0 0, joinOp id E P] (pathV S s) (lsOf S hs) = ((joinQ S N D hs id s E P).1, lsOf S (joinQ S N D hs id s E P).2) := by
  have hj : joinQ S N D hs id s E P = if fitsP S N D s (hs ++ [newQ s id E P]) then (0, hs ++ [newQ s id E P]) else (18, hs) := by
    unfold joinQ
    rw [if_neg (by rw [mayB_yes hM, has_is.mpr hsv]; simp), hf]
  have hat : ∀ x ∈ pathV S s, listAt S x (hs ++ [newQ s id E P]) = listAt S x hs ++ [newH id E P] := fun x hx => by
    rw [listAt_append, listAt_one, show (newQ s id E P).srv = s from rfl, on_is.mpr hx]; rfl
  have hfit : ∀ x ∈ pathV S s, fitsV (qN S N x) (qD S D x) (listAt S x hs) E P 0 0 = fitAt S N D x (hs ++ [newQ s id E P]) := fun x hx => by
    rw [fits_join (id := id) hM]
    unfold fitAt
    rw [hat x hx]
  have hall : (pathV S s).all (fun x => fitsV (qN S N x) (qD S D x) (lsOf S hs x) E P 0 0) = fitsP S N D s (hs ++ [newQ s id E P]) := by
    unfold fitsP
    rw [Bool.eq_iff_iff, List.all_eq_true, List.all_eq_true]
    exact ⟨fun h x hx => (hfit x hx) ▸ h x hx, fun h x hx => (hfit x hx).trans (h x hx)⟩
  rw [hj]
  unfold eachV
  rw [stage_fit (op := fitsOp E P 0 0) (p := fun n d l => fitsV n d l E P 0 0) (fun _ _ _ => rfl), hall]
  cases hq : fitsP S N D s (hs ++ [newQ s id E P]) with
  | false => simp
  | true =>
    simp only [if_true]
    have hop : ∀ x ∈ pathV S s, joinOp id E P (qN S N x) (qD S D x) (lsOf S hs x) = (0, listAt S x (hs ++ [newQ s id E P])) := fun x hx => by
      unfold joinOp joinV lsOf
      have h1 : fitH (qN S N x) (qD S D x) (listAt S x hs ++ [newH id E P]) = true := by
        have := fitsP_at hq hx
        unfold fitAt at this
        rwa [hat x hx] at this
      rw [mayB_yes hM, if_neg (by simp), find_no_at hf, h1, hat x hx]
      rfl
    rw [each_one, stage_all (path_nodup g.sv s hsv.1 hsv.2) (fun x hx => by rw [hop x hx])]
    refine Prod.ext rfl (funext fun y => ?_)
    simp only
    split
    · rename_i hy; rw [hop y hy]; rfl
    · rename_i hy
      unfold lsOf
      rw [listAt_append, listAt_one, show (newQ s id E P).srv = s from rfl, show onB S y s = false from decide_eq_false hy]
      simp
theorem srv_bd {S : List Sv} {N D : Int} {hs : List Hq} (g : GoodQ S N D hs) {j : Nat} {q : Hq} (hj : hs[j]? = some q) : -1 ≤ q.srv ∧ q.srv < (S.length : Int) := has_is.mp (g.srv q (List.mem_of_getElem? hj))
theorem ask_each {S : List Sv} {N D : Int} {hs : List Hq} (g : GoodQ S N D hs) {id E P : Int} {j : Nat} {q : Hq} (hM : MayBe E P) (hf : findH (lst hs) id = some j) (hj : hs[j]? = some q) (ha : q.h.asked = false) :
    eachV S N D [fitsOp E P q.h.E q.h.P, askOp id E P] (pathV S q.srv) (lsOf S hs) = ((askQ S N D hs id E P).1, lsOf S (askQ S N D hs id E P).2) := by
  have hsv := srv_bd g hj
  have hid : q.h.id = id := by obtain ⟨y, hy, e⟩ := find_lst hf; rw [hj] at hy; cases hy; exact e
  have hjq : askQ S N D hs id E P = if fitsP S N D q.srv (hs.set j (askQ1 q E P)) then (0, hs.set j (askQ1 q E P)) else (18, hs) := by
    unfold askQ
    rw [if_neg (by rw [mayB_yes hM]; simp), hf]
    simp only [hj]
    rw [if_neg (by rw [ha]; simp)]
  have hfit : ∀ x ∈ pathV S q.srv, fitsV (qN S N x) (qD S D x) (listAt S x hs) E P q.h.E q.h.P = fitAt S N D x (hs.set j (askQ1 q E P)) := fun x hx => by
    obtain ⟨k, hk, hset, _⟩ := at_on hj (on_is.mpr hx)
    have hb := path_bd g.sv _ hsv.1 hsv.2 x hx
    rw [fits_ask (g.at ⟨hb.1, hb.2.2⟩) hk ha hM]
    unfold fitAt
    rw [hset (askQ1 q E P) rfl]
    rfl
  have hall : (pathV S q.srv).all (fun x => fitsV (qN S N x) (qD S D x) (lsOf S hs x) E P q.h.E q.h.P) = fitsP S N D q.srv (hs.set j (askQ1 q E P)) := by
    unfold fitsP
    rw [Bool.eq_iff_iff, List.all_eq_true, List.all_eq_true]
    exact ⟨fun h x hx => (hfit x hx) ▸ h x hx, fun h x hx => (hfit x hx).trans (h x hx)⟩
  rw [hjq]
  unfold eachV
  rw [stage_fit (op := fitsOp E P q.h.E q.h.P) (p := fun n d l => fitsV n d l E P q.h.E q.h.P) (fun _ _ _ => rfl), hall]
  cases hq : fitsP S N D q.srv (hs.set j (askQ1 q E P)) with
  | false => simp
  | true =>
    simp only [if_true]
    have hop : ∀ x ∈ pathV S q.srv, askOp id E P (qN S N x) (qD S D x) (lsOf S hs x) = (0, listAt S x (hs.set j (askQ1 q E P))) := fun x hx => by
      obtain ⟨k, hk, hset, _⟩ := at_on hj (on_is.mpr hx)
      unfold askOp askV lsOf
      have h1 : fitH (qN S N x) (qD S D x) ((listAt S x hs).set k (askH q.h E P)) = true := by
        have := fitsP_at hq hx
        unfold fitAt at this
        rw [hset (askQ1 q E P) rfl] at this
        exact this
      rw [mayB_yes hM, if_neg (by simp), find_on g.uniq hk hid]
      simp only [hk]
      rw [if_neg (by rw [ha]; simp), h1, hset (askQ1 q E P) rfl]
      rfl
    rw [each_one, stage_all (path_nodup g.sv _ hsv.1 hsv.2) (fun x hx => by rw [hop x hx])]
    refine Prod.ext rfl (funext fun y => ?_)
    simp only
    split
    · rename_i hy; rw [hop y hy]; rfl
    · rename_i hy
      unfold lsOf
      exact ((at_off hj (decide_eq_false hy)).1 (askQ1 q E P) rfl).symm
theorem settle_each {S : List Sv} {N D : Int} {hs : List Hq} (g : GoodQ S N D hs) {id : Int} {j : Nat} {q : Hq} (hf : findH (lst hs) id = some j) (hj : hs[j]? = some q) :
    eachV S N D [settleOp id] (pathV S q.srv) (lsOf S hs) = ((settleQ hs id).1, lsOf S (settleQ hs id).2) := by
  have hsv := srv_bd g hj
  have hid : q.h.id = id := by obtain ⟨y, hy, e⟩ := find_lst hf; rw [hj] at hy; cases hy; exact e
  have hjq : settleQ hs id = if q.h.asked then (0, hs.set j (doneQ q id)) else (13, hs) := by
    unfold settleQ
    rw [hf]
    simp only [hj]
  have hop : ∀ x ∈ pathV S q.srv, settleOp id (qN S N x) (qD S D x) (lsOf S hs x) = if q.h.asked then (0, listAt S x (hs.set j (doneQ q id))) else (13, listAt S x hs) := fun x hx => by
    obtain ⟨k, hk, hset, _⟩ := at_on hj (on_is.mpr hx)
    unfold settleOp settleV lsOf
    rw [find_on g.uniq hk hid]
    simp only [hk]
    rw [hset (doneQ q id) rfl]
    rfl
  rw [hjq, each_one]
  cases ha : q.h.asked with
  | false =>
    obtain ⟨t, ht⟩ := path_head g.sv hsv
    rw [ht]
    have := hop q.srv (by rw [ht]; exact List.mem_cons_self ..)
    rw [ha] at this
    simp at this ⊢
    exact stage_first (by omega) this
  | true =>
    simp only [if_true]
    rw [stage_all (path_nodup g.sv _ hsv.1 hsv.2) (fun x hx => by rw [hop x hx, ha]; rfl)]
    refine Prod.ext rfl (funext fun y => ?_)
    simp only
    split
    · rename_i hy; rw [hop y hy, ha]; rfl
    · rename_i hy
      unfold lsOf
      exact ((at_off hj (decide_eq_false hy)).1 (doneQ q id) rfl).symm
theorem free_each {S : List Sv} {N D : Int} {hs : List Hq} (g : GoodQ S N D hs) {id : Int} {j : Nat} {q : Hq} (hf : findH (lst hs) id = some j) (hj : hs[j]? = some q) :
    eachV S N D [freeOp id] (pathV S q.srv) (lsOf S hs) = ((freeQ hs id).1, lsOf S (freeQ hs id).2) := by
  have hsv := srv_bd g hj
  have hid : q.h.id = id := by obtain ⟨y, hy, e⟩ := find_lst hf; rw [hj] at hy; cases hy; exact e
  have hjq : freeQ hs id = (0, hs.eraseIdx j) := by
    unfold freeQ
    rw [hf]
  have hop : ∀ x ∈ pathV S q.srv, freeOp id (qN S N x) (qD S D x) (lsOf S hs x) = (0, listAt S x (hs.eraseIdx j)) := fun x hx => by
    obtain ⟨k, hk, _, he⟩ := at_on hj (on_is.mpr hx)
    unfold freeOp freeV lsOf
    rw [find_on g.uniq hk hid, he]
  rw [hjq, each_one, stage_all (path_nodup g.sv _ hsv.1 hsv.2) (fun x hx => by rw [hop x hx])]
  refine Prod.ext rfl (funext fun y => ?_)
  simp only
  split
  · rename_i hy; rw [hop y hy]; rfl
  · rename_i hy
    unfold lsOf
    exact ((at_off hj (decide_eq_false hy)).2).symm
/-- what the whole's ledger tells of a holder -/
theorem of_whole {S : List Sv} {N D : Int} {hs : List Hq} (g : GoodQ S N D hs) {id : Int} {j : Nat} {q : Hq} (hf : findH (lst hs) id = some j) (hj : hs[j]? = some q) : ofH (listAt S (-1) hs) id = ((q.h.E, q.h.P), (q.h.NE, q.h.NP), true) := by
  rw [listAt_whole g.sv g.srv]
  unfold ofH
  rw [hf]
  simp only [lst_at hj]
end Go.Proofs.YtbonilmlfelmpaaGreat
