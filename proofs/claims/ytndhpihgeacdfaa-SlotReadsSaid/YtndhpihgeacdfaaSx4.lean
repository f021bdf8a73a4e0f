/-
  Plain facts: rows by numbers may be; counts of parts.
-/
import Derived.Test.YtndhpihgeacdfaaSx3
namespace Go.Proofs.Ytndhpihgeacdfaa
open Go.RowKit

theorem runM_bd (k : Nat) (c z : Int) : c + 1 ≤ (runM k c z).core ∧ (runM k c z).core ≤ c + 8 ∧ (∃ b : Int, 0 ≤ b ∧ b ≤ 31 ∧ (runM k c z).id = b * 8 + k) ∧ 1 ≤ (runM k c z).idx ∧ (runM k c z).idx ≤ 1073741824 := by
  have a := and_low z 7 (by omega) (by omega)
  have b := and_low (z / 8) 31 (by omega) (by omega)
  have d := and_low z 1073741823 (by omega) (by omega)
  unfold runM coreM
  refine ⟨by simp only; omega, by simp only; omega, ⟨_, b.1, b.2, rfl⟩, by simp only; omega, by simp only; omega⟩
theorem runsM_each : ∀ (zs : List Int) (k : Nat) (c : Int), ∀ r ∈ runsM k c zs, c + 1 ≤ r.core ∧ r.core ≤ c + 8 * zs.length ∧ (∃ (b : Int) (j : Nat), 0 ≤ b ∧ b ≤ 31 ∧ k ≤ j ∧ j < k + zs.length ∧ r.id = b * 8 + j) ∧ 1 ≤ r.idx ∧ r.idx ≤ 1073741824
  | [], k, c, r, h => by simp [runsM] at h
  | z :: zs, k, c, r, h => by
    rw [runsM] at h
    have hm := runM_bd k c z
    rw [List.length_cons]
    rcases List.mem_cons.mp h with e | e
    · rw [e]
      obtain ⟨h1, h2, ⟨b, b0, b1, hb⟩, h3, h4⟩ := hm
      exact ⟨h1, by omega, ⟨b, k, b0, b1, by omega, by omega, hb⟩, h3, h4⟩
    · obtain ⟨h1, h2, ⟨b, j, b0, b1, j0, j1, hb⟩, h3, h4⟩ := runsM_each zs (k + 1) (coreM c z) r e
      have a1 : c + 1 ≤ coreM c z := hm.1
      have a2 : coreM c z ≤ c + 8 := hm.2.1
      exact ⟨by omega, by omega, ⟨b, j, b0, b1, by omega, by omega, hb⟩, h3, h4⟩
theorem runsM_pair : ∀ (zs : List Int) (k : Nat) (c : Int), k + zs.length ≤ 8 → (runsM k c zs).Pairwise (fun a b => a.id ≠ b.id) ∧ (runsM k c zs).Pairwise (fun a b => a.core < b.core)
  | [], k, c, _ => by simp [runsM]
  | z :: zs, k, c, h => by
    rw [List.length_cons] at h
    have ih := runsM_pair zs (k + 1) (coreM c z) (by omega)
    have hm := runM_bd k c z
    rw [runsM, List.pairwise_cons, List.pairwise_cons]
    refine ⟨⟨fun r hr => ?_, ih.1⟩, ⟨fun r hr => ?_, ih.2⟩⟩
    · obtain ⟨_, _, ⟨b, j, b0, b1, j0, j1, hb⟩, _⟩ := runsM_each zs (k + 1) (coreM c z) r hr
      obtain ⟨_, _, ⟨b', c0, c1, hb'⟩, _⟩ := hm
      rw [hb, hb']
      omega
    · have := (runsM_each zs (k + 1) (coreM c z) r hr).1
      show coreM c z < r.core
      omega
theorem slotM_may (f : Int) (i : Nat) (zs : List Int) (m : Int) (f0 : 0 ≤ f) (f1 : f ≤ 1073741823) (hi : i ≤ 12) (m0 : 64 ≤ m) (m1 : m ≤ 1024) : MayS (slotM f i zs) m := by
  have hl : (zs.take 8).length ≤ 8 := by rw [List.length_take]; omega
  have hp := runsM_pair (zs.take 8) 0 (-1) (by omega)
  refine ⟨by omega, m1, by show (0 : Int) ≤ f + i; omega, by show f + (i : Int) ≤ _; omega, ⟨fun r hr => ?_, ?_, ?_⟩⟩
  · rw [List.take_length] at hr
    obtain ⟨h1, h2, ⟨b, j, b0, b1, j0, j1, hb⟩, h3, h4⟩ := runsM_each (zs.take 8) 0 (-1) r hr
    rw [hb]
    omega
  · rw [List.take_length]; exact hp.1
  · rw [List.take_length]; exact hp.2
theorem made_at {f : Int} {l : List (List Int)} {j : Nat} {s : Sk} (h : (madeV f l)[j]? = some s) : j < 12 ∧ ∃ zs, s = slotM f j zs := by
  have hl := lt_of_get h
  have h12 := (made_small f l).2
  refine ⟨by omega, ?_⟩
  unfold madeV at h
  rw [List.getElem?_mapIdx] at h
  cases hz : (l.take 12)[j]? with
  | none => rw [hz] at h; cases h
  | some zs => rw [hz] at h; simp at h; exact ⟨zs, h.symm⟩
/-- a row by numbers may be -/
theorem made_row {f : Int} {l : List (List Int)} {m : Int} (f0 : 0 ≤ f) (f1 : f ≤ 1073741823) (m0 : 64 ≤ m) (m1 : m ≤ 1024) : RowTo (madeV f l) m (madeV f l).length := by
  intro j s hj hs
  obtain ⟨j12, zs, rfl⟩ := made_at hs
  refine ⟨slotM_may f j zs m f0 f1 (by omega) m0 m1, fun t h0 ht => ?_⟩
  obtain ⟨_, zs', rfl⟩ := made_at ht
  show f + (j : Int) = f + ((j - 1 : Nat) : Int) + 1
  omega
theorem made_ids {f : Int} {l : List (List Int)} : ∀ r ∈ allR (madeV f l), 0 ≤ r.id ∧ r.id ≤ 255 := by
  intro r hr
  unfold allR at hr
  rw [List.mem_flatMap] at hr
  obtain ⟨s, hs, hr⟩ := hr
  obtain ⟨j, hj, rfl⟩ := List.getElem_of_mem hs
  obtain ⟨_, zs, he⟩ := made_at (List.getElem?_eq_getElem hj)
  rw [he] at hr
  have hl : (zs.take 8).length ≤ 8 := by rw [List.length_take]; omega
  obtain ⟨h1, h2, ⟨b, j, b0, b1, j0, j1, hb⟩, h3, h4⟩ := runsM_each (zs.take 8) 0 (-1) r hr
  rw [hb]
  omega
/-! ### parts -/
theorem row_take {l : List Sk} {m : Int} (h : RowTo l m l.length) (k : Nat) : RowTo (l.take k) m (l.take k).length := by
  intro j s hj hs
  rw [List.length_take] at hj
  rw [List.getElem?_take_of_lt (by omega)] at hs
  obtain ⟨h1, h2⟩ := h j s (by omega) hs
  refine ⟨h1, fun t h0 ht => h2 t h0 ?_⟩
  rwa [List.getElem?_take_of_lt (by omega)] at ht
theorem row_drop {l : List Sk} {m : Int} (h : RowTo l m l.length) (k : Nat) : RowTo (l.drop k) m (l.drop k).length := by
  intro j s hj hs
  rw [List.length_drop] at hj
  rw [List.getElem?_drop] at hs
  obtain ⟨h1, h2⟩ := h (k + j) s (by omega) hs
  refine ⟨h1, fun t h0 ht => h2 t (by omega) ?_⟩
  rw [List.getElem?_drop] at ht
  rw [show k + j - 1 = k + (j - 1) by omega]
  exact ht
theorem all_append (a b : List Sk) : allR (a ++ b) = allR a ++ allR b := by unfold allR; simp
theorem qu_append (a b : List Ru) (id : Int) : quU (a ++ b) id = quU a id + quU b id := by unfold quU; rw [List.countP_append]
theorem em_append (a b : List Sk) (m : Int) : emS (a ++ b) m = emS a m + emS b m := by unfold emS; simp
theorem mv_le2 (id : Int) : ∀ (l : List Ru) (st : Nat × Option Int), st.1 ≤ (l.foldl (mvStep id) st).1
  | [], _ => Nat.le_refl _
  | r :: l, st => by
    have h := mv_le2 id l (mvStep id st r)
    have h2 : st.1 ≤ (mvStep id st r).1 := by
      unfold mvStep
      split
      · simp only; omega
      · omega
    rw [List.foldl_cons]
    omega
def mvD (c : Option Int) (x : Int) : Nat := match c with | some c => if x = c then 0 else 1 | none => 0
theorem mvD_le (c : Option Int) (x : Int) : mvD c x ≤ 1 := by unfold mvD; cases c with | none => simp | some c => simp only; split <;> omega
theorem mv_yes {r : Ru} {id : Int} (e : r.id = id) (n : Nat) (c : Option Int) : mvStep id (n, c) r = (n + mvD c r.core, some r.core) := by unfold mvStep; rw [if_pos e]; rfl
theorem mv_no {r : Ru} {id : Int} (e : ¬ r.id = id) (st : Nat × Option Int) : mvStep id st r = st := by unfold mvStep; rw [if_neg e]
theorem mv_shift (id : Int) : ∀ (l : List Ru) (n m : Nat) (c : Option Int), (l.foldl (mvStep id) (n, c)).1 + m = (l.foldl (mvStep id) (m, c)).1 + n
  | [], n, m, c => by simp; omega
  | y :: l, n, m, c => by
    rw [List.foldl_cons, List.foldl_cons]
    by_cases e : y.id = id
    · rw [mv_yes e, mv_yes e]
      have := mv_shift id l (n + mvD c y.core) (m + mvD c y.core) (some y.core)
      omega
    · rw [mv_no e, mv_no e]
      exact mv_shift id l n m c
theorem mv_from (id : Int) : ∀ (l : List Ru) (n m : Nat) (c d : Option Int), (l.foldl (mvStep id) (n, c)).1 + m ≤ (l.foldl (mvStep id) (m, d)).1 + n + 1
  | [], n, m, c, d => by simp; omega
  | r :: l, n, m, c, d => by
    rw [List.foldl_cons, List.foldl_cons]
    by_cases e : r.id = id
    · rw [mv_yes e, mv_yes e]
      have h := mv_shift id l (n + mvD c r.core) (m + mvD d r.core) (some r.core)
      have q1 := mvD_le c r.core
      omega
    · rw [mv_no e, mv_no e]
      exact mv_from id l n m c d
theorem mv_parts (a b : List Ru) (id : Int) : (mvU a id).1 ≤ (mvU (a ++ b) id).1 ∧ (mvU (a ++ b) id).1 ≤ (mvU a id).1 + (mvU b id).1 + 1 := by
  have e : mvU (a ++ b) id = b.foldl (mvStep id) (mvU a id) := by unfold mvU; rw [List.foldl_append]
  rw [e]
  refine ⟨mv_le2 id b _, ?_⟩
  have := mv_from id b (mvU a id).1 0 (mvU a id).2 none
  simp only [Nat.add_zero] at this
  have h2 : (b.foldl (mvStep id) (0, none)).1 = (mvU b id).1 := rfl
  rw [h2] at this
  have h3 : ((mvU a id).1, (mvU a id).2) = mvU a id := rfl
  rw [h3] at this
  omega
/-- who moves runs more often than it moves -/
theorem mv_lt : ∀ (l : List Ru) (id : Int), (mvU l id).1 = 0 ∨ (mvU l id).1 + 1 ≤ quU l id := by
  have key : ∀ (l : List Ru) (id : Int) (n : Nat) (c : Option Int), (l.foldl (mvStep id) (n, c)).1 ≤ n + quU l id ∧ (c = none → (l.foldl (mvStep id) (n, c)).1 = n ∨ (l.foldl (mvStep id) (n, c)).1 + 1 ≤ n + quU l id) := by
    intro l id
    induction l with
    | nil => intro n c; simp [quU]
    | cons r l ih =>
      intro n c
      rw [List.foldl_cons]
      by_cases e : r.id = id
      · have hq : quU (r :: l) id = quU l id + 1 := by unfold quU; rw [List.countP_cons, if_pos (by simp [e])]
        rw [mv_yes e, hq]
        have h := (ih (n + mvD c r.core) (some r.core)).1
        have q1 := mvD_le c r.core
        refine ⟨by omega, fun hc => ?_⟩
        subst hc
        right
        have z : mvD none r.core = 0 := rfl
        rw [z] at h ⊢
        omega
      · have hq : quU (r :: l) id = quU l id := by unfold quU; rw [List.countP_cons, if_neg (by simp [e])]; rfl
        rw [mv_no e, hq]
        exact ih n c
  intro l id
  have h := (key l id 0 none).2 rfl
  have e : mvU l id = l.foldl (mvStep id) (0, none) := rfl
  rw [e]
  simpa using h
/-- all runs, counted by their IDs -/
def sumQ (l : List Ru) : Nat → Nat
  | 0 => 0
  | n + 1 => sumQ l n + quU l (n : Int)
theorem sumQ_cons (r : Ru) (l : List Ru) (n : Nat) (h : 0 ≤ r.id) : sumQ (r :: l) n = sumQ l n + (if r.id < n then 1 else 0) := by
  induction n with
  | zero => simp [sumQ]; omega
  | succ n ih =>
    rw [sumQ, sumQ, ih]
    by_cases e : r.id = (n : Int)
    · have hq : quU (r :: l) (n : Int) = quU l (n : Int) + 1 := by unfold quU; rw [List.countP_cons, if_pos (by simp [e])]
      rw [hq, if_neg (by omega), if_pos (by omega)]
      omega
    · have hq : quU (r :: l) (n : Int) = quU l (n : Int) := by unfold quU; rw [List.countP_cons, if_neg (by simp [e])]; rfl
      rw [hq]
      by_cases g : r.id < n
      · rw [if_pos g, if_pos (by omega)]; omega
      · rw [if_neg g, if_neg (by omega)]; omega
theorem sumQ_all : ∀ (l : List Ru) (n : Nat), (∀ r ∈ l, 0 ≤ r.id ∧ r.id < n) → sumQ l n = l.length
  | [], n, _ => by
    induction n with
    | zero => rfl
    | succ n ih => rw [sumQ, ih (by simp)]; simp [quU]
  | r :: l, n, h => by
    have g := h r List.mem_cons_self
    rw [sumQ_cons r l n g.1, sumQ_all l n fun x hx => h x (List.mem_cons_of_mem _ hx), if_pos g.2, List.length_cons]
theorem em_all : ∀ (l : List Sk) (m : Int), emS l m + (allR l).length = m * l.length
  | [], m => by simp [emS, allR]
  | s :: l, m => by
    have h := em_all l m
    have e1 : emS (s :: l) m = (m - s.runs.length) + emS l m := by unfold emS; simp
    have e2 : allR (s :: l) = s.runs ++ allR l := by unfold allR; simp
    rw [e1, e2, List.length_append, List.length_cons]
    have e3 : m * ((l.length + 1 : Nat) : Int) = m * l.length + m := by rw [Int.natCast_add, Int.mul_add]; simp
    rw [e3]
    push_cast
    omega
end Go.Proofs.Ytndhpihgeacdfaa
