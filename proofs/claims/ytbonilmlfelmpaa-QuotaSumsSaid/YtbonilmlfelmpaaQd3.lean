/-
  QuotaSums: plain facts: shares of a sixty-fourth, counted along paths; a row of numbers that is counted up.
-/
import Derived.Test.YtbonilmlfelmpaaQc2
namespace Go.Proofs.Ytbonilmlfelmpaa
open Go.RowKit

/-- servers of all -/
def srvO (zs : List Int) (i : Nat) : Sv := ⟨parV i (zs.getD i 0), 1, 1⟩
def servO (zs : List Int) (n : Nat) : List Sv := (List.range n).map (srvO zs)
theorem servO_len (zs : List Int) (n : Nat) : (servO zs n).length = n := by unfold servO; simp
theorem servO_succ (zs : List Int) (n : Nat) : servO zs (n + 1) = servO zs n ++ [srvO zs n] := by unfold servO; rw [List.range_succ, List.map_append]; rfl
theorem servO_at {zs : List Int} {n i : Nat} {v : Sv} (h : (servO zs n)[i]? = some v) : v = srvO zs i := by
  unfold servO at h
  rw [List.getElem?_map] at h
  rcases Nat.lt_or_ge i n with q | q
  · rw [List.getElem?_range q] at h; cases h; rfl
  · rw [List.getElem?_eq_none (by simpa using q)] at h; cases h
theorem servO_good (zs : List Int) {n : Nat} (hn : n ≤ 16) : GoodSv (servO zs n) := by
  refine ⟨by rw [servO_len]; exact hn, fun i v hv => ?_⟩
  rw [servO_at hv]
  have h1 := parV_bd i (zs.getD i 0)
  unfold srvO
  simp only
  omega
theorem qN_one (zs : List Int) (n : Nat) (x : Int) : qN (servO zs n) 1 x = 1 := by
  unfold qN
  split
  · rfl
  · split
    · rfl
    · rename_i v hv; rw [servO_at hv]; rfl
theorem qD_one (zs : List Int) (n : Nat) (x : Int) : qD (servO zs n) 1 x = 1 := by
  unfold qD
  split
  · rfl
  · split
    · rfl
    · rename_i v hv; rw [servO_at hv]; rfl
/-- as many of a sixty-fourth -/
theorem sum_64 : ∀ (l : List Hd), (∀ h ∈ l, holdsV h = (1, 64)) → (sumH l).1 * 64 = (l.length : Int) * (sumH l).2 ∧ 0 < (sumH l).2 := by
  intro l
  induction l with
  | nil => intro _; exact ⟨by rfl, by show (0 : Int) < 1; omega⟩
  | cons x l ih =>
    intro h
    obtain ⟨h1, h2⟩ := ih (fun y hy => h y (List.mem_cons_of_mem _ hy))
    rw [sumH_cons, h x (List.mem_cons_self ..), List.length_cons]
    simp only
    refine ⟨?_, by omega⟩
    have : ((l.length + 1 : Nat) : Int) = (l.length : Int) + 1 := by omega
    rw [this, Int.add_mul, Int.one_mul]
    have e : (l.length : Int) * (64 * (sumH l).2) = 64 * ((sumH l).1 * 64) := by rw [h1]; grind
    grind
/-- the joins so far -/
def joinsO (sv : Nat → Int) (i : Nat) : List Hq := (List.range i).map (fun k => newQ (sv k) (k : Int) 1 64)
theorem joinsO_succ (sv : Nat → Int) (i : Nat) : joinsO sv (i + 1) = joinsO sv i ++ [newQ (sv i) (i : Int) 1 64] := by unfold joinsO; rw [List.range_succ, List.map_append]; rfl
theorem joinsO_len (sv : Nat → Int) (i : Nat) : (joinsO sv i).length = i := by unfold joinsO; simp
theorem joinsO_mem {sv : Nat → Int} {i : Nat} {q : Hq} (h : q ∈ joinsO sv i) : ∃ k, k < i ∧ q = newQ (sv k) (k : Int) 1 64 := by
  unfold joinsO at h
  obtain ⟨k, hk, rfl⟩ := List.mem_map.mp h
  exact ⟨k, List.mem_range.mp hk, rfl⟩
theorem joinsO_all {S : List Sv} {sv : Nat → Int} {i : Nat} {x : Int} : ∀ h ∈ listAt S x (joinsO sv i), holdsV h = (1, 64) := fun h hh => by
  obtain ⟨q, hq, rfl⟩ := listAt_sub S x _ h hh
  obtain ⟨k, _, rfl⟩ := joinsO_mem hq
  exact holdsV_new _ _ _
theorem joinsO_fit (zs : List Int) (n : Nat) (sv : Nat → Int) {i : Nat} (hi : i ≤ 64) (x : Int) : fitAt (servO zs n) 1 1 x (joinsO sv i) = true := by
  unfold fitAt
  rw [qN_one, qD_one]
  refine fit_le.mpr ?_
  obtain ⟨h1, h2⟩ := sum_64 (listAt (servO zs n) x (joinsO sv i)) joinsO_all
  have h3 := listAt_len (servO zs n) x (joinsO sv i)
  rw [joinsO_len] at h3
  have h4 : ((listAt (servO zs n) x (joinsO sv i)).length : Int) * (sumH (listAt (servO zs n) x (joinsO sv i))).2 ≤ 64 * (sumH (listAt (servO zs n) x (joinsO sv i))).2 := Int.mul_le_mul_of_nonneg_right (by omega) (by omega)
  omega
theorem joinsO_next (zs : List Int) (n : Nat) (sv : Nat → Int) {i : Nat} (hi : i ≤ 20) (hs : -1 ≤ sv i ∧ sv i < (n : Int)) : joinQ (servO zs n) 1 1 (joinsO sv i) (i : Int) (sv i) 1 64 = (0, joinsO sv (i + 1)) := by
  have hf : findH (lst (joinsO sv i)) (i : Int) = none := findH_of fun h hh => by
    obtain ⟨q, hq, rfl⟩ := List.mem_map.mp hh
    obtain ⟨k, hk, rfl⟩ := joinsO_mem hq
    show ((k : Int)) ≠ (i : Int)
    omega
  unfold joinQ
  rw [if_neg (by rw [mayB_yes (show MayBe 1 64 by unfold MayBe; omega), has_is.mpr (by rw [servO_len]; exact hs)]; simp), hf, ← joinsO_succ]
  simp only
  have : fitsP (servO zs n) 1 1 (sv i) (joinsO sv (i + 1)) = true := List.all_eq_true.mpr fun x _ => joinsO_fit zs n sv (by omega) x
  rw [this]
  rfl
/-- how many hold at a place -/
def cntO (S : List Sv) (sv : Nat → Int) (i : Nat) (k : Nat) : Int := ((listAt S ((k : Int) - 1) (joinsO sv i)).length : Int)
theorem cntO_bd (S : List Sv) (sv : Nat → Int) (i k : Nat) : 0 ≤ cntO S sv i k ∧ cntO S sv i k ≤ i := by
  have := listAt_len S ((k : Int) - 1) (joinsO sv i)
  rw [joinsO_len] at this
  unfold cntO
  omega
theorem cntO_succ (S : List Sv) (sv : Nat → Int) (i k : Nat) : cntO S sv (i + 1) k = cntO S sv i k + (if ((k : Int) - 1) ∈ pathV S (sv i) then 1 else 0) := by
  unfold cntO
  rw [joinsO_succ, listAt_append, listAt_one, List.length_append]
  by_cases h : ((k : Int) - 1) ∈ pathV S (sv i)
  · rw [if_pos h, if_pos (show onB S ((k : Int) - 1) (newQ (sv i) (i : Int) 1 64).srv = true from on_is.mpr h)]
    simp
  · rw [if_neg h, if_neg (show ¬ onB S ((k : Int) - 1) (newQ (sv i) (i : Int) 1 64).srv = true from fun q => h (on_is.mp q))]
    simp
theorem cntO_zero (S : List Sv) (sv : Nat → Int) (k : Nat) : cntO S sv 0 k = 0 := by unfold cntO joinsO; simp [listAt, lst]
/-- seven numbers -/
def seven (f : Nat → Int) : Array Value := #[.int .i64 (f 0), .int .i64 (f 1), .int .i64 (f 2), .int .i64 (f 3), .int .i64 (f 4), .int .i64 (f 5), .int .i64 (f 6)]
theorem seven_at (f : Nat → Int) {k : Nat} (h : k < 7) : (seven f)[k]? = some (.int .i64 (f k)) := by
  match k, h with
  | 0, _ => rfl
  | 1, _ => rfl
  | 2, _ => rfl
  | 3, _ => rfl
  | 4, _ => rfl
  | 5, _ => rfl
  | 6, _ => rfl
  | k + 7, h => omega
theorem seven_set (f : Nat → Int) {k : Nat} (h : k < 7) (x : Int) : (seven f).setIfInBounds k (.int .i64 x) = seven (fun j => if j = k then x else f j) := by
  match k, h with
  | 0, _ => rfl
  | 1, _ => rfl
  | 2, _ => rfl
  | 3, _ => rfl
  | 4, _ => rfl
  | 5, _ => rfl
  | 6, _ => rfl
  | k + 7, h => omega
/-- where the i-th joins: by a rest -/
def restV (n : Nat) (z : Int) : Int := (z.tmod (n : Int) + n).tmod (n : Int) - 1
theorem restV_bd {n : Nat} (hn : 0 < n) (z : Int) : -1 ≤ restV n z ∧ restV n z < (n : Int) - 1 := by
  have h0 : (0 : Int) < (n : Int) := by omega
  have h1 := Int.tmod_lt_of_pos z h0
  have h2 : -(n : Int) < z.tmod (n : Int) := by
    have := Int.tmod_lt_of_pos (-z) h0
    rw [Int.neg_tmod] at this
    omega
  have h3 := Int.tmod_nonneg (n : Int) (show 0 ≤ z.tmod (n : Int) + n by omega)
  have h4 := Int.tmod_lt_of_pos (z.tmod (n : Int) + n) h0
  unfold restV
  omega
end Go.Proofs.Ytbonilmlfelmpaa
