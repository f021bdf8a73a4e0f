/-
  The laws' len2 (regattalaw08): how many events a calendar holds after the puts; contract.
-/
import Derived.Test.YtfeemdljlikpbaaCi2
namespace Go.Proofs.Ytfeemdljlikpbaa
open Go.RowKit

/-- one more is put, if there is none of its key -/
def putV (es : List Ev) (y : Ev) : List Ev := if placeV es y.i y.k = -1 then insV y es else es
/-- after the puts of the first i, made near -/
def putsV (l : List Ev) (i : Nat) : List Ev := (l.take i).foldl (fun es x => putV es (nearE x)) []
theorem putsV_zero (l : List Ev) : putsV l 0 = [] := rfl
theorem putsV_next {l : List Ev} {i : Nat} {x : Ev} (h : l[i]? = some x) : putsV l (i + 1) = putV (putsV l i) (nearE x) := by
  unfold putsV
  rw [List.take_add_one, h, List.foldl_append]
  rfl
theorem putV_len (es : List Ev) (y : Ev) : (putV es y).length ≤ es.length + 1 := by
  unfold putV
  split
  · rw [insV_len]; omega
  · omega
theorem putsV_len (l : List Ev) (i : Nat) : (putsV l i).length ≤ i := by
  induction i with
  | zero => simp [putsV_zero]
  | succ i ih =>
    rcases h : l[i]? with _ | x
    · have : putsV l (i + 1) = putsV l i := by unfold putsV; rw [List.take_add_one, h]; simp
      rw [this]; omega
    · rw [putsV_next h]
      have := putV_len (putsV l i) (nearE x)
      omega
theorem putV_mem {es : List Ev} {y z : Ev} (h : z ∈ putV es y) : z = y ∨ z ∈ es := by
  unfold putV at h
  split at h
  · exact mem_insV.mp h
  · exact .inr h
theorem putsV_near {l : List Ev} {i : Nat} : ∀ z ∈ putsV l i, ∃ x, z = nearE x := by
  induction i with
  | zero => simp [putsV_zero]
  | succ i ih =>
    intro z hz
    rcases h : l[i]? with _ | x
    · have : putsV l (i + 1) = putsV l i := by unfold putsV; rw [List.take_add_one, h]; simp
      rw [this] at hz
      exact ih z hz
    · rw [putsV_next h] at hz
      rcases putV_mem hz with rfl | q
      · exact ⟨x, rfl⟩
      · exact ih z q
/-- is there one of that key -/
def hasV (es : List Ev) (i k : Nat) : Bool := decide (0 ≤ placeV es (i : Int) (k : Int))
theorem hasV_iff {es : List Ev} {i k : Nat} : hasV es i k = true ↔ ∃ x ∈ es, x.i = (i : Int) ∧ x.k = (k : Int) := by
  unfold hasV
  have pb := placeV_bound es (i : Int) (k : Int)
  constructor
  · intro h
    have h := of_decide_eq_true h
    obtain ⟨p, hp⟩ : ∃ p : Nat, placeV es (i : Int) (k : Int) = p := ⟨(placeV es (i : Int) (k : Int)).toNat, by omega⟩
    obtain ⟨x, hx⟩ := getV (es := es) (i := p) (by omega)
    exact ⟨x, List.mem_of_getElem? hx, placeV_is hp hx⟩
  · rintro ⟨x, hx, h1, h2⟩
    exact decide_eq_true (placeV_pos hx (by unfold isE; simp [h1, h2]))
theorem hasV_put (es : List Ev) (y : Ev) (i k : Nat) : hasV (insV y es) i k = (decide (y.i = (i : Int) ∧ y.k = (k : Int)) || hasV es i k) := by
  rw [Bool.eq_iff_iff, Bool.or_eq_true, hasV_iff, hasV_iff, decide_eq_true_iff]
  constructor
  · rintro ⟨x, hx, h⟩
    rcases mem_insV.mp hx with rfl | hx
    · exact .inl h
    · exact .inr ⟨x, hx, h⟩
  · rintro (h | ⟨x, hx, h⟩)
    · exact ⟨y, mem_insV.mpr (.inl rfl), h⟩
    · exact ⟨x, mem_insV.mpr (.inr hx), h⟩
/-- the cells of the array of what was seen -/
def seenV (es : List Ev) : Array Value := ((List.range 32).map (fun j => Value.bool (hasV es (j / 4) (j % 4)))).toArray
theorem seenV_at (es : List Ev) {i k : Nat} (hi : i ≤ 7) (hk : k ≤ 3) : (seenV es)[i * 4 + k]? = some (.bool (hasV es i k)) := by
  unfold seenV
  rw [List.getElem?_toArray, List.getElem?_map, List.getElem?_range (by omega)]
  simp only [Option.map_some]
  rw [show (i * 4 + k) / 4 = i by omega, show (i * 4 + k) % 4 = k by omega]
theorem seenV_put (es : List Ev) (y : Ev) {i k : Nat} (hi : i ≤ 7) (hk : k ≤ 3) (h1 : y.i = (i : Int)) (h2 : y.k = (k : Int)) : (seenV es).setIfInBounds (i * 4 + k) (.bool true) = seenV (insV y es) := by
  unfold seenV
  rw [List.setIfInBounds_toArray]
  congr 1
  apply List.ext_getElem?
  intro j
  rw [List.getElem?_set]
  by_cases hj : j < 32
  · rw [List.getElem?_map, List.getElem?_map, List.getElem?_range hj]
    simp only [Option.map_some, List.length_map, List.length_range]
    rw [hasV_put, h1, h2]
    by_cases e : i * 4 + k = j
    · rw [if_pos e, if_pos (by omega)]
      have : decide ((i : Int) = ((j / 4 : Nat) : Int) ∧ (k : Int) = ((j % 4 : Nat) : Int)) = true := decide_eq_true ⟨by omega, by omega⟩
      rw [this]; rfl
    · rw [if_neg e]
      have : decide ((i : Int) = ((j / 4 : Nat) : Int) ∧ (k : Int) = ((j % 4 : Nat) : Int)) = false := decide_eq_false (by rintro ⟨a, b⟩; omega)
      rw [this]; rfl
  · rw [List.getElem?_map, List.getElem?_map, List.getElem?_eq_none (by simp; omega)]
    by_cases e : i * 4 + k = j
    · omega
    · rw [if_neg e]; rfl
end Go.Proofs.Ytfeemdljlikpbaa
