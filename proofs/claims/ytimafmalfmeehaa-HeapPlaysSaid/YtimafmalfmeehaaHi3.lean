/-
  The walk of the law HeapRemoves, for a package heap that is as P7.1 and P7.2 say.
-/
import Derived.Test.YtimafmalfmeehaaHi2
namespace Go.Proofs.Ytimafmalfmeehaa
open Go.RowKit

/-- the slice that leads to 'a' reads as these truths -/
def RowB (W : World) (a : Option Addr) (len cap : Nat) (bs : List Bool) : Prop := RowF W a len cap 1 (bs.map (fun b => [Value.bool b]))
theorem RowB.len {W : World} {a : Option Addr} {len cap : Nat} {bs : List Bool} (h : RowB W a len cap bs) : bs.length = len := by have := h.1; rwa [List.length_map] at this
theorem RowB.at {W : World} {a : Option Addr} {len cap : Nat} {bs : List Bool} (h : RowB W a len cap bs) {i : Nat} (hi : i < len) : ∃ b off, a = some ⟨b, off, none⟩ ∧ W.cell? ⟨b, off + i, none⟩ = some (.bool (bs.getD i false)) := by
  obtain ⟨b, off, ha, hc⟩ := h.2.2.2.2 i hi
  refine ⟨b, off, ha, ?_⟩
  have := hc 0 (by omega)
  have hl : i < bs.length := by rw [h.len]; exact hi
  have hg : (bs.map (fun b => [Value.bool b])).getD i [] = [Value.bool (bs.getD i false)] := by rw [List.getD_eq_getElem?_getD, List.getElem?_map, List.getD_eq_getElem?_getD, List.getElem?_eq_getElem hl]; rfl
  rw [hg, Nat.mul_one, Nat.add_zero] at this
  exact this
theorem truths_of_flat {w : World} {a : Option Addr} {len cap : Nat} {rs : List (List Value)} (h : RowF w a len cap 1 rs) (g : ∀ r ∈ rs, Fit [.bool] r) : ∃ bs, RowB w a len cap bs := by
  have : ∃ bs : List Bool, rs = bs.map (fun b => [Value.bool b]) := by
    clear h
    induction rs with
    | nil => exact ⟨[], rfl⟩
    | cons r rs ih =>
      obtain ⟨es, he⟩ := ih (fun r' hr => g r' (List.mem_cons_of_mem _ hr))
      obtain ⟨b, q0, rfl, gr⟩ := (g r (List.mem_cons_self ..)).truth
      have := gr.nil
      subst this
      exact ⟨b :: es, by rw [he]; rfl⟩
  obtain ⟨bs, rfl⟩ := this
  exact ⟨bs, h⟩
/-- what is taken away by its number -/
theorem erase_place {ts : List Th} (h : ts.Pairwise (fun a b => a.id ≠ b.id)) {k : Nat} {t : Th} (hk : ts[k]? = some t) : ts.eraseIdx k = ts.filter (fun s => decide (s.id ≠ t.id)) := by
  induction ts generalizing k with
  | nil => simp at hk
  | cons s ts ih =>
    rw [List.pairwise_cons] at h
    cases k with
    | zero =>
      simp at hk
      subst hk
      rw [List.eraseIdx_cons_zero, List.filter_cons, if_neg (by simp)]
      symm
      rw [List.filter_eq_self]
      intro z hz
      have := h.1 z hz
      simp
      exact fun e => this e.symm
    | succ k =>
      rw [List.getElem?_cons_succ] at hk
      have := h.1 t (List.mem_of_getElem? hk)
      rw [List.eraseIdx_cons_succ, List.filter_cons, if_pos (by simpa using this), ih h.2 hk]
/-- those of numbers below n that were not taken by i -/
def leftT (zs : List Int) (bs : List Bool) (n i : Nat) : List Th := (numT zs n).filter (fun t => !(decide (t.id < (i : Int)) && bs.getD t.id.toNat false))
theorem leftT_zero (zs : List Int) (bs : List Bool) (n : Nat) : leftT zs bs n 0 = numT zs n := by
  unfold leftT
  rw [List.filter_eq_self]
  intro t ht
  obtain ⟨j, _, rfl⟩ := numT_mem ht
  simp
theorem leftT_keep (zs : List Int) (bs : List Bool) (n i : Nat) (h : bs.getD i false = false) : leftT zs bs n (i + 1) = leftT zs bs n i := by
  unfold leftT
  apply List.filter_congr
  intro t ht
  obtain ⟨j, _, rfl⟩ := numT_mem ht
  simp only [Int.toNat_natCast]
  by_cases e : j = i
  · subst e; rw [h]; simp
  · have : (decide ((j : Int) < ((i + 1 : Nat) : Int))) = decide ((j : Int) < (i : Int)) := by congr 1; exact propext ⟨fun h => by omega, fun h => by omega⟩
    rw [this]
theorem leftT_take (zs : List Int) (bs : List Bool) (n i : Nat) (h : bs.getD i false = true) : (leftT zs bs n i).filter (fun s => decide (s.id ≠ (i : Int))) = leftT zs bs n (i + 1) := by
  unfold leftT
  rw [List.filter_filter]
  apply List.filter_congr
  intro t ht
  obtain ⟨j, _, rfl⟩ := numT_mem ht
  simp only [Int.toNat_natCast]
  by_cases e : j = i
  · subst e; rw [h]; simp; omega
  · have : (decide ((j : Int) < ((i + 1 : Nat) : Int))) = decide ((j : Int) < (i : Int)) := by congr 1; exact propext ⟨fun h => by omega, fun h => by omega⟩
    rw [this]
    have : ¬ (j : Int) = (i : Int) := by omega
    simp [this]
theorem place_mem {ts : List Th} {t : Th} (h : t ∈ ts) : 0 ≤ placeT ts t.id := by
  unfold placeT
  split
  · omega
  · rename_i e
    rw [List.findIdx?_eq_none_iff] at e
    have := e t h
    simp at this
theorem leftT_mem {zs : List Int} {bs : List Bool} {n i : Nat} {t : Th} (h : t ∈ leftT zs bs n i) : ∃ j : Nat, j < n ∧ t = ⟨(j : Int), zs.getD j 0⟩ ∧ ¬ (j < i ∧ bs.getD j false = true) := by
  unfold leftT at h
  rw [List.mem_filter] at h
  obtain ⟨h1, h2⟩ := h
  obtain ⟨j, hj, rfl⟩ := numT_mem h1
  refine ⟨j, hj, rfl, fun ⟨a, b⟩ => ?_⟩
  simp only [Int.toNat_natCast] at h2
  rw [b] at h2
  simp at h2
  omega
theorem leftT_has {zs : List Int} {bs : List Bool} {n i : Nat} (h : i < n) : (⟨(i : Int), zs.getD i 0⟩ : Th) ∈ leftT zs bs n i := by
  unfold leftT
  rw [List.mem_filter]
  exact ⟨List.mem_of_getElem? (numT_at zs n i h), by simp⟩
theorem place_is {ts : List Th} {id : Int} {k : Nat} {t : Th} (h : placeT ts id = (k : Int)) (ht : ts[k]? = some t) : t.id = id := by
  unfold placeT at h
  split at h
  · rename_i i e
    rw [List.findIdx?_eq_some_iff_getElem] at e
    obtain ⟨hi, h1, _⟩ := e
    obtain rfl : i = k := by omega
    rw [List.getElem?_eq_getElem hi] at ht
    simp at ht
    rw [ht] at h1
    simpa using h1
  · omega
theorem place_gone {ts : List Th} {id : Int} : placeT (ts.filter (fun s => decide (s.id ≠ id))) id < 0 := by
  rw [place_none (fun t ht => by rw [List.mem_filter] at ht; simpa using ht.2)]
  omega
end Go.Proofs.Ytimafmalfmeehaa
