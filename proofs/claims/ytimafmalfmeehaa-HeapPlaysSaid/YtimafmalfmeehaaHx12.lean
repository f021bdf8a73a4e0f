/-
  Package heap as landed: IDs, over what slices.Sort does to a row of numbers: contract.
-/
import Derived.Test.YtimafmalfmeehaaHr5
import Derived.Test.YtimafmalfmeehaaHx11
import Derived.Lib.SortBridge
import Derived.OwnWalk
namespace Go.Proofs.Ytimafmalfmeehaa
open Go.RowKit Go.Maps

theorem insI_perm (x : Int) (l : List Int) : (insI x l).Perm (x :: l) := by
  induction l with
  | nil => exact List.Perm.refl _
  | cons y r ih =>
    by_cases h : x < y
    · rw [insI_put x y r h]
    · rw [insI_on x y r h]
      exact (List.Perm.cons y ih).trans (List.Perm.swap x y r)
theorem insI_sorted (x : Int) (l : List Int) (h : l.Pairwise (fun a b => decide (a ≤ b) = true)) : (insI x l).Pairwise (fun a b => decide (a ≤ b) = true) := by
  induction l with
  | nil => exact List.pairwise_singleton _ _
  | cons y r ih =>
    have hp := List.pairwise_cons.mp h
    by_cases hx : x < y
    · rw [insI_put x y r hx]
      refine List.pairwise_cons.mpr ⟨fun b hb => ?_, h⟩
      rcases List.mem_cons.mp hb with e | e
      · subst e; exact decide_eq_true (by omega)
      · have := of_decide_eq_true (hp.1 b e)
        exact decide_eq_true (by omega)
    · rw [insI_on x y r hx]
      refine List.pairwise_cons.mpr ⟨fun b hb => ?_, ih hp.2⟩
      rcases List.mem_cons.mp ((insI_perm x r).mem_iff.mp hb) with e | e
      · subst e; exact decide_eq_true (by omega)
      · exact hp.1 b e
theorem ids_from (ts : List Th) (o : List Int) (h : o.Pairwise (fun a b => decide (a ≤ b) = true)) : (ts.foldl (fun o t => insI t.id o) o).Perm (ts.map Th.id ++ o) ∧ (ts.foldl (fun o t => insI t.id o) o).Pairwise (fun a b => decide (a ≤ b) = true) := by
  induction ts generalizing o with
  | nil => exact ⟨List.Perm.refl _, h⟩
  | cons t ts ih =>
    obtain ⟨h1, h2⟩ := ih (insI t.id o) (insI_sorted _ _ h)
    refine ⟨h1.trans ?_, h2⟩
    rw [List.map_cons, List.cons_append]
    exact (List.Perm.append_left _ (insI_perm _ _)).trans List.perm_middle
/-- what is sorted by the library is what the document tells -/
theorem sorted_ids {xs ts : List Th} (hp : xs.Perm ts) : (xs.map Th.id).mergeSort (fun x y => decide (x ≤ y)) = idsT ts := by
  obtain ⟨h1, h2⟩ := ids_from ts [] List.Pairwise.nil
  refine List.Perm.eq_of_pairwise (le := fun a b => decide (a ≤ b) = true) (fun a b _ _ h1 h2 => by simp only [decide_eq_true_eq] at h1 h2; omega) (List.pairwise_mergeSort (fun a b c => by simp only [decide_eq_true_eq]; omega) (fun a b => by simp only [Bool.or_eq_true, decide_eq_true_eq]; omega) _) h2 ((List.mergeSort_perm _ _).trans ((hp.map Th.id).trans ?_))
  rw [List.append_nil] at h1
  exact h1.symm
theorem keeps_cells (b : Nat) : ∀ (vs : List Value) (o : Nat) (w W : World), Keeps (fun k => k = b) w W → Keeps (fun k => k = b) w (W.setCells b o vs)
  | [], _, _, _, h => h
  | _ :: vs, o, w, _, h => keeps_cells b vs (o + 1) w _ (h.set (.inl rfl) _ _)
theorem keeps_grow {F : Nat → Prop} {w W : World} (h : Keeps F w W) (os : Array Obj) : Keeps F w (Go.Sort.grow W os) :=
  h.next ⟨rfl, rfl, rfl, by simp [Go.Sort.grow], fun k hk => Go.Sort.heap_grow_old W os hk⟩
theorem keeps_drewN {F : Nat → Prop} {w W : World} (h : Keeps F w W) (n : Nat) : Keeps F w (W.drewN n) := ⟨h.os, h.tape, h.output, h.size, h.block⟩
/-- what slices.Sort does: proved of the library's own text, laid at this program -/
structure SortOk : Prop where
  some : ∀ (blk off cap : Nat) (zs : List Int) (w : World), Go.Sort.Holds (Value.int .i64) w blk off zs.toArray → blk < w.heap.size → zs.length < 4611686018427387904 →
    Calls Try.prog 29 #[.slice (some ⟨blk, off, none⟩) zs.length cap] w fun e w' => e = .returned (.tuple #[]) ∧ ∃ n os, w' = Go.Sort.grow (Go.Sort.putRow (Value.int .i64) (Go.Sort.ahead w n) blk off (zs.mergeSort fun x y => decide (x ≤ y)).toArray) os
  none : ∀ (p : Option Addr) (cap : Nat) (w : World), Calls Try.prog 29 #[.slice p 0 cap] w fun e w' => e = .returned (.tuple #[]) ∧ w' = w
theorem sort_any (ok : SortOk) (base n : Nat) (v : Value) (zs : List Int) (w : World) (h : w.ownsRow base 3 1 v n (zs.map (Value.int .i64))) (hl : n ≤ 1000) :
    Calls Try.prog 29 #[v] w fun e w' => e = .returned (.tuple #[]) ∧ (∃ a cap, v = .slice a n cap ∧ Row .i64 w' a n cap (zs.mergeSort fun x y => decide (x ≤ y)) ∧ Fresh base a) ∧ Keeps (fun k => v.ownBlock = some k) w w' := by
  obtain ⟨a, cap, rfl, hr, hf⟩ := row_of_owns h
  have hlen := hr.len
  rcases Nat.eq_zero_or_pos n with z | z
  · subst z
    refine (ok.none a cap w).mono ?_
    rintro e w' ⟨rfl, rfl⟩
    have : zs = [] := List.length_eq_zero_iff.mp hlen
    subst this
    exact ⟨rfl, ⟨a, cap, rfl, by rw [List.mergeSort_nil]; exact hr, hf⟩, Keeps.refl _ _⟩
  · rcases h.2 with ⟨_, h0⟩ | ⟨g, cap', cur, hv, hb, hg, hc⟩
    · omega
    · cases hv
      subst hlen
      have HH : Go.Sort.Holds (Value.int .i64) w g 0 zs.toArray := fun j hj => by
        have hj' : j < zs.length := by simpa using hj
        refine ⟨?_, frozen_of_row w g _ cur _ hg⟩
        obtain ⟨b, off, e, hcell⟩ := hr.cell hj'
        cases e
        rw [hcell, List.getD_eq_getElem?_getD, List.getElem?_eq_getElem hj', getElem!_pos _ j hj]
        rfl
      refine (ok.some g 0 cap zs w HH (Array.getElem?_eq_some_iff.1 hg).1 (by omega)).mono ?_
      rintro e w' ⟨rfl, q, os, rfl⟩
      have hsz : (zs.mergeSort fun x y => decide (x ≤ y)).length = zs.length := List.length_mergeSort _
      rw [Lib.sorted_world (Value.int .i64) w g 0 q zs.toArray _ os HH (by simp)]
      refine ⟨rfl, ⟨_, cap, rfl, ⟨hsz, hr.cap_le.1, hr.cap_le.2, (fun e => by cases e), fun i hi => ⟨g, 0, rfl, ?_⟩⟩, hf⟩, ?_⟩
      · have hcs : ∀ j, j < zs.length → w.cell? ⟨g, 0 + j, none⟩ = some (.int .i64 (zs.getD j 0)) := fun j hj => by
          obtain ⟨b, off, e, hcell⟩ := hr.cell hj
          cases e
          exact hcell
        have := Lib.cells_sorted_ints (W := w) (b := g) (off := 0) (n := zs.length) (q := q) (zs := zs) (ys := zs.mergeSort fun x y => decide (x ≤ y)) (os := os) (Nat.le_refl _) hsz hcs i (by rw [List.length_append, hsz]; omega)
        rw [List.drop_length, List.append_nil] at this
        exact this
      · have k := keeps_grow (keeps_cells g ((zs.mergeSort fun x y => decide (x ≤ y)).map (Value.int .i64)) 0 w _ (keeps_drewN (Keeps.refl (fun k => k = g) w) q)) os
        exact keepsF k (fun x e => by rw [e]; rfl)
end Go.Proofs.Ytimafmalfmeehaa
