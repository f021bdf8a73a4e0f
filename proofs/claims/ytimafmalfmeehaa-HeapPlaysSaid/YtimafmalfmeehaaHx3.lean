/-
  Package heap as landed: where each one stands (a map in memory); swap: contract.
-/
import Derived.Test.YtimafmalfmeehaaHx2
import Derived.StillTailTactics
import Derived.BigRegion
import Derived.Laws.OwnMore
import Derived.RegionTactic
import Derived.ChangeAlike
namespace Go.Proofs.Ytimafmalfmeehaa
open Go.RowKit Go.Maps

theorem owns_of_cells {w : World} {base g n cap : Nat} {T : TypeId} {xs : List Th} (h : w.ownsRow base T 2 (.slice (some ⟨g, 0, none⟩) n cap) n (xs.map Th.cs).flatten) : xs.length = n := by
  have := h.1
  rw [flat_len _ (wideT xs), List.length_map] at this
  omega
theorem owns_at {w : World} {base g n cap : Nat} {T : TypeId} {xs : List Th} (h : w.ownsRow base T 2 (.slice (some ⟨g, 0, none⟩) n cap) n (xs.map Th.cs).flatten) {i : Nat} {t : Th} (he : xs[i]? = some t) : ThAt w g (i * 2) t := by
  have hl := owns_of_cells h
  have hi : i < n := by rw [← hl]; exact lt_at he
  have hg : (xs.map Th.cs).getD i [] = t.cs := by rw [List.getD_eq_getElem?_getD, List.getElem?_map, he]; rfl
  have key : ∀ j, j < 2 → w.cell? ⟨g, i * 2 + j, none⟩ = t.cs[j]? := fun j hj => by
    rw [h.cellAt (i * 2 + j) (by omega), flat_at _ (wideT xs) i (by rw [List.length_map, hl]; exact hi) j hj, hg]
  exact ⟨key 0 (by omega), key 1 (by omega)⟩
theorem flat_set (xs : List Th) (k : Nat) (t : Th) (h : k < xs.length) : (((xs.map Th.cs).flatten.set (k * 2) (.int .i64 t.id)).set (k * 2 + 1) (.int .i64 t.x)) = ((xs.set k t).map Th.cs).flatten := by
  induction xs generalizing k with
  | nil => simp at h
  | cons x xs ih =>
    cases k with
    | zero => rfl
    | succ k =>
      have := ih k (by simpa using h)
      rw [List.map_cons, List.flatten_cons, List.set_cons_succ, List.map_cons, List.flatten_cons, ← this]
      show ((Th.cs x ++ _).set ((k + 1) * 2) _).set ((k + 1) * 2 + 1) _ = _
      rw [show (k + 1) * 2 = (Th.cs x).length + k * 2 by simp [Th.cs]; omega, Nat.add_assoc, List.set_append_right _ _ (by omega), List.set_append_right _ _ (by omega)]
      simp
/-- a thing is put over another one -/
theorem owns_put {w : World} {base g n cap : Nat} {xs : List Th} (h : w.ownsRow base 57 2 (.slice (some ⟨g, 0, none⟩) n cap) n (xs.map Th.cs).flatten) (k : Nat) (t : Th) (hk : k < xs.length) :
    ((w.setCell ⟨g, k * 2, none⟩ (.int .i64 t.id)).setCell ⟨g, k * 2 + 1, none⟩ (.int .i64 t.x)).ownsRow base 57 2 (.slice (some ⟨g, 0, none⟩) n cap) n ((xs.set k t).map Th.cs).flatten := by
  rw [← flat_set xs k t hk]
  have hl := owns_of_cells h
  exact ((h.stored _ _).1.stored _ _).1
/-! ### where each one stands -/
def InR (id : Int) : Prop := -9223372036854775808 ≤ id ∧ id ≤ 9223372036854775807
theorem wf_i64 {a : Int} (h : InR a) : (Lit.int .i64 a).wf = true := WalkArith.wf_i64 h
theorem isK (a : Int) : WideAt.IsKeyLit (.int .i64 a) := trivial
/-- a map in memory that reads as D -/
def MapP (w : World) (m : Nat) (D : DataW Unit) : Prop := w.ownsMap Try.prog 3 (plainElem Try.prog 3) m (Maps.size D) D
theorem MapP.of {w : World} {m n : Nat} {D : DataW Unit} (h : w.ownsMap Try.prog 3 (plainElem Try.prog 3) m n D) : MapP w m D := by
  obtain ⟨es, clock, hb, F, _, rfl⟩ := h
  exact ⟨es, clock, hb, F, by rw [Maps.size_eq, length_read]; exact Nat.le_refl _, rfl⟩
theorem keyI : Maps.Keyed Try.prog 3 := int_keyed Try.underlying3
theorem zeroI (w : World) : (zeroValue 3).run Try.prog w = .ok (.int .i64 0) w := by kernel_rfl
/-- each stands where the map says -/
structure Plc (D : DataW Unit) (xs : List Th) : Prop where
  size : Maps.size D = xs.length
  has : ∀ id, Maps.has D (.int .i64 id) = true ↔ ∃ t ∈ xs, t.id = id
  at' : ∀ (i : Nat) (t : Th), xs[i]? = some t → D.atKey (.int .i64 t.id) (.lit (.int .i64 0)) = .lit (.int .i64 i)
theorem key_ne {a b : Int} (h : a ≠ b) : (Lit.int .i64 a) ≠ (Lit.int .i64 b) := fun e => h (by injection e)
theorem has_mem {D : DataW Unit} {xs : List Th} (h : Plc D xs) {i : Nat} {t : Th} (ht : xs[i]? = some t) : Maps.has D (.int .i64 t.id) = true := (h.has _).mpr ⟨t, List.mem_of_getElem? ht, rfl⟩
theorem Plc.swap {D : DataW Unit} {xs : List Th} (h : Plc D xs) (td : Tidy D) (ow : Own xs) {i j : Nat} {x y : Th} (hx : xs[i]? = some x) (hy : xs[j]? = some y) :
    Plc ((D.put (.int .i64 y.id) (.lit (.int .i64 i))).put (.int .i64 x.id) (.lit (.int .i64 j))) (swp xs i j) := by
  have t1 : Tidy (D.put (.int .i64 y.id) (.lit (.int .i64 i))) := td.put (isK _) _
  have hhy := has_mem h hy
  have hhx : Maps.has (D.put (.int .i64 y.id) (.lit (.int .i64 i))) (.int .i64 x.id) = true := by
    by_cases e : x.id = y.id
    · rw [e]; exact has_put_same td.isMap (isK _) _
    · rw [has_put_other (key_ne e)]; exact has_mem h hx
  refine ⟨?_, fun id => ?_, fun k t ht => ?_⟩
  · rw [size_put t1, if_pos hhx, size_put td, if_pos hhy, swp_len]; exact h.size
  · have e : (∃ t ∈ swp xs i j, t.id = id) ↔ ∃ t ∈ xs, t.id = id := by
      have p := swp_perm hx hy
      exact ⟨fun ⟨t, ht, e⟩ => ⟨t, p.mem_iff.mp ht, e⟩, fun ⟨t, ht, e⟩ => ⟨t, p.mem_iff.mpr ht, e⟩⟩
    rw [e, ← h.has id]
    by_cases e1 : id = x.id
    · subst e1
      rw [has_put_same t1.isMap (isK _), has_mem h hx]
    · rw [has_put_other (key_ne e1)]
      by_cases e2 : id = y.id
      · subst e2
        rw [has_put_same td.isMap (isK _), hhy]
      · rw [has_put_other (key_ne e2)]
  · by_cases e1 : k = j
    · subst e1
      rw [swp_j hx hy] at ht; cases ht
      exact atKey_put_same t1.isMap (isK _) _ _
    · by_cases e2 : k = i
      · subst e2
        rw [swp_i hx hy] at ht; cases ht
        rw [atKey_put_other (key_ne (fun e => e1 (own_same ow hy hx e).symm)), atKey_put_same td.isMap (isK _)]
      · rw [swp_k hx hy e2 e1] at ht
        rw [atKey_put_other (key_ne (fun e => e2 (own_same ow ht hx e))), atKey_put_other (key_ne (fun e => e1 (own_same ow ht hy e)))]
        exact h.at' k t ht
/-- package heap's heap at block g: its row, where each one stands -/
structure HS (w : World) (g : Nat) (v : Value) (m : Nat) (xs : List Th) : Prop where
  blk : Blk w 54 g (HV v m false)
  row : w.ownsRow 0 57 2 v xs.length (xs.map Th.cs).flatten
  map : ∃ D, MapP w m D ∧ Plc D xs
  ids : Own xs
  rng : ∀ t ∈ xs, InR t.id
  len : xs.length ≤ 1000
/-- the blocks of a heap -/
def HF (g : Nat) (v : Value) (m : Nat) (k : Nat) : Prop := k = g ∨ k = m ∨ v.ownBlock = some k
end Go.Proofs.Ytimafmalfmeehaa
