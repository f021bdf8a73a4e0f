/-
  Package heap as landed: where each one stands (a map in memory); swap: contract.
-/
import Derived.Test.YtfeemdljlikpbaaHe2
import Derived.StillTailTactics
import Derived.BigRegion
import Derived.Laws.OwnMore
import Derived.RegionTactic
import Derived.ChangeAlike
namespace Go.Proofs.Ytfeemdljlikpbaa
open Go.RowKit Go.Maps

theorem owns_of_cellsE {w : World} {base g n cap : Nat} {T : TypeId} {xs : List Te} (h : w.ownsRow base T 4 (.slice (some ⟨g, 0, none⟩) n cap) n (xs.map Te.cs).flatten) : xs.length = n := by
  have := h.1
  rw [flat_len _ (wideTe xs), List.length_map] at this
  omega
theorem owns_atE {w : World} {base g n cap : Nat} {T : TypeId} {xs : List Te} (h : w.ownsRow base T 4 (.slice (some ⟨g, 0, none⟩) n cap) n (xs.map Te.cs).flatten) {i : Nat} {t : Te} (he : xs[i]? = some t) : TeAt w g (i * 4) t := by
  have hl := owns_of_cellsE h
  have hi : i < n := by rw [← hl]; exact lt_atE he
  have hg : (xs.map Te.cs).getD i [] = t.cs := by rw [List.getD_eq_getElem?_getD, List.getElem?_map, he]; rfl
  have key : ∀ j, j < 4 → w.cell? ⟨g, i * 4 + j, none⟩ = t.cs[j]? := fun j hj => by
    rw [h.cellAt (i * 4 + j) (by omega), flat_at _ (wideTe xs) i (by rw [List.length_map, hl]; exact hi) j hj, hg]
  exact ⟨key 0 (by omega), key 1 (by omega), key 2 (by omega), key 3 (by omega)⟩
theorem flat_setE (xs : List Te) (k : Nat) (t : Te) (h : k < xs.length) : (((((xs.map Te.cs).flatten.set (k * 4) (.int .i64 t.n)).set (k * 4 + 1) (.int .i64 t.e.d)).set (k * 4 + 2) (.int .i64 t.e.i)).set (k * 4 + 3) (.int .i64 t.e.k)) = ((xs.set k t).map Te.cs).flatten := by
  induction xs generalizing k with
  | nil => simp at h
  | cons x xs ih =>
    cases k with
    | zero => rfl
    | succ k =>
      have := ih k (by simpa using h)
      rw [List.map_cons, List.flatten_cons, List.set_cons_succ, List.map_cons, List.flatten_cons, ← this]
      show (((((Te.cs x ++ _).set ((k + 1) * 4) _).set ((k + 1) * 4 + 1) _).set ((k + 1) * 4 + 2) _).set ((k + 1) * 4 + 3) _) = _
      rw [show (k + 1) * 4 = (Te.cs x).length + k * 4 by simp [Te.cs]; omega, Nat.add_assoc, Nat.add_assoc, Nat.add_assoc, List.set_append_right _ _ (by omega), List.set_append_right _ _ (by omega), List.set_append_right _ _ (by omega), List.set_append_right _ _ (by omega)]
      simp
/-- the world behind a thing's being put at k -/
def putE (w : World) (g k : Nat) (t : Te) : World := (((w.setCell ⟨g, k * 4, none⟩ (.int .i64 t.n)).setCell ⟨g, k * 4 + 1, none⟩ (.int .i64 t.e.d)).setCell ⟨g, k * 4 + 2, none⟩ (.int .i64 t.e.i)).setCell ⟨g, k * 4 + 3, none⟩ (.int .i64 t.e.k)
/-- a thing is put over another one -/
theorem owns_putE {w : World} {base g n cap : Nat} {xs : List Te} (h : w.ownsRow base 73 4 (.slice (some ⟨g, 0, none⟩) n cap) n (xs.map Te.cs).flatten) (k : Nat) (t : Te) (hk : k < xs.length) :
    (putE w g k t).ownsRow base 73 4 (.slice (some ⟨g, 0, none⟩) n cap) n ((xs.set k t).map Te.cs).flatten := by
  rw [← flat_setE xs k t hk]
  exact ((((h.stored _ _).1.stored _ _).1.stored _ _).1.stored _ _).1
theorem keeps_putE {w W : World} {g k : Nat} {t : Te} (h : Keeps (fun k => k = g) w W) : Keeps (fun k => k = g) w (putE W g k t) := (((h.set (.inl rfl) _ _).set (.inl rfl) _ _).set (.inl rfl) _ _).set (.inl rfl) _ _
/-! ### where each one stands -/
def InRE (id : Int) : Prop := -9223372036854775808 ≤ id ∧ id ≤ 9223372036854775807
theorem wf_i64E {a : Int} (h : InRE a) : (Lit.int .i64 a).wf = true := WalkArith.wf_i64 h
theorem isKE (a : Int) : WideAt.IsKeyLit (.int .i64 a) := trivial
/-- a map in memory that reads as D -/
def MapPE (w : World) (m : Nat) (D : DataW Unit) : Prop := w.ownsMap Try.prog 3 (plainElem Try.prog 3) m (Maps.size D) D
theorem MapPE.of {w : World} {m n : Nat} {D : DataW Unit} (h : w.ownsMap Try.prog 3 (plainElem Try.prog 3) m n D) : MapPE w m D := by
  obtain ⟨es, clock, hb, F, _, rfl⟩ := h
  exact ⟨es, clock, hb, F, by rw [Maps.size_eq, length_read]; exact Nat.le_refl _, rfl⟩
theorem keyIE : Maps.Keyed Try.prog 3 := int_keyed Try.underlying3
theorem zeroIE (w : World) : (zeroValue 3).run Try.prog w = .ok (.int .i64 0) w := by kernel_rfl
/-- each stands where the map says -/
structure PlcE (D : DataW Unit) (xs : List Te) : Prop where
  size : Maps.size D = xs.length
  has : ∀ id, Maps.has D (.int .i64 id) = true ↔ ∃ t ∈ xs, t.n = id
  at' : ∀ (i : Nat) (t : Te), xs[i]? = some t → D.atKey (.int .i64 t.n) (.lit (.int .i64 0)) = .lit (.int .i64 i)
theorem key_neE {a b : Int} (h : a ≠ b) : (Lit.int .i64 a) ≠ (Lit.int .i64 b) := fun e => h (by injection e)
theorem has_memE {D : DataW Unit} {xs : List Te} (h : PlcE D xs) {i : Nat} {t : Te} (ht : xs[i]? = some t) : Maps.has D (.int .i64 t.n) = true := (h.has _).mpr ⟨t, List.mem_of_getElem? ht, rfl⟩
theorem PlcE.swap {D : DataW Unit} {xs : List Te} (h : PlcE D xs) (td : Tidy D) (ow : OwnE xs) {i j : Nat} {x y : Te} (hx : xs[i]? = some x) (hy : xs[j]? = some y) :
    PlcE ((D.put (.int .i64 y.n) (.lit (.int .i64 i))).put (.int .i64 x.n) (.lit (.int .i64 j))) (swpE xs i j) := by
  have t1 : Tidy (D.put (.int .i64 y.n) (.lit (.int .i64 i))) := td.put (isKE _) _
  have hhy := has_memE h hy
  have hhx : Maps.has (D.put (.int .i64 y.n) (.lit (.int .i64 i))) (.int .i64 x.n) = true := by
    by_cases e : x.n = y.n
    · rw [e]; exact has_put_same td.isMap (isKE _) _
    · rw [has_put_other (key_neE e)]; exact has_memE h hx
  refine ⟨?_, fun id => ?_, fun k t ht => ?_⟩
  · rw [size_put t1, if_pos hhx, size_put td, if_pos hhy, swp_lenE]; exact h.size
  · have e : (∃ t ∈ swpE xs i j, t.n = id) ↔ ∃ t ∈ xs, t.n = id := by
      have p := swp_permE hx hy
      exact ⟨fun ⟨t, ht, e⟩ => ⟨t, p.mem_iff.mp ht, e⟩, fun ⟨t, ht, e⟩ => ⟨t, p.mem_iff.mpr ht, e⟩⟩
    rw [e, ← h.has id]
    by_cases e1 : id = x.n
    · subst e1
      rw [has_put_same t1.isMap (isKE _), has_memE h hx]
    · rw [has_put_other (key_neE e1)]
      by_cases e2 : id = y.n
      · subst e2
        rw [has_put_same td.isMap (isKE _), hhy]
      · rw [has_put_other (key_neE e2)]
  · by_cases e1 : k = j
    · subst e1
      rw [swp_jE hx hy] at ht; cases ht
      exact atKey_put_same t1.isMap (isKE _) _ _
    · by_cases e2 : k = i
      · subst e2
        rw [swp_iE hx hy] at ht; cases ht
        rw [atKey_put_other (key_neE (fun e => e1 (own_sameE ow hy hx e).symm)), atKey_put_same td.isMap (isKE _)]
      · rw [swp_kE hx hy e2 e1] at ht
        rw [atKey_put_other (key_neE (fun e => e2 (own_sameE ow ht hx e))), atKey_put_other (key_neE (fun e => e1 (own_sameE ow ht hy e)))]
        exact h.at' k t ht
variable {L : FuncId} {TT : TypeId} {ltb : Ev → Ev → Bool}
/-- package heap's heap at block g: its row, where each one stands -/
structure HSE (L : FuncId) (TT : TypeId) (w : World) (g : Nat) (v : Value) (m : Nat) (xs : List Te) : Prop where
  blk : Blk w TT g (HVE L v m false)
  row : w.ownsRow 0 73 4 v xs.length (xs.map Te.cs).flatten
  map : ∃ D, MapPE w m D ∧ PlcE D xs
  ids : OwnE xs
  rng : ∀ t ∈ xs, InRE t.n
  len : xs.length ≤ 1000
  typ : TT ≠ 73
/-- the blocks of a heap -/
def HFE (g : Nat) (v : Value) (m : Nat) (k : Nat) : Prop := k = g ∨ k = m ∨ v.ownBlock = some k
end Go.Proofs.Ytfeemdljlikpbaa
