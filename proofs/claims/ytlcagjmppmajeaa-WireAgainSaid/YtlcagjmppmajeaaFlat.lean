/-
  Values of types that hold numbers and truths alone, however nested: what their reading says of their cells. No function of the program in sight.
-/
import Derived.ChangeArms
import Derived.OpenShut
import Derived.WideShapes
import Derived.ChangeSlices
import Derived.Deep.Slices
namespace Go.Proofs.Ytlcagjmppmajeaa
open Go.ChangeShapes Go.WideShapes

/-- what a cell holds: a number of a kind, a truth -/
inductive Kd where
  | int (k : IntKind)
  | bool
def Kd.Fits : Kd → Value → Prop
  | .int k, v => ∃ z, v = .int k z ∧ (Lit.int k z).wf = true
  | .bool, v => ∃ b, v = .bool b
def Fit : List Kd → List Value → Prop
  | [], [] => True
  | k :: ks, v :: vs => k.Fits v ∧ Fit ks vs
  | _, _ => False
theorem Fit.append : ∀ {a b : List Kd} {xs ys : List Value}, Fit a xs → Fit b ys → Fit (a ++ b) (xs ++ ys)
  | [], _, [], _, _, h => h
  | [], _, _ :: _, _, h, _ => h.elim
  | _ :: _, _, [], _, h, _ => h.elim
  | _ :: _, _, _ :: _, _, h, g => ⟨h.1, Fit.append h.2 g⟩
theorem Fit.length : ∀ {a : List Kd} {xs : List Value}, Fit a xs → a.length = xs.length
  | [], [], _ => rfl
  | [], _ :: _, h => h.elim
  | _ :: _, [], h => h.elim
  | _ :: _, _ :: _, h => by simp [Fit.length h.2]
theorem Fit.cons {k : Kd} {ks : List Kd} {vs : List Value} (h : Fit (k :: ks) vs) : ∃ v r, vs = v :: r ∧ k.Fits v ∧ Fit ks r := by
  match vs, h with
  | v :: r, h => exact ⟨v, r, rfl, h.1, h.2⟩
theorem Fit.nil {vs : List Value} (h : Fit [] vs) : vs = [] := by
  match vs, h with
  | [], _ => rfl
theorem Fit.int {k : IntKind} {ks : List Kd} {vs : List Value} (h : Fit (.int k :: ks) vs) : ∃ z r, vs = .int k z :: r ∧ (Lit.int k z).wf = true ∧ Fit ks r := by
  obtain ⟨v, r, rfl, ⟨z, rfl, hz⟩, hr⟩ := h.cons
  exact ⟨z, r, rfl, hz, hr⟩
theorem Fit.truth {ks : List Kd} {vs : List Value} (h : Fit (.bool :: ks) vs) : ∃ b r, vs = .bool b :: r ∧ Fit ks r := by
  obtain ⟨v, r, rfl, ⟨z, rfl⟩, hr⟩ := h.cons
  exact ⟨z, r, rfl, hr⟩

/-- the cells of a struct's fields, one behind the other -/
def flatFs (P : Program) (one : TypeId → Option (List Kd)) : Nat → List Field → Option (List Kd)
  | _, [] => some []
  | off, f :: r =>
    match one f.type with
    | some ks => if f.offset = off ∧ ks.length = P.cellsOf f.type then (flatFs P one (off + ks.length) r).map (ks ++ ·) else none
    | none => none
/-- the cells of a type that holds numbers and truths alone -/
def flatK (P : Program) : Nat → TypeId → Option (List Kd)
  | 0, _ => none
  | n + 1, t =>
    match P.underlying t with
    | some (.int k) => some [.int k]
    | some .bool => some [.bool]
    | some (.struct fs) =>
      match flatFs P (flatK P n) 0 fs.toList with
      | some ks => if ks.length = P.cellsOf t then some ks else none
      | none => none
    | some (.array m e) =>
      match flatK P n e with
      | some ks => if ks.length = P.cellsOf e ∧ (List.replicate m ks).flatten.length = P.cellsOf t then some (List.replicate m ks).flatten else none
      | none => none
    | _ => none

section
variable {H : Type} {enc : TypeId × Value → H} {P : Program} {w : World} {base : Nat} {spare : Nat → Bool} {held : Bool}
theorem flatFs_fit {one : TypeId → Option (List Kd)} (ih : ∀ t ks, one t = some ks → ∀ fuel cs x, DataW.trod enc P w base spare held fuel t cs = some x → Fit ks cs) (cs : List Value) :
    ∀ (fs : List Field) (off : Nat) (ks : List Kd), flatFs P one off fs = some ks → (∀ f ∈ fs, ∃ fuel x, DataW.trod enc P w base spare held fuel f.type ((cs.drop f.offset).take (P.cellsOf f.type)) = some x) → Fit ks ((cs.drop off).take ks.length) := by
  intro fs
  induction fs with
  | nil => intro off ks h _; simp [flatFs] at h; subst h; exact True.intro
  | cons f r ihr =>
    intro off ks h hx
    unfold flatFs at h
    split at h
    · rename_i k1 h1
      split at h
      · rename_i hc
        obtain ⟨rfl, hl⟩ := hc
        rw [Option.map_eq_some_iff] at h
        obtain ⟨k2, h2, rfl⟩ := h
        obtain ⟨fuel, x, hf⟩ := hx f (by simp)
        have f1 := ih _ _ h1 _ _ _ hf
        rw [← hl] at f1
        have f2 := ihr _ _ h2 (fun g hg => hx g (by simp [hg]))
        rw [List.length_append, List.take_add, List.drop_drop]
        exact f1.append f2
      · cases h
    · cases h
theorem rep_fit {ks : List Kd} {c : Nat} (hl : ks.length = c) (cs : List Value) : ∀ (m i : Nat), (∀ j, i ≤ j → j < i + m → Fit ks ((cs.drop (j * c)).take c)) → Fit (List.replicate m ks).flatten ((cs.drop (i * c)).take (List.replicate m ks).flatten.length) := by
  intro m
  induction m with
  | zero => intro i _; simp [Fit]
  | succ m ihm =>
    intro i h
    have h1 := h i (Nat.le_refl _) (by omega)
    have h2 := ihm (i + 1) (fun j a b => h j (by omega) (by omega))
    rw [List.replicate_succ, List.flatten_cons, List.length_append, List.take_add, List.drop_drop, hl, show i * c + c = (i + 1) * c by rw [Nat.add_mul, Nat.one_mul]]
    exact h1.append h2
/-- what is read at such a type has such cells -/
theorem flat_cells : ∀ (n : Nat) (t : TypeId) (ks : List Kd), flatK P n t = some ks → ∀ fuel cs x, DataW.trod enc P w base spare held fuel t cs = some x → Fit ks cs := by
  intro n
  induction n with
  | zero => intro t ks h; simp [flatK] at h
  | succ n ih =>
    intro t ks h fuel cs x hx
    unfold flatK at h
    split at h
    · rename_i k hk
      cases h
      obtain ⟨z, rfl, _, hz⟩ := DataW.trod_int hk hx
      exact ⟨⟨z, rfl, hz⟩, True.intro⟩
    · rename_i hk
      cases h
      obtain ⟨b, rfl, _⟩ := DataW.trod_bool hk hx
      exact ⟨⟨b, rfl⟩, True.intro⟩
    · rename_i fs hk
      split at h
      · rename_i k1 h1
        split at h
        · rename_i hl
          cases h
          obtain ⟨xs, m, _, _, hlen, hxl, hall⟩ := DataW.trod_struct hk hx
          have hh := flatFs_fit ih cs fs.toList 0 _ h1 (fun f hf => by
            obtain ⟨i, hi, rfl⟩ := List.getElem_of_mem hf
            have g := hall i fs.toList[i] (by simp)
            rw [List.getElem?_eq_getElem (by simp at hi; omega)] at g
            exact ⟨_, _, g⟩)
          rw [List.drop_zero, List.take_of_length_le (by omega)] at hh
          exact hh
        · cases h
      · cases h
    · rename_i m e hk
      split at h
      · rename_i k1 h1
        split at h
        · rename_i hl
          cases h
          obtain ⟨xs, q, _, _, hlen, hxl, hall⟩ := DataW.trod_array hk hx
          have hh := rep_fit hl.1 cs m 0 (fun j _ hj => by
            have g := hall j (by omega)
            rw [List.getElem?_eq_getElem (by omega)] at g
            exact ih _ _ h1 _ _ _ g)
          rw [Nat.zero_mul, List.drop_zero, List.take_of_length_le (by omega)] at hh
          exact hh
        · cases h
      · cases h
    · cases h
/-- is it a struct, or an array? -/
def aggB (P : Program) (t : TypeId) : Bool := match P.underlying t with | some (.struct _) | some (.array _ _) => true | _ => false
/-- such a value, handed over -/
theorem open_flat {n : Nat} {t : TypeId} {ks : List Kd} {r : Reach} {b0 : Nat} {v : Value} {d : DataW H} {ps : List MemPlace} (hf : flatK P n t = some ks) (ha : aggB P t = true) (hval : Value.okWide P w r b0 t v) (hd : DataW.Trod enc P w base spare held t v d ps) :
    ∃ cs : Array Value, v = .agg cs ∧ Fit ks cs.toList := by
  obtain ⟨cs, rfl⟩ : ∃ cs, v = .agg cs := by
    unfold Value.okWide at hval
    unfold aggB at ha
    split at ha
    · rename_i h; rw [h] at hval; obtain ⟨cs, h1, _⟩ := hval; exact ⟨cs, h1⟩
    · rename_i h; rw [h] at hval; obtain ⟨cs, h1, _⟩ := hval; exact ⟨cs, h1⟩
    · cases ha
  obtain ⟨fuel, hx⟩ := hd
  exact ⟨cs, rfl, flat_cells n t ks hf _ _ _ hx⟩

/-- the slice that leads to 'a', of 'len' elements of c cells each, reads as these rows -/
def RowF (W : World) (a : Option Addr) (len cap c : Nat) (rows : List (List Value)) : Prop :=
  rows.length = len ∧ len ≤ cap ∧ cap ≤ 9223372036854775807 ∧ (a = none → cap = 0) ∧
    ∀ i, i < len → ∃ b off, a = some ⟨b, off, none⟩ ∧ ∀ j, j < c → W.cell? ⟨b, off + i * c + j, none⟩ = (rows.getD i [])[j]?
theorem addr_plain (b off k : Nat) : (⟨b, off, none⟩ : Addr).add k = ⟨b, off + k, none⟩ := by
  unfold Addr.add
  split
  · rename_i h; subst h; rfl
  · rfl
/-- a slice of such values, handed over -/
theorem open_flat_rows {n : Nat} {t e : TypeId} {ks : List Kd} {fuel : Nat} {a : Option Addr} {len cap : Nat} {x : DataW H × List MemPlace} (ht : P.underlying t = some (.slice e)) (hf : flatK P n e = some ks) (hc : P.cellsOf e = ks.length) (hpos : 0 < ks.length)
    (h : DataW.trod enc P w base spare held fuel t [.slice a len cap] = some x) : ∃ rows, RowF w a len cap ks.length rows ∧ ∀ r ∈ rows, Fit ks r := by
  rcases DataW.trod_slice ht h with ⟨h0, _⟩ | ⟨a', len', cap', elems, rest, m, _, hcs, _, hb, hl, hm, hlen, hel, _, _⟩
  · simp only [List.cons.injEq, Value.slice.injEq, and_true] at h0
    obtain ⟨rfl, rfl, rfl⟩ := h0
    exact ⟨[], ⟨rfl, by omega, by omega, (fun _ => rfl), fun i hi => by omega⟩, fun r hr => by cases hr⟩
  · simp only [List.cons.injEq, Value.slice.injEq, and_true] at hcs
    obtain ⟨rfl, rfl, rfl⟩ := hcs
    have each : ∀ i, i < len → ∃ cs : List Value, Fit ks cs ∧ ∀ j, j < ks.length → w.cell? (a'.add (i * ks.length + j)) = cs[j]? := by
      intro i hi
      have h1 := hel i hi
      rw [hc, List.getElem?_eq_getElem (by omega), Option.bind_eq_some_iff] at h1
      obtain ⟨cs', hcs, hy⟩ := h1
      obtain ⟨_, hcl, hat⟩ := World.cells?_some hcs
      refine ⟨cs', flat_cells n e ks hf _ _ _ hy, fun j hj => ?_⟩
      have := hat j hj
      rw [Go.Deep.add_add] at this
      exact this
    have pick : ∀ i, ∃ cs : List Value, i < len → (Fit ks cs ∧ ∀ j, j < ks.length → w.cell? (a'.add (i * ks.length + j)) = cs[j]?) := fun i => by
      by_cases hi : i < len
      · obtain ⟨p, hp⟩ := each i hi; exact ⟨p, fun _ => hp⟩
      · exact ⟨[], fun h => absurd h hi⟩
    have hp := fun i => Classical.choose_spec (pick i)
    refine ⟨(List.range len).map (fun i => Classical.choose (pick i)), ⟨by simp, hl, by unfold maxLen at hm; omega, (fun e => by cases e), fun i hi => ?_⟩, ?_⟩
    · have hg : ((List.range len).map (fun i => Classical.choose (pick i))).getD i [] = Classical.choose (pick i) := by
        rw [List.getD_eq_getElem?_getD, List.getElem?_map, List.getElem?_range hi]; rfl
      rw [hg]
      have h0 := (hp 0 (by omega)).2 0 hpos
      have hlen0 := (hp 0 (by omega)).1.length
      rw [List.getElem?_eq_getElem (by omega)] at h0
      obtain ⟨b, off, spot⟩ := a'
      have hspot : spot = none := by simpa [Addr.add] using World.cell?_spot h0
      subst hspot
      refine ⟨b, off, rfl, fun j hj => ?_⟩
      have := (hp i hi).2 j hj
      rw [addr_plain, ← Nat.add_assoc] at this
      exact this
    · intro r hr
      rw [List.mem_map] at hr
      obtain ⟨i, hi, rfl⟩ := hr
      exact (hp i (List.mem_range.mp hi)).1
end
end Go.Proofs.Ytlcagjmppmajeaa
