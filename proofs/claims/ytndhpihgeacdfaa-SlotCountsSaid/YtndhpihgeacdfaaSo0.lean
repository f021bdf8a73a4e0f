/-
  Slices whose elements hold slices, handed over: rows of rows of numbers, rows of slots.
-/
import Derived.Test.YtndhpihgeacdfaaFlat
import Derived.Test.YtndhpihgeacdfaaFlat2
import Derived.Test.YtndhpihgeacdfaaSs1
namespace Go.Proofs.Ytndhpihgeacdfaa
open Go.ChangeShapes Go.WideShapes Go.RowKit

section
variable {H : Type} {enc : TypeId × Value → H} {P : Program} {w : World} {base : Nat} {spare : Nat → Bool} {held : Bool}
/-- a slice whose elements' cells are so, handed over -/
theorem open_rows_of {t e : TypeId} {c : Nat} {Q : List Value → Prop} {fuel : Nat} {a : Option Addr} {len cap : Nat} {x : DataW H × List MemPlace} (ht : P.underlying t = some (.slice e)) (hc : P.cellsOf e = c) (hpos : 0 < c)
    (hQ : ∀ fuel cs x, cs.length = c → DataW.trod enc P w base spare held fuel e cs = some x → Q cs)
    (h : DataW.trod enc P w base spare held fuel t [.slice a len cap] = some x) : ∃ rows, RowF w a len cap c rows ∧ ∀ r ∈ rows, Q r := by
  rcases DataW.trod_slice ht h with ⟨h0, _⟩ | ⟨a', len', cap', elems, rest, m, _, hcs, _, hb, hl, hm, hlen, hel, _, _⟩
  · simp only [List.cons.injEq, Value.slice.injEq, and_true] at h0
    obtain ⟨rfl, rfl, rfl⟩ := h0
    exact ⟨[], ⟨rfl, by omega, by omega, (fun _ => rfl), fun i hi => by omega⟩, fun r hr => by cases hr⟩
  · simp only [List.cons.injEq, Value.slice.injEq, and_true] at hcs
    obtain ⟨rfl, rfl, rfl⟩ := hcs
    have each : ∀ i, i < len → ∃ cs : List Value, (cs.length = c ∧ Q cs) ∧ ∀ j, j < c → w.cell? (a'.add (i * c + j)) = cs[j]? := by
      intro i hi
      have h1 := hel i hi
      rw [hc, List.getElem?_eq_getElem (by omega), Option.bind_eq_some_iff] at h1
      obtain ⟨cs', hcs, hy⟩ := h1
      obtain ⟨_, hcl, hat⟩ := World.cells?_some hcs
      refine ⟨cs', ⟨hcl, hQ _ _ _ hcl hy⟩, fun j hj => ?_⟩
      have := hat j hj
      rw [Go.Deep.add_add] at this
      exact this
    have pick : ∀ i, ∃ cs : List Value, i < len → ((cs.length = c ∧ Q cs) ∧ ∀ j, j < c → w.cell? (a'.add (i * c + j)) = cs[j]?) := fun i => by
      by_cases hi : i < len
      · obtain ⟨p, hp⟩ := each i hi; exact ⟨p, fun _ => hp⟩
      · exact ⟨[], fun h => absurd h hi⟩
    have hp := fun i => Classical.choose_spec (pick i)
    refine ⟨(List.range len).map (fun i => Classical.choose (pick i)), ⟨by simp, hl, by unfold maxLen at hm; omega, (fun e => by cases e), fun i hi => ?_⟩, ?_⟩
    · have hg : ((List.range len).map (fun i => Classical.choose (pick i))).getD i [] = Classical.choose (pick i) := by
        rw [List.getD_eq_getElem?_getD, List.getElem?_map, List.getElem?_range hi]; rfl
      rw [hg]
      have h0 := (hp 0 (by omega)).2 0 hpos
      have hlen0 := (hp 0 (by omega)).1.1
      rw [List.getElem?_eq_getElem (by omega)] at h0
      obtain ⟨b, off, spot⟩ := a'
      have hspot : spot = none := by simpa [Addr.add] using World.cell?_spot h0
      subst hspot
      refine ⟨b, off, rfl, fun j hj => ?_⟩
      have := (hp i hi).2 j hj
      rw [addr_plain, ← Nat.add_assoc] at this
      exact this
    · intro r hr
      rw [List.mem_map] at hr
      obtain ⟨i, hi, rfl⟩ := hr
      exact (hp i (List.mem_range.mp hi)).1.2
end
/-- each such row's parts, apart -/
theorem pick_rows {α β : Type} {f : β → α → List Value} {R : α → β → Prop} : ∀ rows : List (List Value), (∀ r ∈ rows, ∃ z v, r = f z v ∧ R v z) →
    ∃ (zs : List β) (vs : List α), vs.length = zs.length ∧ rows = List.zipWith f zs vs ∧ ∀ (i : Nat) (z : β) (v : α), zs[i]? = some z → vs[i]? = some v → R v z
  | [], _ => ⟨[], [], rfl, rfl, fun i z v h => by simp at h⟩
  | r :: rows, h => by
    obtain ⟨z, v, e, hr⟩ := h r List.mem_cons_self
    obtain ⟨zs, vs, h1, h2, h3⟩ := pick_rows rows fun x hx => h x (List.mem_cons_of_mem _ hx)
    refine ⟨z :: zs, v :: vs, by simp [h1], by rw [e, h2]; rfl, fun i z' v' hz hv => ?_⟩
    cases i with
    | zero => simp at hz hv; rw [← hz, ← hv]; exact hr
    | succ i => simp at hz hv; exact h3 i z' v' hz hv
/-! ### rows of rows of numbers -/
def rnc (_ : List Int) (v : Option Addr × Nat × Nat) : List Value := [.slice v.1 v.2.1 v.2.2]
theorem wideN : ∀ (l : List (List Int)) (vs : List (Option Addr × Nat × Nat)), Wide 1 (List.zipWith rnc l vs)
  | [], _ => by simp [Wide]
  | _ :: _, [] => by simp [Wide]
  | s :: l, v :: vs => fun r hr => by
    rw [List.zipWith_cons_cons] at hr
    rcases List.mem_cons.mp hr with e | e
    · rw [e]; rfl
    · exact wideN l vs r e
/-- the slice that leads to 'a' reads as these rows of numbers -/
def RowN (W : World) (a : Option Addr) (len cap : Nat) (l : List (List Int)) : Prop :=
  ∃ vs : List (Option Addr × Nat × Nat), vs.length = l.length ∧ RowF W a len cap 1 (List.zipWith rnc l vs) ∧ ∀ (i : Nat) (s : List Int) (v : Option Addr × Nat × Nat), l[i]? = some s → vs[i]? = some v → Row .i64 W v.1 v.2.1 v.2.2 s
theorem RowN.len {W : World} {a : Option Addr} {len cap : Nat} {l : List (List Int)} (h : RowN W a len cap l) : l.length = len := by
  obtain ⟨vs, h1, h2, _⟩ := h
  have := h2.1
  rw [List.length_zipWith, h1] at this
  omega
theorem RowN.cap_le {W : World} {a : Option Addr} {len cap : Nat} {l : List (List Int)} (h : RowN W a len cap l) : len ≤ cap ∧ cap ≤ 9223372036854775807 := by
  obtain ⟨vs, _, h2, _⟩ := h
  exact h2.cap_le
theorem RowN.below {W W' : World} {a : Option Addr} {len cap : Nat} {l : List (List Int)} (h : RowN W a len cap l) (hb : Below W.heap.size W W') : RowN W' a len cap l := by
  obtain ⟨vs, h1, h2, h3⟩ := h
  exact ⟨vs, h1, RowF.below (wideN l vs) h2 hb, fun i s v hs hv => (h3 i s v hs hv).below hb⟩
theorem RowN.at {W : World} {a : Option Addr} {len cap : Nat} {l : List (List Int)} (h : RowN W a len cap l) {i : Nat} {s : List Int} (he : l[i]? = some s) :
    ∃ b off ao lo co, a = some ⟨b, off, none⟩ ∧ W.cell? ⟨b, off + i, none⟩ = some (.slice ao lo co) ∧ Row .i64 W ao lo co s := by
  have hl := h.len
  obtain ⟨vs, h1, h2, h3⟩ := h
  have hi := lt_of_get he
  obtain ⟨b, off, ha, hc⟩ := h2.2.2.2.2 i (by omega)
  have hv : vs[i]? = some vs[i] := List.getElem?_eq_getElem (by omega)
  have hg : (List.zipWith rnc l vs).getD i [] = rnc s vs[i] := by
    rw [List.getD_eq_getElem?_getD, List.getElem?_zipWith, he, hv]; rfl
  rw [hg] at hc
  have c0 := hc 0 (by omega)
  rw [Nat.mul_one, Nat.add_zero] at c0
  exact ⟨b, off, _, _, _, ha, c0, h3 i s _ he hv⟩
section
variable {H : Type} {enc : TypeId × Value → H} {w : World} {base : Nat} {spare : Nat → Bool} {held : Bool}
set_option maxRecDepth 20000 in
theorem open_rown {fuel : Nat} {a : Option Addr} {len cap : Nat} {x : DataW H × List MemPlace} (h : DataW.trod enc Try.prog w base spare held fuel 23 [.slice a len cap] = some x) :
    ∃ l, RowN w a len cap l ∧ ∀ zs ∈ l, ∀ z ∈ zs, (Lit.int .i64 z).wf = true := by
  obtain ⟨rows, h1, h2⟩ := open_rows_of (c := 1) (Q := fun cs => ∃ (zs : List Int) (v : Option Addr × Nat × Nat), cs = rnc zs v ∧ (Row .i64 w v.1 v.2.1 v.2.2 zs ∧ ∀ z ∈ zs, (Lit.int .i64 z).wf = true)) Try.underlying23 (by kernel_rfl) (by decide) (fun fuel cs x hl hx => by
    match cs, hl with
    | [c0], _ =>
      obtain ⟨a0, l0, k0, e0⟩ : ∃ a len cap, c0 = .slice a len cap := by
        rcases DataW.trod_slice Try.underlying49 hx with ⟨h0, _⟩ | ⟨a', len', cap', _, _, _, _, hcs, _⟩
        · simp at h0; exact ⟨_, _, _, h0⟩
        · simp at hcs; exact ⟨_, _, _, hcs⟩
      subst e0
      obtain ⟨rs, hr, hf⟩ := open_flat_rows (n := 8) (ks := [.int .i64]) Try.underlying49 (by kernel_rfl) (by kernel_rfl) (by decide) hx
      obtain ⟨zs, hz, hw⟩ := row_of_flat hr hf
      exact ⟨zs, (a0, l0, k0), rfl, hz, hw⟩) h
  obtain ⟨zs, vs, k1, rfl, k3⟩ := pick_rows rows h2
  refine ⟨zs, ⟨vs, k1, h1, fun i s v hs hv => (k3 i s v hs hv).1⟩, fun s hs => ?_⟩
  obtain ⟨i, hi, e⟩ := List.getElem_of_mem hs
  exact (k3 i s vs[i] (by rw [List.getElem?_eq_getElem hi, e]) (List.getElem?_eq_getElem (by omega))).2
/-! ### rows of slots -/
def FitU (r : Ru) : Prop := (Lit.int .i64 r.id).wf = true ∧ (Lit.int .i64 r.core).wf = true ∧ (Lit.int .i64 r.idx).wf = true
def FitS (s : Sk) : Prop := (Lit.int .i64 s.tm).wf = true ∧ ∀ r ∈ s.runs, FitU r
theorem rowU_of_flat {w : World} {a : Option Addr} {len cap : Nat} {rs : List (List Value)} (h : RowF w a len cap 3 rs) (g : ∀ r ∈ rs, Fit [.int .i64, .int .i64, .int .i64] r) : ∃ l, RowU w a len cap l ∧ ∀ r ∈ l, FitU r := by
  have k : ∀ r ∈ rs, ∃ (z : Ru) (v : Unit), r = (fun z _ => Ru.cs z) z v ∧ FitU z := fun r hr => by
    obtain ⟨x, r1, rfl, w1, h1⟩ := (g r hr).int
    obtain ⟨y, r2, rfl, w2, h2⟩ := h1.int
    obtain ⟨z, r3, rfl, w3, h3⟩ := h2.int
    have h4 := h3.nil
    subst h4
    exact ⟨⟨x, y, z⟩, (), rfl, w1, w2, w3⟩
  obtain ⟨zs, vs, k1, rfl, k3⟩ := pick_rows (R := fun (_ : Unit) z => FitU z) rs k
  have e : List.zipWith (fun z (_ : Unit) => Ru.cs z) zs vs = zs.map Ru.cs := by
    clear h g k k3
    induction zs generalizing vs with
    | nil => rfl
    | cons z zs ih =>
      match vs, k1 with
      | v :: vs, k1 => rw [List.zipWith_cons_cons, List.map_cons, ih vs (by simpa using k1)]
  rw [e] at h
  refine ⟨zs, h, fun r hr => ?_⟩
  obtain ⟨i, hi, e⟩ := List.getElem_of_mem hr
  exact k3 i r () (by rw [List.getElem?_eq_getElem hi, e]) (by rw [List.getElem?_eq_getElem (by omega)])
set_option maxRecDepth 20000 in
theorem open_rowk {fuel : Nat} {a : Option Addr} {len cap : Nat} {x : DataW H × List MemPlace} (h : DataW.trod enc Try.prog w base spare held fuel 22 [.slice a len cap] = some x) :
    ∃ l, RowK w a len cap l ∧ ∀ s ∈ l, FitS s := by
  have hi : Try.prog.cellsOf 2 = 1 := by kernel_rfl
  have hb : Try.prog.cellsOf 45 = 1 := by kernel_rfl
  obtain ⟨rows, h1, h2⟩ := open_rows_of (c := 2) (Q := fun cs => ∃ (s : Sk) (v : Option Addr × Nat × Nat), cs = skc s v ∧ (RowU w v.1 v.2.1 v.2.2 s.runs ∧ FitS s)) Try.underlying22 (by kernel_rfl) (by decide) (fun fuel cs x hl hx => by
    match cs, hl with
    | [c0, c1], _ =>
      obtain ⟨xs, m, _, _, _, hxl, hall⟩ := DataW.trod_struct Try.underlying47 hx
      have g0 : DataW.trod enc Try.prog w base spare held m 2 (([c0, c1].drop 0).take (Try.prog.cellsOf 2)) = xs[0]? := hall 0 _ rfl
      have g1 : DataW.trod enc Try.prog w base spare held m 45 (([c0, c1].drop 1).take (Try.prog.cellsOf 45)) = xs[1]? := hall 1 _ rfl
      have hx : xs.length = 2 := hxl
      rw [List.getElem?_eq_getElem (by omega)] at g0 g1
      rw [hi] at g0
      rw [hb] at g1
      change DataW.trod enc Try.prog w base spare held m 2 [c0] = _ at g0
      change DataW.trod enc Try.prog w base spare held m 45 [c1] = _ at g1
      obtain ⟨a1, l1, k1, e1⟩ : ∃ a len cap, c1 = .slice a len cap := by
        rcases DataW.trod_slice Try.underlying45 g1 with ⟨h0, _⟩ | ⟨a', len', cap', _, _, _, _, hcs, _⟩
        · simp at h0; exact ⟨_, _, _, h0⟩
        · simp at hcs; exact ⟨_, _, _, hcs⟩
      subst e1
      obtain ⟨z, e0, _, hz⟩ := DataW.trod_int Try.underlying2 g0
      simp only [List.cons.injEq, and_true] at e0
      subst e0
      obtain ⟨rs, hr, hf⟩ := open_flat_rows (n := 8) (ks := [.int .i64, .int .i64, .int .i64]) Try.underlying45 (by kernel_rfl) (by kernel_rfl) (by decide) g1
      obtain ⟨l, hl, hw⟩ := rowU_of_flat hr hf
      exact ⟨⟨z, l⟩, (a1, l1, k1), rfl, hl, hz, hw⟩) h
  obtain ⟨zs, vs, k1, rfl, k3⟩ := pick_rows rows h2
  refine ⟨zs, ⟨vs, k1, h1, fun i s v hs hv => (k3 i s v hs hv).1⟩, fun s hs => ?_⟩
  obtain ⟨i, hi, e⟩ := List.getElem_of_mem hs
  exact (k3 i s vs[i] (by rw [List.getElem?_eq_getElem hi, e]) (List.getElem?_eq_getElem (by omega))).2
end
end Go.Proofs.Ytndhpihgeacdfaa
