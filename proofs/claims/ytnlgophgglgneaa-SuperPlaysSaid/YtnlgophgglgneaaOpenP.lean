/-
  A slice of pairs of numbers that came in: what its reading says of its cells.
-/
import Derived.Test.YtnlgophgglgneaaRatA
import Derived.Deep.Slices
namespace Go.Proofs.Ytnlgophgglgneaa
open Go.RowKit Go.ChangeShapes Go.WideShapes

section
variable {H : Type} {enc : TypeId × Value → H} {P : Program} {w : World} {base : Nat} {spare : Nat → Bool} {held : Bool}
theorem open_pairs {t e q : TypeId} {fuel : Nat} {a : Option Addr} {len cap : Nat} {x : DataW H × List MemPlace} (ht : P.underlying t = some (.slice e)) (he : P.underlying e = some (.array 2 q)) (hq : P.underlying q = some (.int .i64))
    (hc : P.cellsOf e = 2) (hc1 : P.cellsOf q = 1) (h : DataW.trod enc P w base spare held fuel t [.slice a len cap] = some x) : ∃ ps, RowP w a len cap ps := by
  rcases DataW.trod_slice ht h with ⟨h0, _⟩ | ⟨a', len', cap', elems, rest, n, _, hcs, _, hb, hl, hm, hlen, hel, _, _⟩
  · simp only [List.cons.injEq, Value.slice.injEq, and_true] at h0
    obtain ⟨rfl, rfl, rfl⟩ := h0
    exact ⟨[], rfl, by omega, by omega, (fun _ => rfl), fun i hi => by omega⟩
  · simp only [List.cons.injEq, Value.slice.injEq, and_true] at hcs
    obtain ⟨rfl, rfl, rfl⟩ := hcs
    have each : ∀ i, i < len → ∃ p : Int × Int, w.cell? (a'.add (i * 2)) = some (.int .i64 p.1) ∧ w.cell? (a'.add (i * 2 + 1)) = some (.int .i64 p.2) := by
      intro i hi
      have h1 := hel i hi
      rw [hc, List.getElem?_eq_getElem (by omega), Option.bind_eq_some_iff] at h1
      obtain ⟨cs', hcs, hy⟩ := h1
      obtain ⟨_, hcl, hat⟩ := World.cells?_some hcs
      obtain ⟨xs, m, _, _, _, hxl, hx⟩ := DataW.trod_array he hy
      match cs', hcl with
      | [c0, c1], _ =>
        have g0 := hx 0 (by omega)
        have g1 := hx 1 (by omega)
        rw [hc1, List.getElem?_eq_getElem (by omega)] at g0 g1
        obtain ⟨x0, e0, _⟩ := DataW.trod_int hq g0
        obtain ⟨x1, e1, _⟩ := DataW.trod_int hq g1
        simp at e0 e1
        refine ⟨(x0, x1), ?_, ?_⟩
        · have := hat 0 (by omega)
          rw [Go.Deep.add_add, Nat.add_zero] at this
          rw [this, e0]; rfl
        · have := hat 1 (by omega)
          rw [Go.Deep.add_add] at this
          rw [this, e1]; rfl
    have pick : ∀ i, ∃ p : Int × Int, i < len → (w.cell? (a'.add (i * 2)) = some (.int .i64 p.1) ∧ w.cell? (a'.add (i * 2 + 1)) = some (.int .i64 p.2)) := fun i => by
      by_cases hi : i < len
      · obtain ⟨p, hp⟩ := each i hi; exact ⟨p, fun _ => hp⟩
      · exact ⟨(0, 0), fun h => absurd h hi⟩
    have hf := fun i => Classical.choose_spec (pick i)
    refine ⟨(List.range len).map (fun i => Classical.choose (pick i)), by simp, hl, by unfold maxLen at hm; omega, (fun e => by cases e), fun i hi => ?_⟩
    obtain ⟨h1, h2⟩ := hf i hi
    have hg : ((List.range len).map (fun i => Classical.choose (pick i))).getD i (0, 0) = Classical.choose (pick i) := by
      rw [List.getD_eq_getElem?_getD, List.getElem?_map, List.getElem?_range hi]; rfl
    rw [hg]
    have h0 := (hf 0 (by omega)).1
    obtain ⟨b, off, spot⟩ := a'
    have hspot : spot = none := by simpa [Addr.add] using World.cell?_spot h0
    subst hspot
    exact ⟨b, off, rfl, by rw [← add_plain]; exact h1, by rw [Nat.add_assoc, ← add_plain]; exact h2⟩
end
end Go.Proofs.Ytnlgophgglgneaa
