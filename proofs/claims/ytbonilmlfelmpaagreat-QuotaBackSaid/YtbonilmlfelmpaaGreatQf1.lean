/-
  A law's tree that was handed over: a row of numbers, a row of pairs, a pair.
-/
import Derived.Test.YtbonilmlfelmpaaGreatFlat
import Derived.Test.YtbonilmlfelmpaaGreatFlat2
import Derived.Test.YtbonilmlfelmpaaGreatOpenP
import Derived.Test.YtbonilmlfelmpaaGreatQc1
namespace Go.Proofs.YtbonilmlfelmpaaGreat
open Go.ChangeShapes Go.WideShapes Go.RowKit

section
variable {H : Type} {enc : TypeId × Value → H} {w : World} {base : Nat} {spare : Nat → Bool} {held : Bool}
set_option maxRecDepth 20000 in
theorem spec_cells {fuel : Nat} {cs : List Value} {x : DataW H × List MemPlace} (h : DataW.trod enc Tryz.prog w base spare held fuel 26 cs = some x) :
    ∃ (p : Option Addr) (pl pc : Nat) (zs : List Int) (q : Option Addr) (ql qc : Nat) (qs : List (Int × Int)) (a b : Int), cs = [.slice p pl pc, .slice q ql qc, .int .i64 a, .int .i64 b] ∧ Row .i64 w p pl pc zs ∧ RowP w q ql qc qs := by
  obtain ⟨xs, m, _, _, hlen, hxl, hall⟩ := DataW.trod_struct Tryz.underlying26 h
  have hc : Tryz.prog.cellsOf 26 = 4 := by kernel_rfl
  have hi : Tryz.prog.cellsOf 22 = 1 := by kernel_rfl
  have hb : Tryz.prog.cellsOf 23 = 1 := by kernel_rfl
  have hd : Tryz.prog.cellsOf 24 = 2 := by kernel_rfl
  rw [hc] at hlen
  match cs, hlen with
  | [c0, c1, c2, c3], _ =>
    have g0 : DataW.trod enc Tryz.prog w base spare held m 22 (([c0, c1, c2, c3].drop 0).take (Tryz.prog.cellsOf 22)) = xs[0]? := hall 0 _ rfl
    have g1 : DataW.trod enc Tryz.prog w base spare held m 23 (([c0, c1, c2, c3].drop 1).take (Tryz.prog.cellsOf 23)) = xs[1]? := hall 1 _ rfl
    have g2 : DataW.trod enc Tryz.prog w base spare held m 24 (([c0, c1, c2, c3].drop 2).take (Tryz.prog.cellsOf 24)) = xs[2]? := hall 2 _ rfl
    have hx : xs.length = 3 := hxl
    rw [List.getElem?_eq_getElem (by omega)] at g0 g1 g2
    rw [hi] at g0
    rw [hb] at g1
    rw [hd] at g2
    change DataW.trod enc Tryz.prog w base spare held m 22 [c0] = _ at g0
    change DataW.trod enc Tryz.prog w base spare held m 23 [c1] = _ at g1
    change DataW.trod enc Tryz.prog w base spare held m 24 [c2, c3] = _ at g2
    obtain ⟨a0, l0, k0, e0⟩ : ∃ a len cap, c0 = .slice a len cap := by
      rcases DataW.trod_slice Tryz.underlying22 g0 with ⟨h0, _⟩ | ⟨a', len', cap', _, _, _, _, hcs, _⟩
      · simp at h0; exact ⟨_, _, _, h0⟩
      · simp at hcs; exact ⟨_, _, _, hcs⟩
    obtain ⟨a1, l1, k1, e1⟩ : ∃ a len cap, c1 = .slice a len cap := by
      rcases DataW.trod_slice Tryz.underlying23 g1 with ⟨h0, _⟩ | ⟨a', len', cap', _, _, _, _, hcs, _⟩
      · simp at h0; exact ⟨_, _, _, h0⟩
      · simp at hcs; exact ⟨_, _, _, hcs⟩
    subst e0 e1
    obtain ⟨rs, hr, hf⟩ := open_flat_rows (n := 8) (ks := [.int .i64]) Tryz.underlying22 (by kernel_rfl) (by kernel_rfl) (by decide) g0
    obtain ⟨zs, hz, _⟩ := row_of_flat hr hf
    obtain ⟨ps, hp⟩ := open_pairs Tryz.underlying23 Tryz.underlying24 Tryz.underlying3 (by kernel_rfl) (by kernel_rfl) g1
    have f2 := flat_cells 8 24 [.int .i64, .int .i64] (by kernel_rfl) m _ _ g2
    obtain ⟨a, r1, e2, _, f3⟩ := f2.int
    simp only [List.cons.injEq] at e2
    obtain ⟨rfl, rfl⟩ := e2
    obtain ⟨b, r2, e3, _, _⟩ := f3.int
    simp only [List.cons.injEq] at e3
    obtain ⟨rfl, _⟩ := e3
    exact ⟨a0, l0, k0, zs, a1, l1, k1, ps, a, b, rfl, hz, hp⟩
set_option maxRecDepth 20000 in
theorem open_spec {r : Reach} {b0 : Nat} {v : Value} {d : DataW H} {ps : List MemPlace} (hval : Value.okWide Tryz.prog w r b0 26 v) (hd : DataW.Trod enc Tryz.prog w base spare held 26 v d ps) :
    ∃ (p : Option Addr) (pl pc : Nat) (zs : List Int) (q : Option Addr) (ql qc : Nat) (qs : List (Int × Int)) (a b : Int), v = .agg #[.slice p pl pc, .slice q ql qc, .int .i64 a, .int .i64 b] ∧ Row .i64 w p pl pc zs ∧ RowP w q ql qc qs := by
  obtain ⟨cs, rfl⟩ : ∃ cs, v = .agg cs := by
    unfold Value.okWide at hval
    rw [Tryz.underlying26] at hval
    obtain ⟨cs, h1, _⟩ := hval
    exact ⟨cs, h1⟩
  obtain ⟨fuel, hx⟩ := hd
  obtain ⟨p, pl, pc, zs, q, ql, qc, qs, a, b, e, h⟩ := spec_cells hx
  obtain ⟨l⟩ := cs
  refine ⟨p, pl, pc, zs, q, ql, qc, qs, a, b, ?_, h⟩
  have e' : l = [.slice p pl pc, .slice q ql qc, .int .i64 a, .int .i64 b] := e
  rw [e']
end
/-- a server's cells, as such a row has them -/
def svOf (r : List Value) : Sv := ⟨intOf (r.getD 0 (.int .i64 0)), intOf (r.getD 1 (.int .i64 0)), intOf (r.getD 2 (.int .i64 0))⟩
theorem rowS_of_flat {w : World} {a : Option Addr} {len cap : Nat} {rs : List (List Value)} (h : RowF w a len cap 3 rs) (g : ∀ r ∈ rs, Fit [.int .i64, .int .i64, .int .i64] r) : ∃ S, RowS w a len cap S := by
  refine ⟨rs.map svOf, ?_⟩
  unfold RowS
  rw [List.map_map]
  have e : rs.map (Sv.cs ∘ svOf) = rs := by
    conv => rhs; rw [← List.map_id rs]
    apply List.map_congr_left
    intro r hr
    obtain ⟨x, r1, rfl, _, h1⟩ := (g r hr).int
    obtain ⟨y, r2, rfl, _, h2⟩ := h1.int
    obtain ⟨z, r3, rfl, _, h3⟩ := h2.int
    have h4 := h3.nil
    subst h4
    rfl
  rw [e]
  exact h
end Go.Proofs.YtbonilmlfelmpaaGreat
