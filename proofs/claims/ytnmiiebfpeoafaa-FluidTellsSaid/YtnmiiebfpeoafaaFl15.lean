/-
  A law's Ask that was handed over: numbers, and a row of truths.
-/
import Derived.Test.YtnmiiebfpeoafaaFlat
import Derived.Test.YtnmiiebfpeoafaaFl12
namespace Go.Proofs.Ytnmiiebfpeoafaa
open Go.ChangeShapes Go.WideShapes Go.RowKit

theorem rowB_of_flat {w : World} {a : Option Addr} {len cap : Nat} {rs : List (List Value)} (h : RowF w a len cap 1 rs) (g : ∀ r ∈ rs, Fit [.bool] r) : ∃ bs, RowB w a len cap bs := by
  obtain ⟨h1, h2, h3, h4, h5⟩ := h
  refine ⟨rs.map (fun r => match r with | [.bool b] => b | _ => false), by simp [h1], h2, h3, h4, fun i hi => ?_⟩
  obtain ⟨b, off, e, hc⟩ := h5 i hi
  refine ⟨b, off, e, ?_⟩
  have c := hc 0 (by omega)
  rw [Nat.mul_one, Nat.add_zero] at c
  have hm : rs[i]? = some rs[i] := List.getElem?_eq_getElem (by omega)
  obtain ⟨z, r, hr, hn⟩ := (g rs[i] (List.getElem_mem (by omega))).truth
  have hn := hn.nil
  subst hn
  rw [c, List.getD_eq_getElem?_getD, hm, List.getD_eq_getElem?_getD, List.getElem?_map, hm]
  simp [hr]
section
variable {H : Type} {enc : TypeId × Value → H} {w : World} {base : Nat} {spare : Nat → Bool} {held : Bool}
theorem ask_cells {fuel : Nat} {cs : List Value} {x : DataW H × List MemPlace} (h : DataW.trod enc Try.prog w base spare held fuel 27 cs = some x) :
    ∃ (s q : Int) (a : Option Addr) (len cap : Nat) (bs : List Bool), cs = [.int .i64 s, .int .i64 q, .slice a len cap] ∧ (Lit.int .i64 s).wf = true ∧ (Lit.int .i64 q).wf = true ∧ RowB w a len cap bs := by
  obtain ⟨xs, m, _, _, hlen, hxl, hall⟩ := DataW.trod_struct Try.underlying27 h
  have hc : Try.prog.cellsOf 27 = 3 := by kernel_rfl
  have hi : Try.prog.cellsOf 2 = 1 := by kernel_rfl
  have hb : Try.prog.cellsOf 25 = 1 := by kernel_rfl
  rw [hc] at hlen
  match cs, hlen with
  | [c0, c1, c2], _ =>
    have g0 : DataW.trod enc Try.prog w base spare held m 2 (([c0, c1, c2].drop 0).take (Try.prog.cellsOf 2)) = xs[0]? := hall 0 _ rfl
    have g1 : DataW.trod enc Try.prog w base spare held m 2 (([c0, c1, c2].drop 1).take (Try.prog.cellsOf 2)) = xs[1]? := hall 1 _ rfl
    have g2 : DataW.trod enc Try.prog w base spare held m 25 (([c0, c1, c2].drop 2).take (Try.prog.cellsOf 25)) = xs[2]? := hall 2 _ rfl
    have hx : xs.length = 3 := hxl
    rw [List.getElem?_eq_getElem (by omega)] at g0 g1 g2
    rw [hi] at g0 g1
    rw [hb] at g2
    change DataW.trod enc Try.prog w base spare held m 2 [c0] = _ at g0
    change DataW.trod enc Try.prog w base spare held m 2 [c1] = _ at g1
    change DataW.trod enc Try.prog w base spare held m 25 [c2] = _ at g2
    obtain ⟨s, e0, _, hs⟩ := DataW.trod_int Try.underlying2 g0
    obtain ⟨q, e1, _, hq⟩ := DataW.trod_int Try.underlying2 g1
    obtain ⟨a, len, cap, e2⟩ : ∃ a len cap, c2 = .slice a len cap := by
      rcases DataW.trod_slice Try.underlying25 g2 with ⟨h0, _⟩ | ⟨a', len', cap', _, _, _, _, hcs, _⟩
      · simp at h0; exact ⟨_, _, _, h0⟩
      · simp at hcs; exact ⟨_, _, _, hcs⟩
    simp at e0 e1
    subst e0 e1 e2
    obtain ⟨rs, hr, hf⟩ := open_flat_rows (n := 8) (ks := [.bool]) Try.underlying25 (by kernel_rfl) (by kernel_rfl) (by decide) g2
    obtain ⟨bs, hbs⟩ := rowB_of_flat hr hf
    exact ⟨s, q, a, len, cap, bs, rfl, hs, hq, hbs⟩
theorem open_ask {r : Reach} {b0 : Nat} {v : Value} {d : DataW H} {ps : List MemPlace} (hval : Value.okWide Try.prog w r b0 27 v) (hd : DataW.Trod enc Try.prog w base spare held 27 v d ps) :
    ∃ (s q : Int) (a : Option Addr) (len cap : Nat) (bs : List Bool), v = .agg #[.int .i64 s, .int .i64 q, .slice a len cap] ∧ (Lit.int .i64 s).wf = true ∧ (Lit.int .i64 q).wf = true ∧ RowB w a len cap bs := by
  obtain ⟨cs, rfl⟩ : ∃ cs, v = .agg cs := by
    unfold Value.okWide at hval
    rw [Try.underlying27] at hval
    obtain ⟨cs, h1, _⟩ := hval
    exact ⟨cs, h1⟩
  obtain ⟨fuel, hx⟩ := hd
  obtain ⟨s, q, a, len, cap, bs, e, h⟩ := ask_cells hx
  obtain ⟨l⟩ := cs
  refine ⟨s, q, a, len, cap, bs, ?_, h⟩
  have e' : l = [.int .i64 s, .int .i64 q, .slice a len cap] := e
  rw [e']
end
end Go.Proofs.Ytnmiiebfpeoafaa
