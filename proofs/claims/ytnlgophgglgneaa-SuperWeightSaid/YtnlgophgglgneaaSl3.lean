/-
  A row of structs of two numbers, as the frame gives it, is a row of pairs.
-/
import Derived.Test.YtnlgophgglgneaaFlat2
import Derived.Test.YtnlgophgglgneaaSl2
namespace Go.Proofs.Ytnlgophgglgneaa
open Go.RowKit

theorem rowp_of_flat {w : World} {a : Option Addr} {len cap : Nat} {rs : List (List Value)} (h : RowF w a len cap 2 rs) (g : ∀ r ∈ rs, Fit [.int .i64, .int .i64] r) :
    ∃ ps : List (Int × Int), RowP w a len cap ps := by
  obtain ⟨h1, h2, h3, h4, h5⟩ := h
  refine ⟨rs.map (fun r => (intOf (r.getD 0 (.int .i64 0)), intOf (r.getD 1 (.int .i64 0)))), by simp [h1], h2, h3, h4, fun i hi => ?_⟩
  obtain ⟨b, off, e, hc⟩ := h5 i hi
  refine ⟨b, off, e, ?_⟩
  have c0 := hc 0 (by omega)
  have c1 := hc 1 (by omega)
  rw [Nat.add_zero] at c0
  have hm : rs[i]? = some rs[i] := List.getElem?_eq_getElem (by omega)
  obtain ⟨z, r, hr, _, hn⟩ := (g rs[i] (List.getElem_mem (by omega))).int
  obtain ⟨y, r', hr', _, hn'⟩ := hn.int
  have hn'' := hn'.nil
  subst hn''
  subst hr'
  rw [c0, c1, List.getD_eq_getElem?_getD, hm, List.getD_eq_getElem?_getD, List.getElem?_map, hm]
  simp [hr, intOf]
end Go.Proofs.Ytnlgophgglgneaa
