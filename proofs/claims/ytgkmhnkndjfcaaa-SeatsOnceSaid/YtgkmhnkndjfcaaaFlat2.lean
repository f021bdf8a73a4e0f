/-
  A slice of numbers of 64 bits that was handed over, as a row.
-/
import Derived.Test.YtgkmhnkndjfcaaaKit
import Derived.Test.YtgkmhnkndjfcaaaFlat
namespace Go.Proofs.Ytgkmhnkndjfcaaa
open Go.RowKit

theorem row_of_flat {w : World} {a : Option Addr} {len cap : Nat} {rs : List (List Value)} (h : RowF w a len cap 1 rs) (g : ∀ r ∈ rs, Fit [.int .i64] r) :
    ∃ zs, Row .i64 w a len cap zs ∧ ∀ z ∈ zs, (Lit.int .i64 z).wf = true := by
  obtain ⟨h1, h2, h3, h4, h5⟩ := h
  refine ⟨rs.map (fun r => intOf (r.getD 0 (.int .i64 0))), ⟨by simp [h1], h2, h3, h4, fun i hi => ?_⟩, fun z hz => ?_⟩
  · obtain ⟨b, off, e, hc⟩ := h5 i hi
    refine ⟨b, off, e, ?_⟩
    have c := hc 0 (by omega)
    rw [Nat.mul_one, Nat.add_zero] at c
    have hm : rs[i]? = some rs[i] := List.getElem?_eq_getElem (by omega)
    obtain ⟨z, r, hr, _, hn⟩ := (g rs[i] (List.getElem_mem (by omega))).int
    have hn := hn.nil
    subst hn
    rw [c, List.getD_eq_getElem?_getD, hm, List.getD_eq_getElem?_getD, List.getElem?_map, hm]
    simp [hr, intOf]
  · rw [List.mem_map] at hz
    obtain ⟨r, hr, rfl⟩ := hz
    obtain ⟨z, q, rfl, hw, _⟩ := (g r hr).int
    simpa [intOf] using hw
end Go.Proofs.Ytgkmhnkndjfcaaa
