/-
  What the laws' own awake gives back; slices that came in.
-/
import Derived.Test.YtenibpnifnlfeaaNat13
namespace Go.Proofs.Ytenibpnifnlfeaa
open Go.RowKit

def ddAwake : List Int := [6, 1, 6, 1, 5, 5, 9, 0, 7, 3, 7, 0, 4, 4, 7, 6, 4, 4, 8, 1]
theorem is_awake : Is 10 ddAwake 18446744073709551616 := ⟨by unfold ddAwake Digs; decide, by unfold ddAwake Top; decide, by unfold ddAwake; simp [val]⟩
theorem text_awake : textL ddAwake = [49, 56, 52, 52, 54, 55, 52, 52, 48, 55, 51, 55, 48, 57, 53, 53, 49, 54, 49, 54] := by decide +kernel

theorem row_came {w : World} {x : Addr} {len cap : Nat} {zs : List Int} (hl : len ≤ cap) (hm : cap ≤ maxLen) (hz : zs.length = cap) (hc : ∀ i, i < zs.length → w.cell? (x.add i) = some (.int .u32 (zs.getD i 0))) :
    Row .u32 w (some x) len cap (zs.take len) := by
  refine ⟨by rw [List.length_take, hz]; omega, hl, by unfold maxLen at hm; omega, (fun e => by cases e), fun i hi => ?_⟩
  obtain ⟨b, off, rfl, hc'⟩ := ints_at hc (by omega)
  refine ⟨b, off, rfl, ?_⟩
  rw [hc' i (by omega), List.getD_eq_getElem?_getD, List.getD_eq_getElem?_getD, List.getElem?_take_of_lt hi]
theorem digs_came {zs : List Int} {len : Nat} (h : ∀ n ∈ zs, (Lit.int .u32 n).wf = true) : Digs 4294967296 (zs.take len) := fun z hz => by
  have := bounds_u32 (h z (List.mem_of_mem_take hz))
  omega
end Go.Proofs.Ytenibpnifnlfeaa
