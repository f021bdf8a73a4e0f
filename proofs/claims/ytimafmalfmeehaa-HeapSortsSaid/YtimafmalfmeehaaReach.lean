/-
  How long a slice that was handed over can be at most: by what the form itself says of its size.
-/
import Derived.Test.YtimafmalfmeehaaKit
import Derived.ChangeArms
import Derived.SizedLaws
namespace Go.Proofs.Ytimafmalfmeehaa
open Go.RowKit

theorem reach_of {H : Type} {enc : TypeId × Value → H} {P : Program} {w : World} {base : Nat} {sp : Nat → Bool} {held : Bool} {ts : List TypeId} {ds : List (DataW H)} {t e : TypeId} {a : Option Addr} {len cap : Nat} {d : DataW H} {p : List MemPlace}
    (h : (DataW.weightsEach P ts ds).all (· ≤ reachBytes) = true) {j : Nat} (ht : ts[j]? = some t) (hd : ds[j]? = some d) (hu : P.underlying t = some (.slice e)) (hb : 0 < P.bytesOf e) (k : DataW.Trod enc P w base sp held t (.slice a len cap) d p) : len ≤ 140737488351232 := by
  obtain ⟨fuel, hf⟩ := k
  rcases DataW.trod_slice hu hf with ⟨h0, _⟩ | ⟨a', len', cap', elems, rest, n, _, hcs, hx, _, _, _, hel, _⟩
  · simp [Value.cells] at h0
    omega
  · simp [Value.cells] at hcs
    obtain ⟨_, rfl, _⟩ := hcs
    simp only [Prod.mk.injEq] at hx
    rw [hx.1] at hd
    have := sized_slice h ht hd hu
    rw [List.length_map, hel] at this
    have h2 := Nat.mul_le_mul_left (len + (rest.map (·.1)).length) hb
    simp only [reachBytes] at this
    omega
end Go.Proofs.Ytimafmalfmeehaa
