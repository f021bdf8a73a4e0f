/-
  A channel of numbers, what lies in it; seats over a channel and a row of truths.
-/
import Derived.Test.YtgkmhnkndjfcaaaUw0
import Derived.Test.YtgkmhnkndjfcaaaUe0
namespace Go.Proofs.Ytgkmhnkndjfcaaa
open Go.Conc Go.RowKit

/-- block c is an open channel with room for cap, xs lie in it, the eldest first -/
def Ch (w : World) (c cap : Nat) (xs : List Int) : Prop := ∃ s r, w.heap[c]? = some (.chan cap (xs.map (Value.int .i64)).toArray false s r false)
theorem Ch.lt {w : World} {c cap : Nat} {xs : List Int} (h : Ch w c cap xs) : c < w.heap.size := by
  obtain ⟨s, r, h⟩ := h
  exact lt_of_block h
theorem Ch.on {w w' : World} {c cap : Nat} {xs : List Int} (h : Ch w c cap xs) (hb : w'.heap[c]? = w.heap[c]?) : Ch w' c cap xs := by
  obtain ⟨s, r, h⟩ := h
  exact ⟨s, r, hb.trans h⟩
theorem blk_setChan {w : World} {T : TypeId} {g : Nat} {cs : Array Value} (h : Blk w T g cs) (c cap : Nat) (buf : Array Value) (cl : Bool) (s r : Nat) (tm : Bool) (hne : g ≠ c) : Blk (w.setChan c cap buf cl s r tm) T g cs := by
  unfold Blk at h ⊢
  simp only [World.setChan]
  rw [Array.getElem?_setIfInBounds_ne (by omega)]
  exact h
theorem setChan_block (w : World) {c k : Nat} (cap : Nat) (buf : Array Value) (cl : Bool) (s r : Nat) (tm : Bool) (hne : k ≠ c) : (w.setChan c cap buf cl s r tm).heap[k]? = w.heap[k]? := by
  simp only [World.setChan]
  rw [Array.getElem?_setIfInBounds_ne (by omega)]
theorem Ch.set {w : World} {c cap : Nat} {xs : List Int} (h : Ch w c cap xs) (ys : List Int) (s r : Nat) : Ch (w.setChan c cap (ys.map (Value.int .i64)).toArray false s r false) c cap ys :=
  ⟨s, r, heap_setChan _ _ _ _ _ _ _ _ h.lt⟩

end Go.Proofs.Ytgkmhnkndjfcaaa
