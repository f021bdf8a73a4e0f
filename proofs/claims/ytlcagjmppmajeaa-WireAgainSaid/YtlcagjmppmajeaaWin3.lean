/-
  What package exact's Mul, Floor and Ceil give back of numbers that are not below 0, and package window's parts and its closure: contracts.
-/
import Derived.Test.YtlcagjmppmajeaaWin2
import Derived.Laws.Rows
import Derived.OneCell
namespace Go.Proofs.Ytlcagjmppmajeaa
open Go.RowKit

/-! ### blocks -/
/-- block g holds the cells cs, each free -/
def Blk (W : World) (T : TypeId) (g : Nat) (cs : Array Value) : Prop := W.heap[g]? = some (.cells cs T (0, 0))
theorem Blk.lt {W : World} {T : TypeId} {g : Nat} {cs : Array Value} (h : Blk W T g cs) : g < W.heap.size := lt_of_block h
theorem Blk.below {W W' : World} {T : TypeId} {g : Nat} {cs : Array Value} (h : Blk W T g cs) (hb : Below W.heap.size W W') : Blk W' T g cs := (hb.block g (lt_of_block h)).trans h
theorem Blk.cell {W : World} {T : TypeId} {g : Nat} {cs : Array Value} (h : Blk W T g cs) (j : Nat) : W.cell? ⟨g, j, none⟩ = cs[j]? := cell_of_row W g j cs T (0, 0) h
theorem Blk.free {W : World} {T : TypeId} {g : Nat} {cs : Array Value} (h : Blk W T g cs) (j : Nat) : W.frozen? ⟨g, j, none⟩ = false := frozen_of_row W g j cs T h
theorem Blk.drew {W : World} {T : TypeId} {g : Nat} {cs : Array Value} (h : Blk W T g cs) : Blk W.drew T g cs := h
theorem Blk.new (W : World) (T : TypeId) (cs : Array Value) : Blk (W.alloc (.cells cs T)) T W.heap.size cs := heap_alloc_new _ _
theorem wbox (w : World) (o : Obj) : Below w.heap.size w (w.alloc o) := (Below.refl _ _).alloc (Nat.le_refl _) _
theorem Blk.alloc {W : World} {T : TypeId} {g : Nat} {cs : Array Value} (h : Blk W T g cs) (o : Obj) : Blk (W.alloc o) T g cs := h.below (wbox W o)
theorem wsize (w : World) (o : Obj) : (w.alloc o).heap.size = w.heap.size + 1 := by simp
theorem Blk.new2 (W : World) (o : Obj) (T : TypeId) (cs : Array Value) : Blk ((W.alloc o).alloc (.cells cs T)) T (W.heap.size + 1) cs := by rw [← wsize W o]; exact Blk.new _ _ _
theorem wbox2 (w : World) (o1 o2 : Obj) : Below w.heap.size w ((w.alloc o1).alloc o2) := below_next (wbox w o1) (wbox _ o2)
theorem wbox3 (w : World) (o1 o2 o3 : Obj) : Below w.heap.size w (((w.alloc o1).alloc o2).alloc o3) := below_next (wbox2 w o1 o2) (wbox _ o3)

end Go.Proofs.Ytlcagjmppmajeaa
