/-
  Calls that turn one block that was there: words; and the document's own stepper's Next: contract.
-/
import Derived.Test.YthaoijmjkmgebaaWr4
namespace Go.Proofs.Ythaoijmjkmgebaa
open Go.RowKit

/-- but for block g all that was there is as it was -/
structure But (g : Nat) (w w' : World) : Prop where
  os : w'.os = w.os
  tape : w'.tape = w.tape
  output : w'.output = w.output
  size : w.heap.size ≤ w'.heap.size
  block : ∀ k, k < w.heap.size → k ≠ g → w'.heap[k]? = w.heap[k]?
theorem But.of {g : Nat} {w w' : World} (h : Below w.heap.size w w') : But g w w' := ⟨h.os, h.tape, h.output, h.size, fun k hk _ => h.block k hk⟩
theorem But.refl (g : Nat) (w : World) : But g w w := But.of (Below.refl _ _)
theorem But.trans {g : Nat} {a b c : World} (h : But g a b) (k : But g b c) : But g a c :=
  ⟨k.os.trans h.os, k.tape.trans h.tape, k.output.trans h.output, Nat.le_trans h.size k.size, fun i hi hg => (k.block i (Nat.lt_of_lt_of_le hi h.size) hg).trans (h.block i hi hg)⟩
theorem But.next {g : Nat} {a b c : World} (h : But g a b) (k : Below b.heap.size b c) : But g a c := h.trans (But.of k)
theorem But.set {g : Nat} {a w : World} (h : But g a w) (j : Nat) (v : Value) : But g a (w.setCell ⟨g, j, none⟩ v) :=
  h.trans ⟨rfl, rfl, rfl, by simp [World.setCell], fun k _ hg => Below.heap_setCell _ _ _ _ hg⟩
theorem But.own {g : Nat} {a w : World} (h : But g a w) {p : Addr} (hp : a.heap.size ≤ p.block) (v : Value) : But g a (w.setCell p v) :=
  ⟨h.os, h.tape, h.output, by simpa [World.setCell] using h.size, fun k hk hg => (Below.heap_setCell _ _ _ _ (by omega)).trans (h.block k hk hg)⟩
theorem But.own5 {k : Nat} {w W : World} {g : Nat} {u v x y z : Value} (h : But k w W) (hg : w.heap.size ≤ g) :
    But k w (((((W.setCell ⟨g, 0, none⟩ u).setCell ⟨g, 1, none⟩ v).setCell ⟨g, 2, none⟩ x).setCell ⟨g, 3, none⟩ y).setCell ⟨g, 4, none⟩ z) :=
  ((((h.own hg _).own hg _).own hg _).own hg _).own hg _
theorem Blk.but {W W' : World} {T : TypeId} {k g : Nat} {cs : Array Value} (h : Blk W T k cs) (hb : But g W W') (hne : k ≠ g) : Blk W' T k cs := (hb.block k h.lt hne).trans h
/-- what turned is a block of the caller's own -/
theorem But.below {g n : Nat} {w a b : World} (h : But g a b) (hb : Below n w a) (hn : n ≤ g) (hw : n ≤ a.heap.size) : Below n w b :=
  ⟨h.os.trans hb.os, h.tape.trans hb.tape, h.output.trans hb.output, Nat.le_trans hb.size h.size, fun k hk => (h.block k (by omega) (by omega)).trans (hb.block k hk)⟩

end Go.Proofs.Ythaoijmjkmgebaa
