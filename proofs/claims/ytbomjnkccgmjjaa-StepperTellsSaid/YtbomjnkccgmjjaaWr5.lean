/-
  Calls that turn one block that was there: words; and the document's own stepper's Next: contract.
-/
import Derived.Test.YtbomjnkccgmjjaaWr4
namespace Go.Proofs.Ytbomjnkccgmjjaa
open Go.RowKit

/-- but for block g all that was there is as it was -/
structure But (g : Nat) (w w' : World) : Prop where
  os : w'.os = w.os
  tape : w'.tape = w.tape
  output : w'.output = w.output
  size : w.heap.size ≤ w'.heap.size
  block : ∀ k, k < w.heap.size → k ≠ g → w'.heap[k]? = w.heap[k]?
theorem But.of {g : Nat} {w w' : World} (h : Below w.heap.size w w') : But g w w' := ⟨h.os, h.tape, h.output, h.size, fun k hk _ => h.block k hk⟩
theorem But.refl (g : Nat) (w : World) : But g w w := But.of (Below.refl _ _)
theorem But.trans {g : Nat} {a b c : World} (h : But g a b) (k : But g b c) : But g a c :=
  ⟨k.os.trans h.os, k.tape.trans h.tape, k.output.trans h.output, Nat.le_trans h.size k.size, fun i hi hg => (k.block i (Nat.lt_of_lt_of_le hi h.size) hg).trans (h.block i hi hg)⟩
theorem But.next {g : Nat} {a b c : World} (h : But g a b) (k : Below b.heap.size b c) : But g a c := h.trans (But.of k)
theorem But.set {g : Nat} {a w : World} (h : But g a w) (j : Nat) (v : Value) : But g a (w.setCell ⟨g, j, none⟩ v) :=
  h.trans ⟨rfl, rfl, rfl, by simp [World.setCell], fun k _ hg => Below.heap_setCell _ _ _ _ hg⟩
theorem But.own {g : Nat} {a w : World} (h : But g a w) {p : Addr} (hp : a.heap.size ≤ p.block) (v : Value) : But g a (w.setCell p v) :=
  ⟨h.os, h.tape, h.output, by simpa [World.setCell] using h.size, fun k hk hg => (Below.heap_setCell _ _ _ _ (by omega)).trans (h.block k hk hg)⟩
theorem But.own5 {k : Nat} {w W : World} {g : Nat} {u v x y z : Value} (h : But k w W) (hg : w.heap.size ≤ g) :
    But k w (((((W.setCell ⟨g, 0, none⟩ u).setCell ⟨g, 1, none⟩ v).setCell ⟨g, 2, none⟩ x).setCell ⟨g, 3, none⟩ y).setCell ⟨g, 4, none⟩ z) :=
  ((((h.own hg _).own hg _).own hg _).own hg _).own hg _
theorem Blk.but {W W' : World} {T : TypeId} {k g : Nat} {cs : Array Value} (h : Blk W T k cs) (hb : But g W W') (hne : k ≠ g) : Blk W' T k cs := (hb.block k h.lt hne).trans h
/-- what turned is a block of the caller's own -/
theorem But.below {g n : Nat} {w a b : World} (h : But g a b) (hb : Below n w a) (hn : n ≤ g) (hw : n ≤ a.heap.size) : Below n w b :=
  ⟨h.os.trans hb.os, h.tape.trans hb.tape, h.output.trans hb.output, Nat.le_trans hb.size h.size, fun k hk => (h.block k (by omega) (by omega)).trans (hb.block k hk)⟩

set_option maxHeartbeats 4000000 in
theorem r5next_yes (E P O I : Int) (g : Nat) (w : World) (h : Blk w 32 g (stC E P O I)) (hM : MayBe E P) (hI : Nth I) (O0 : 0 ≤ O) (O1 : O ≤ 2305843009213693952) :
    Calls Try.prog 17 #[.pointer (some ⟨g, 0, none⟩)] w fun e w' => e = .returned (aheadV E P O I) ∧ Blk w' 32 g (stC E P O (I + 1)) ∧ But g w w' := by
  have HM := Lib.hid hM; have HI := Lib.hid hI
  have i0 : 1 ≤ I := hI.1
  have i1 : I ≤ 1099511627776 := hI.2
  have gl := h.lt
  have K := Lib.hid (h.alloc (Obj.cells #[Value.int .i64 0, Value.int .i64 0, Value.int .i64 0, Value.int .i64 0, Value.int .i64 0] 35))
  have L := Lib.hid (Blk.new w 35 #[Value.int .i64 0, Value.int .i64 0, Value.int .i64 0, Value.int .i64 0, Value.int .i64 0])
  clear h hM hI
  go_enter Try.func17, Try.ntmps17
  go_wp2_with fail
  refine (r5peek_yes E P O I g _ K.out HM.out HI.out O0 O1).mono ?_
  rintro e w1 ⟨rfl, hb⟩
  have B := Lib.hid (below_next (wbox _ _) hb)
  have K := Lib.hid (K.out.below hb)
  have L := Lib.hid (L.out.below hb)
  have g1 := K.out.lt
  clear hb
  obtain ⟨a1, a2, a3, a4, ha⟩ : ∃ a1 a2 a3 a4 : Int, aheadV E P O I = .agg #[.int .i64 I, .int .i64 a1, .int .i64 a2, .int .i64 a3, .int .i64 a4] := ⟨_, _, _, _, rfl⟩
  have KA := Lib.hid (K.out.alloc (Obj.cells #[.int .i64 I, .int .i64 a1, .int .i64 a2, .int .i64 a3, .int .i64 a4] 35))
  have LA := Lib.hid ((L.out.other ⟨g, 3, none⟩ (.int .i64 (I + 1)) (show w.heap.size ≠ g by omega)).alloc (Obj.cells #[.int .i64 I, .int .i64 a1, .int .i64 a2, .int .i64 a3, .int .i64 a4] 35))
  have k3 := KA.out.cell 3
  have e3 := KA.out.free 3
  have s0 := LA.out.cell 0; have s1 := LA.out.cell 1; have s2 := LA.out.cell 2; have s3 := LA.out.cell 3; have s4 := LA.out.cell 4
  have f0 := LA.out.free 0; have f1 := LA.out.free 1; have f2 := LA.out.free 2; have f3 := LA.out.free 3; have f4 := LA.out.free 4
  simp [stC] at k3 s0 s1 s2 s3 s4
  have n1 : ¬ g = w.heap.size := by omega
  have n2 : ¬ w.heap.size = g := by omega
  have n3 : ¬ g = w1.heap.size := by omega
  have n4 : ¬ w1.heap.size = g := by omega
  have n5 : ¬ w1.heap.size = w.heap.size := by have := L.out.lt; omega
  have n6 : ¬ w.heap.size = w1.heap.size := by have := L.out.lt; omega
  rw [ha]
  go_wp2
  refine bodyPost_ret (v := aheadV E P O I) (by rw [ha]; simp [results, Try.results17, go_sem, s0, s1, s2, s3, s4]) rfl ⟨rfl, ?_, ?_⟩
  · exact (((K.out.set 3 (.int .i64 (I + 1))).alloc _).other5 (fun e => n1 e))
  · exact (((But.of B.out).set 3 _).next (wbox _ _)).own5 (Nat.le_refl _)
end Go.Proofs.Ytbomjnkccgmjjaa
