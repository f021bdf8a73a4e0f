/-
  Package rule as landed: Latest: contract; the package is as P11.1 and P11.2 say.
-/
import Derived.Test.YtidfldngiagpdaaRz2
namespace Go.Proofs.Ytidfldngiagpdaa
open Go.RowKit

def lateB (a b : Ev) : Bool := if a.d ≠ b.d then decide (b.d < a.d) else if a.i ≠ b.i then decide (a.i < b.i) else decide (a.k < b.k)
theorem later_any (a b : Ev) (w : World) : Calls Try.prog 28 #[.agg #[.int .i64 a.d, .int .i64 a.i, .int .i64 a.k], .agg #[.int .i64 b.d, .int .i64 b.i, .int .i64 b.k]] w fun e w' => e = .returned (.bool (lateB a b)) ∧ Below w.heap.size w w' := by
  by_cases h1 : a.d = b.d
  · by_cases h2 : a.i = b.i
    · rw [show lateB a b = decide (a.k < b.k) by unfold lateB; rw [if_neg (by simp [h1]), if_neg (by simp [h2])]]
      go_enter Try.func28, Try.ntmps28
      go_wp2
      go_ret
      exact ⟨rfl, wbox2 _ _ _⟩
    · rw [show lateB a b = decide (a.i < b.i) by unfold lateB; rw [if_neg (by simp [h1]), if_pos h2]]
      have h3 : ¬ b.i = a.i := fun e => h2 e.symm
      go_enter Try.func28, Try.ntmps28
      go_wp2
      go_ret
      exact ⟨rfl, wbox2 _ _ _⟩
  · rw [show lateB a b = decide (b.d < a.d) by unfold lateB; rw [if_pos h1]]
    have h3 : ¬ b.d = a.d := fun e => h1 e.symm
    go_enter Try.func28, Try.ntmps28
    go_wp2
    go_ret
    exact ⟨rfl, wbox2 _ _ _⟩
def evC (e : Ev) : Array Value := #[.int .i64 e.d, .int .i64 e.i, .int .i64 e.k]
/-- a closure that has found m so far, whose blocks are p and q -/
structure Gre (W : World) (p q : Nat) (m : Ev) : Prop where
  f : Blk W 59 p #[.func (.func 28) #[] #[]]
  m : Blk W 43 q #[.int .i64 m.d, .int .i64 m.i, .int .i64 m.k]
def greV (p q : Nat) : Value := .func (.func 34) #[] #[.pointer (some ⟨p, 0, none⟩), .pointer (some ⟨q, 0, none⟩)]
theorem Gre.below {W W' : World} {p q : Nat} {m : Ev} (h : Gre W p q m) (hb : Below W.heap.size W W') : Gre W' p q m := ⟨h.f.below hb, h.m.below hb⟩
theorem Gre.ne {W : World} {p q : Nat} {m : Ev} (h : Gre W p q m) : p ≠ q := fun e => by
  have h1 := h.f
  have h2 := h.m
  subst e
  have := Option.some.inj (h1.symm.trans h2)
  simp at this
theorem Gre.set {W : World} {p q g : Nat} {m : Ev} (h : Gre W p q m) (hp : p ≠ g) (hq : q ≠ g) (j : Nat) (v : Value) : Gre (W.setCell ⟨g, j, none⟩ v) p q m :=
  ⟨h.f.keeps ((Keeps.refl (fun k => k = g) W).set (.inl rfl) j v) hp, h.m.keeps ((Keeps.refl (fun k => k = g) W).set (.inl rfl) j v) hq⟩
theorem gre_new (m : Ev) (w : World) : Calls Try.prog 27 #[.agg #[.int .i64 m.d, .int .i64 m.i, .int .i64 m.k], .func (.func 28) #[] #[]] w fun e w' => ∃ p q, e = .returned (greV p q) ∧ Gre w' p q m ∧ w.heap.size ≤ p ∧ w.heap.size ≤ q ∧ Below w.heap.size w w' := by
  have hmf : ∀ (fn : Fn) (first cap : Array Value) (w : World), (Instr.makeFunc fn first cap).run Try.prog w = .ok (.func fn first cap) w := fun _ _ _ _ => rfl
  have K := Lib.hid ((Blk.new w 43 #[.int .i64 m.d, .int .i64 m.i, .int .i64 m.k]).alloc (.cells #[.func (.func 28) #[] #[]] 59))
  have c0 := K.out.cell 0
  have c1 := K.out.cell 1
  have c2 := K.out.cell 2
  simp at c0 c1 c2
  go_enter Try.func27, Try.ntmps27
  go_wp2
  go_ret
  refine ⟨_, _, rfl, ⟨(Blk.new2 w _ _ _).alloc _, ?_⟩, by omega, by omega, wbox3 _ _ _ _⟩
  have h := Blk.new2 (w.alloc (Obj.cells #[.int .i64 m.d, .int .i64 m.i, .int .i64 m.k] 43)) (.cells #[.func (.func 28) #[] #[]] 59) 43 #[.int .i64 m.d, .int .i64 m.i, .int .i64 m.k]
  rw [wsize] at h
  exact h
/-- of two events one that is not due ahead of the other -/
def Late (e m v : Ev) : Prop := (v = e ∨ v = m) ∧ e.d ≤ v.d ∧ m.d ≤ v.d
theorem late_yes {e m : Ev} (h : lateB e m = true) : Late e m e := by
  refine ⟨.inl rfl, by omega, ?_⟩
  unfold lateB at h
  split at h
  · simp at h; omega
  · rename_i q; have : e.d = m.d := by simpa using q
    omega
theorem late_no {e m : Ev} (h : lateB e m = false) : Late e m m := by
  refine ⟨.inr rfl, ?_, by omega⟩
  unfold lateB at h
  split at h
  · simp at h; omega
  · rename_i q; have : e.d = m.d := by simpa using q
    omega
set_option maxHeartbeats 2000000 in
theorem gre_ask (p q : Nat) (m e : Ev) (w : World) (h : Gre w p q m) : Calls Try.prog 34 #[.agg #[.int .i64 e.d, .int .i64 e.i, .int .i64 e.k], .pointer (some ⟨p, 0, none⟩), .pointer (some ⟨q, 0, none⟩)] w fun z w' => ∃ v, z = .returned (.agg #[.int .i64 v.d, .int .i64 v.i, .int .i64 v.k]) ∧ Late e m v ∧ Gre w' p q v ∧ Keeps (fun k => k = q) w w' := by
  have pl := h.f.lt
  have ql := h.m.lt
  have NE := Lib.hid h.ne
  obtain ⟨W1, hW1⟩ : ∃ W1, w.alloc (.cells #[.int .i64 e.d, .int .i64 e.i, .int .i64 e.k] 43) = W1 := ⟨_, rfl⟩
  have B1 := Lib.hid (show Below w.heap.size w W1 by rw [← hW1]; exact wbox _ _)
  have E1 := Lib.hid (show Blk W1 43 w.heap.size #[.int .i64 e.d, .int .i64 e.i, .int .i64 e.k] by rw [← hW1]; exact Blk.new _ _ _)
  obtain ⟨W2, hW2⟩ : ∃ W2, W1.alloc (.cells #[.int .i64 0, .int .i64 0, .int .i64 0] 43) = W2 := ⟨_, rfl⟩
  have B2 := Lib.hid (show Below w.heap.size w W2 by rw [← hW2]; exact below_next B1.out (wbox _ _))
  have E2 := Lib.hid (show Blk W2 43 w.heap.size #[.int .i64 e.d, .int .i64 e.i, .int .i64 e.k] by rw [← hW2]; exact E1.out.alloc _)
  have s1 : W1.heap.size = w.heap.size + 1 := by rw [← hW1]; simp
  have Z2 := Lib.hid (show Blk W2 43 (w.heap.size + 1) #[.int .i64 0, .int .i64 0, .int .i64 0] by rw [← hW2, ← s1]; exact Blk.new _ _ _)
  have G2 := Lib.hid (h.below B2.out)
  have z0 := E2.out.cell 0
  have z1 := E2.out.cell 1
  have z2 := E2.out.cell 2
  have f0 := G2.out.f.cell 0
  have m0 := G2.out.m.cell 0
  have m1 := G2.out.m.cell 1
  have m2 := G2.out.m.cell 2
  simp at z0 z1 z2 f0 m0 m1 m2
  clear h
  go_enter Try.func34, Try.ntmps34
  go_wp2_with fail
  refine (later_any e m _).mono ?_
  rintro z w3 ⟨rfl, hb⟩
  have B3 := Lib.hid (below_next B2.out hb)
  have E3 := Lib.hid (E2.out.below hb)
  have Z3 := Lib.hid (Z2.out.below hb)
  have G3 := Lib.hid (G2.out.below hb)
  clear hb z0 z1 z2 f0 m0 m1 m2
  have z0 := E3.out.cell 0
  have z1 := E3.out.cell 1
  have z2 := E3.out.cell 2
  have m0 := G3.out.m.cell 0
  have m1 := G3.out.m.cell 1
  have m2 := G3.out.m.cell 2
  have n0 := G3.out.m.free 0
  have n1 := G3.out.m.free 1
  have n2 := G3.out.m.free 2
  have y0 := Z3.out.cell 0
  have y1 := Z3.out.cell 1
  have y2 := Z3.out.cell 2
  have k0 := Z3.out.free 0
  have k1 := Z3.out.free 1
  have k2 := Z3.out.free 2

  have qn' : ¬ w.heap.size + 1 = q := by omega
  simp at z0 z1 z2 m0 m1 m2 y0 y1 y2
  cases hl : lateB e m with
  | false =>
    have LT := Lib.hid (late_no hl)
    clear hl
    go_wp2
    refine bodyPost_ret (v := .agg #[.int .i64 m.d, .int .i64 m.i, .int .i64 m.k]) (by simp [results, Try.results34, go_sem, y0, y1, y2]) rfl ⟨m, rfl, LT.out, ?_, ?_⟩
    · exact ((G3.out.set (by omega) (by omega) 0 _).set (by omega) (by omega) 1 _).set (by omega) (by omega) 2 _
    · exact ((((Keeps.of B3.out).set (.inr (by omega)) 0 _).set (.inr (by omega)) 1 _).set (.inr (by omega)) 2 _)
  | true =>
    have LT := Lib.hid (late_yes hl)
    clear hl
    go_wp2
    refine bodyPost_ret (v := .agg #[.int .i64 e.d, .int .i64 e.i, .int .i64 e.k]) (by simp [results, Try.results34, go_sem, y0, y1, y2]) rfl ⟨e, rfl, LT.out, ?_, ?_⟩
    · refine (((Gre.set (p := p) (q := q) ?_ (by omega) (by omega) 0 _).set (by omega) (by omega) 1 _).set (by omega) (by omega) 2 _)
      have ne := NE.out
      refine ⟨?_, ?_⟩
      · exact G3.out.f.keeps ((((Keeps.refl (fun k => k = q) w3).set (.inl rfl) 0 _).set (.inl rfl) 1 _).set (.inl rfl) 2 _) ne
      · have h := ((G3.out.m.setBE 0 (.int .i64 e.d)).setBE 1 (.int .i64 e.i)).setBE 2 (.int .i64 e.k)
        simpa using h
    · exact (((((((Keeps.of (F := fun k => k = q) B3.out).set (.inl rfl) 0 _).set (.inl rfl) 1 _).set (.inl rfl) 2 _).set (.inr (by omega)) 0 _).set (.inr (by omega)) 1 _).set (.inr (by omega)) 2 _)
end Go.Proofs.Ytidfldngiagpdaa
