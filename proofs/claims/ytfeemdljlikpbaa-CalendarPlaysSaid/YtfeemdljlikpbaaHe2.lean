/-
  Package heap as landed: ask, ahead: contracts.
-/
import Derived.Test.YtfeemdljlikpbaaHe1
import Derived.Defers
import Derived.Recover
import Derived.Laws.Pointers
import Derived.Maps.OwnSet
import Derived.StillTailTactics
namespace Go.Proofs.Ytfeemdljlikpbaa
open Go.RowKit

variable {TT : TypeId}
/-- what the order's function tells -/
structure LessE (L : FuncId) (ltb : Ev → Ev → Bool) : Prop where
  tells : ∀ (a b : Ev) (w : World), Calls Try.prog L #[a.v, b.v] w fun e w' => e = .returned (.bool (ltb a b)) ∧ Below w.heap.size w w'
  enters : ∀ (args : Array Value) (w : World), (callFunc L args).run Try.prog w = .ok (.enter L args) w
/-- the cells of a heap: its order, its row, where each one stands, whether its order is being asked -/
def HVE (L : FuncId) (v : Value) (m : Nat) (q : Bool) : Array Value := #[.func (.func L) #[] #[], v, .map (some m), .bool q]

theorem ask_backE (p : Addr) (g : Nat) (cs : Array Value) (w : World) (hc : w.cell? p = some (.pointer (some ⟨g, 0, none⟩))) (hb : Blk w TT g cs) (h3 : 3 < cs.size) :
    CallsD Try.prog 42 #[.pointer (some p)] .returning w fun e u' w' => e = .returned (.tuple #[]) ∧ u' = .returning ∧ w' = w.setCell ⟨g, 3, none⟩ (.bool false) := by
  have c3 := hb.cell 3
  have f3 := hb.free 3
  rw [Array.getElem?_eq_getElem h3] at c3
  refine callsD_of_wpS Try.func42 rfl fun c₀ cs hu => ?_
  apply wpS_seq
  apply wpS_region
  simp [wpOpsS, go_sem, recoverD, hu, Try.ntmps42, Exit.thenS, hc, c3, f3]
  apply wpS_region
  cases c₀
  simp_all [wpOpsS, go_sem, recoverD, bodyPostS, results, Try.results42]
/-- what a call on the heap in F may leave otherwise -/
theorem Keeps.aloneE {F : Nat → Prop} {g : Nat} {w w' : World} (h : Keeps (fun k => k = g) w w') (hg : F g) : Keeps F w w' := ⟨h.os, h.tape, h.output, h.size, fun k hk hf => h.block k hk (fun e => hf (by rw [e]; exact hg))⟩
theorem Blk.byE {W : World} {T : TypeId} {n : Nat} {cs : Array Value} (h : W.heap.size = n) : Blk (W.alloc (.cells cs T)) T n cs := h ▸ Blk.new W T cs
set_option maxHeartbeats 1000000 in
theorem ask_anyE (L : FuncId) (ltb : Ev → Ev → Bool) (ok : LessE L ltb) (g : Nat) (v : Value) (m : Nat) (a b : Ev) (w : World) (hb : Blk w TT g (HVE L v m false)) :
    Calls Try.prog 41 #[.pointer (some ⟨g, 0, none⟩), .agg #[.int .i64 a.d, .int .i64 a.i, .int .i64 a.k], .agg #[.int .i64 b.d, .int .i64 b.i, .int .i64 b.k]] w fun e w' => e = .returned (.bool (ltb a b)) ∧ Blk w' TT g (HVE L v m false) ∧ Keeps (fun k => k = g) w w' := by
  have hmf : ∀ (fn : Fn) (first cap : Array Value) (w : World), (Instr.makeFunc fn first cap).run Try.prog w = .ok (.func fn first cap) w := fun _ _ _ _ => rfl
  have OK := Lib.hid (show ∀ w : World, Calls Try.prog L #[.agg #[.int .i64 a.d, .int .i64 a.i, .int .i64 a.k], .agg #[.int .i64 b.d, .int .i64 b.i, .int .i64 b.k]] w fun e w' => e = .returned (.bool (ltb a b)) ∧ Below w.heap.size w w' from ok.tells a b)
  have hen := ok.enters
  have gl := hb.lt
  obtain ⟨W1, hW1⟩ : ∃ W1, ((w.alloc (.cells #[.pointer (some ⟨g, 0, none⟩)] 49)).alloc (.cells #[.int .i64 a.d, .int .i64 a.i, .int .i64 a.k] 31)).alloc (.cells #[.int .i64 b.d, .int .i64 b.i, .int .i64 b.k] 31) = W1 := ⟨_, rfl⟩
  have P1 := Lib.hid (show Blk W1 49 w.heap.size #[.pointer (some ⟨g, 0, none⟩)] by rw [← hW1]; exact ((Blk.new w _ _).alloc _).alloc _)
  have A1 := Lib.hid (show Blk W1 31 (w.heap.size + 1) #[.int .i64 a.d, .int .i64 a.i, .int .i64 a.k] by rw [← hW1]; exact (Blk.byE (by simp)).alloc _)
  have B1 := Lib.hid (show Blk W1 31 (w.heap.size + 1 + 1) #[.int .i64 b.d, .int .i64 b.i, .int .i64 b.k] by rw [← hW1]; exact Blk.byE (by simp))
  have KK := Lib.hid (show Below w.heap.size w W1 by rw [← hW1]; exact wbox3 _ _ _ _)
  have G1 := Lib.hid (hb.below KK.out)
  have c3 := G1.out.cell 3
  have f3 := G1.out.free 3
  have p0 := P1.out.cell 0
  simp [HVE] at c3 p0
  obtain ⟨W2, hW2⟩ : ∃ W2, W1.setCell ⟨g, 3, none⟩ (.bool true) = W2 := ⟨_, rfl⟩
  have G2 := Lib.hid (show Blk W2 TT g (HVE L v m true) by rw [← hW2]; exact G1.out.setBE 3 (.bool true))
  have K2 := Lib.hid (show Keeps (fun k => k = g) W1 W2 by rw [← hW2]; exact (Keeps.refl (fun k => k = g) W1).set (.inl rfl) _ _)
  have P2 := Lib.hid (P1.out.keeps K2.out (by omega))
  have A2 := Lib.hid (A1.out.keeps K2.out (by omega))
  have B2 := Lib.hid (B1.out.keeps K2.out (by omega))
  have q0 := P2.out.cell 0
  have q1 := G2.out.cell 0
  have a0 := A2.out.cell 0
  have a1 := A2.out.cell 1
  have a2 := A2.out.cell 2
  have b0 := B2.out.cell 0
  have b1 := B2.out.cell 1
  have b2 := B2.out.cell 2
  simp [HVE] at q0 q1 a0 a1 a2 b0 b1 b2
  clear hb ok
  go_enter_defers Try.func41, Try.ntmps41
  go_wp2_with fail
  go_still_tail 6, (by kernel_rfl)
  change wpList _ _ _ _ _ W2.drew
  have D2 := Lib.hid (show Keeps (fun k => k = g) W2 W2.drew from (Keeps.refl (fun k => k = g) W2).drew)
  have PD := Lib.hid P2.out.drew
  have GD := Lib.hid G2.out.drew
  clear q0 q1 a0 a1 a2 b0 b1 b2
  generalize W2.drew = W3 at D2 PD GD ⊢
  go_wp2_with fail
  refine (OK.out _).mono ?_
  rintro e W4 ⟨rfl, hB⟩
  have G4 := Lib.hid (GD.out.below hB)
  have P4 := Lib.hid (PD.out.below hB)
  have K4 := Lib.hid (Keeps.of (F := fun k => k = g) hB)
  clear hB
  go_wp2
  refine leaves_cons (f := 42) (args := #[.pointer (some ⟨w.heap.size, 0, none⟩)]) (by simp) (by simp [go_sem]) ?_
  refine (ask_backE ⟨w.heap.size, 0, none⟩ g (HVE L v m true) _ ?_ G4.out (by simp [HVE])).mono ?_
  · have := P4.out.cell 0
    simpa using this
  rintro e u' w'' ⟨rfl, rfl, rfl⟩
  have fin : Blk (W4.setCell ⟨g, 3, none⟩ (.bool false)) TT g (HVE L v m false) ∧ Keeps (fun k => k = g) w (W4.setCell ⟨g, 3, none⟩ (.bool false)) :=
    ⟨G4.out.setBE 3 (.bool false), (((((Keeps.of (F := fun k => k = g) KK.out).trans K2.out (fun _ q => .inl q)).trans D2.out (fun _ q => .inl q)).trans K4.out (fun _ q => .inl q)).set (.inl rfl) _ _)⟩
  simp [Leaves, settle, results, Try.results41, go_sem]
  exact fin
/-- two things, each in a box of its own -/
def BoxTE (w : World) (x y : Te) (s t : Value) (W : World) : Prop := ∃ p q, s = .pointer (some ⟨p, 0, none⟩) ∧ t = .pointer (some ⟨q, 0, none⟩) ∧ Blk W 73 p #[.int .i64 x.n, .int .i64 x.e.d, .int .i64 x.e.i, .int .i64 x.e.k] ∧ Blk W 73 q #[.int .i64 y.n, .int .i64 y.e.d, .int .i64 y.e.i, .int .i64 y.e.k] ∧ w.heap.size ≤ p ∧ w.heap.size ≤ q ∧ Below w.heap.size w W
theorem boxt_oneE (w : World) (x y : Te) : BoxTE w x y (.pointer (some ⟨w.heap.size, 0, none⟩)) (.pointer (some ⟨w.heap.size + 1, 0, none⟩)) ((w.alloc (.cells #[.int .i64 x.n, .int .i64 x.e.d, .int .i64 x.e.i, .int .i64 x.e.k] 73)).alloc (.cells #[.int .i64 y.n, .int .i64 y.e.d, .int .i64 y.e.i, .int .i64 y.e.k] 73)).drew :=
  ⟨_, _, rfl, rfl, ((Blk.byE (by simp)).alloc _).drew, (Blk.byE (by simp)).drew, by omega, by omega, (wbox2 _ _ _).drew⟩
theorem boxt_twoE (w : World) (x y : Te) : BoxTE w x y (.pointer (some ⟨w.heap.size + 1, 0, none⟩)) (.pointer (some ⟨w.heap.size, 0, none⟩)) ((w.alloc (.cells #[.int .i64 y.n, .int .i64 y.e.d, .int .i64 y.e.i, .int .i64 y.e.k] 73)).alloc (.cells #[.int .i64 x.n, .int .i64 x.e.d, .int .i64 x.e.i, .int .i64 x.e.k] 73)).drew :=
  ⟨_, _, rfl, rfl, (Blk.byE (by simp)).drew, ((Blk.byE (by simp)).alloc _).drew, by omega, by omega, (wbox2 _ _ _).drew⟩
set_option maxRecDepth 20000 in
set_option maxHeartbeats 4000000 in
theorem ahead_anyE (L : FuncId) (ltb : Ev → Ev → Bool) (ok : LessE L ltb) (g b n cap m i j : Nat) (x y : Te) (w : World) (hb : Blk w TT g (HVE L (.slice (some ⟨b, 0, none⟩) n cap) m false)) (hx : TeAt w b (i * 4) x) (hy : TeAt w b (j * 4) y) (hi : i < n) (hj : j < n) :
    Calls Try.prog 40 #[.pointer (some ⟨g, 0, none⟩), .int .i64 i, .int .i64 j] w fun e w' => e = .returned (.bool (decide (AheadE ltb x y))) ∧ Blk w' TT g (HVE L (.slice (some ⟨b, 0, none⟩) n cap) m false) ∧ Keeps (fun k => k = g) w w' := by
  have OK := Lib.hid ok
  have BK := Lib.hid hb
  have c1 := hb.cell 1
  simp [HVE] at c1
  have x0 := hx.c0
  have x1 := hx.c1
  have x2 := hx.c2
  have x3 := hx.c3
  have y0 := hy.c0
  have y1 := hy.c1
  have y2 := hy.c2
  have y3 := hy.c3
  have i1 : (i : Int) < (n : Int) := by omega
  have i2 : 0 ≤ (i : Int) := by omega
  have j1 : (j : Int) < (n : Int) := by omega
  have j2 : 0 ≤ (j : Int) := by omega
  have KX := Lib.hid hx
  have KY := Lib.hid hy
  clear hb hx hy ok
  go_enter Try.func40, Try.ntmps40
  go_upto_region 1 with fail
  go_cut [7, 8] (fun s5 s6 wx => BoxTE w x y s5 s6 wx)
  case first =>
    go_region_held3 (fun W => W.cell? ⟨g, 1, none⟩ = some (.slice (some ⟨b, 0, none⟩) n cap) ∧ W.cell? ⟨b, i * 4, none⟩ = some (.int .i64 x.n) ∧ W.cell? ⟨b, i * 4 + 1, none⟩ = some (.int .i64 x.e.d) ∧ W.cell? ⟨b, i * 4 + 2, none⟩ = some (.int .i64 x.e.i) ∧ W.cell? ⟨b, i * 4 + 3, none⟩ = some (.int .i64 x.e.k) ∧ W.cell? ⟨b, j * 4, none⟩ = some (.int .i64 y.n) ∧ W.cell? ⟨b, j * 4 + 1, none⟩ = some (.int .i64 y.e.d) ∧ W.cell? ⟨b, j * 4 + 2, none⟩ = some (.int .i64 y.e.i) ∧ W.cell? ⟨b, j * 4 + 3, none⟩ = some (.int .i64 y.e.k))
      (go_keep)
      (fail)
    all_goals
      go_wp2_with fail
      go_meet
    · exact boxt_oneE w x y
    · exact boxt_twoE w x y
  case rest =>
    obtain ⟨p, q, rfl, rfl, hp, hq, pl, ql, hB⟩ := hcut
    have P := Lib.hid hp
    have Q := Lib.hid hq
    have B1 := Lib.hid (BK.out.below hB)
    have K1 := Lib.hid (Keeps.of (F := fun k => k = g) hB)
    have gl := BK.out.lt
    have p1 : ¬ p = g := by omega
    have q1 : ¬ q = g := by omega
    have a1 := hp.cell 1; have a2 := hp.cell 2; have a3 := hp.cell 3
    have b1 := hq.cell 1; have b2 := hq.cell 2; have b3 := hq.cell 3
    simp at a1 b1 a2 b2 a3 b3
    clear hp hq hB x0 x1 x2 x3 y0 y1 y2 y3 c1 BK KX KY
    obtain ⟨f1, h1⟩ : ∃ f, ltb x.e y.e = f := ⟨_, rfl⟩
    obtain ⟨f2, h2⟩ : ∃ f, ltb y.e x.e = f := ⟨_, rfl⟩
    have H1 := Lib.hid h1
    have H2 := Lib.hid h2
    go_wp2_with fail
    refine (ask_anyE L ltb OK.out g _ m x.e y.e _ B1.out).mono ?_
    rintro e w2 ⟨rfl, hb2, hk2⟩
    rw [h1]
    clear h1 h2 B1 a1 b1 a2 b2 a3 b3
    have B2 := Lib.hid hb2
    have K2 := Lib.hid (K1.out.trans hk2 (fun k e => .inl e))
    have P2 := Lib.hid (P.out.keeps hk2 p1)
    have Q2 := Lib.hid (Q.out.keeps hk2 q1)
    clear hb2 hk2 K1 P Q
    have a0 := P2.out.cell 0
    have b0 := Q2.out.cell 0
    have a1 := P2.out.cell 1; have a2 := P2.out.cell 2; have a3 := P2.out.cell 3
    have b1 := Q2.out.cell 1; have b2 := Q2.out.cell 2; have b3 := Q2.out.cell 3
    simp at a0 b0 a1 b1 a2 b2 a3 b3
    cases f1 with
    | true =>
      go_wp2
      go_ret
      exact ⟨congrArg (fun b => Ending.returned (.bool b)) (show decide (AheadE ltb x y) = true from decide_eq_true (.inl H1.out)).symm, B2.out, K2.out⟩
    | false =>
      go_wp2_with fail
      refine (ask_anyE L ltb OK.out g _ m y.e x.e _ B2.out).mono ?_
      rintro e w3 ⟨rfl, hb3, hk3⟩
      rw [H2.out]
      have B3 := Lib.hid hb3
      have K3 := Lib.hid (K2.out.trans hk3 (fun k e => .inl e))
      have P3 := Lib.hid (P2.out.keeps hk3 p1)
      have Q3 := Lib.hid (Q2.out.keeps hk3 q1)
      clear hb3 hk3 a0 b0 a1 b1 a2 b2 a3 b3
      have a0 := P3.out.cell 0
      have b0 := Q3.out.cell 0
      simp at a0 b0
      cases f2 with
      | true =>
        have E := Lib.hid (show decide (AheadE ltb x y) = false from decide_eq_false (fun q => by
          rcases q with q | ⟨q, _⟩
          · rw [H1.out] at q; cases q
          · rw [H2.out] at q; cases q))
        go_wp2
        go_ret
        exact ⟨congrArg (fun b => Ending.returned (.bool b)) E.out.symm, B3.out, K3.out⟩
      | false =>
        have E := Lib.hid (show decide (AheadE ltb x y) = decide (x.n < y.n) from decide_eq_decide.mpr ⟨fun q => by
          rcases q with q | ⟨_, q⟩
          · rw [H1.out] at q; cases q
          · exact q, fun q => .inr ⟨H2.out, q⟩⟩)
        go_wp2
        go_ret
        exact ⟨congrArg (fun b => Ending.returned (.bool b)) E.out.symm, B3.out, K3.out⟩
end Go.Proofs.Ytfeemdljlikpbaa
