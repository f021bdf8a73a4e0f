/-
  Package heap as landed: ask, ahead: contracts.
-/
import Derived.Test.YtimafmalfmeehaaHx1
import Derived.Defers
import Derived.Recover
import Derived.Laws.Pointers
import Derived.Maps.OwnSet
namespace Go.Proofs.Ytimafmalfmeehaa
open Go.RowKit

/-- the cells of a heap: its order, its row, where each one stands, whether its order is being asked -/
def HV (v : Value) (m : Nat) (q : Bool) : Array Value := #[.func (.func 10) #[] #[], v, .map (some m), .bool q]

theorem ask_back (p : Addr) (g : Nat) (cs : Array Value) (w : World) (hc : w.cell? p = some (.pointer (some ⟨g, 0, none⟩))) (hb : Blk w 54 g cs) (h3 : 3 < cs.size) :
    CallsD Try.prog 47 #[.pointer (some p)] .returning w fun e u' w' => e = .returned (.tuple #[]) ∧ u' = .returning ∧ w' = w.setCell ⟨g, 3, none⟩ (.bool false) := by
  have c3 := hb.cell 3
  have f3 := hb.free 3
  rw [Array.getElem?_eq_getElem h3] at c3
  refine callsD_of_wpS Try.func47 rfl fun c₀ cs hu => ?_
  apply wpS_seq
  apply wpS_region
  simp [wpOpsS, go_sem, recoverD, hu, Try.ntmps47, Exit.thenS, hc, c3, f3]
  apply wpS_region
  cases c₀
  simp_all [wpOpsS, go_sem, recoverD, bodyPostS, results, Try.results47]
/-- what a call on the heap in F may leave otherwise -/
theorem Keeps.alone {F : Nat → Prop} {g : Nat} {w w' : World} (h : Keeps (fun k => k = g) w w') (hg : F g) : Keeps F w w' := ⟨h.os, h.tape, h.output, h.size, fun k hk hf => h.block k hk (fun e => hf (by rw [e]; exact hg))⟩
set_option maxHeartbeats 1000000 in
theorem ask_any (g : Nat) (v : Value) (m : Nat) (a b : Int) (w : World) (hb : Blk w 54 g (HV v m false)) :
    Calls Try.prog 35 #[.pointer (some ⟨g, 0, none⟩), .int .i64 a, .int .i64 b] w fun e w' => e = .returned (.bool (decide (m15 a < m15 b))) ∧ Blk w' 54 g (HV v m false) ∧ Keeps (fun k => k = g) w w' := by
  have hmf : ∀ (fn : Fn) (first cap : Array Value) (w : World), (Instr.makeFunc fn first cap).run Try.prog w = .ok (.func fn first cap) w := fun _ _ _ _ => rfl
  have BK := Lib.hid hb
  have c0 := hb.cell 0
  have c3 := hb.cell 3
  have f3 := hb.free 3
  simp [HV] at c0 c3
  have gl := hb.lt
  clear hb
  go_enter_defers Try.func35, Try.ntmps35
  go_wp2_with fail
  refine (r7less_any a b _).mono ?_
  rintro e w1 ⟨rfl, rfl⟩
  go_wp2
  refine leaves_cons (f := 47) (args := #[.pointer (some ⟨w.heap.size, 0, none⟩)]) (by simp) (by simp [go_sem]) ?_
  have B1 := Lib.hid (show Blk ((w.setCell ⟨g, 3, none⟩ (.bool true)).alloc (Obj.cells #[Value.pointer (some ⟨g, 0, none⟩)] 24)) 54 g (HV v m true) from (BK.out.setB 3 (.bool true)).alloc _)
  refine (ask_back ⟨w.heap.size, 0, none⟩ g (HV v m true) _ ?_ B1.out (by simp [HV])).mono ?_
  · simp [go_sem]
  rintro e u' w'' ⟨rfl, rfl, rfl⟩
  simp [Leaves, settle, results, Try.results35, go_sem]
  exact ⟨B1.out.setB 3 (.bool false), (((Keeps.refl (fun k => k = g) w).set (.inl rfl) _ _).alloc _).set (.inl rfl) _ _⟩
instance (a b : Th) : Decidable (AheadT a b) := by unfold AheadT; infer_instance
/-- two things, each in a box of its own -/
def BoxT (w : World) (x y : Th) (s t : Value) (W : World) : Prop := ∃ p q, s = .pointer (some ⟨p, 0, none⟩) ∧ t = .pointer (some ⟨q, 0, none⟩) ∧ Blk W 57 p #[.int .i64 x.id, .int .i64 x.x] ∧ Blk W 57 q #[.int .i64 y.id, .int .i64 y.x] ∧ w.heap.size ≤ p ∧ w.heap.size ≤ q ∧ Below w.heap.size w W
theorem Blk.by {W : World} {T : TypeId} {n : Nat} {cs : Array Value} (h : W.heap.size = n) : Blk (W.alloc (.cells cs T)) T n cs := h ▸ Blk.new W T cs
theorem boxt_one (w : World) (x y : Th) : BoxT w x y (.pointer (some ⟨w.heap.size, 0, none⟩)) (.pointer (some ⟨w.heap.size + 1, 0, none⟩)) ((w.alloc (.cells #[.int .i64 x.id, .int .i64 x.x] 57)).alloc (.cells #[.int .i64 y.id, .int .i64 y.x] 57)).drew :=
  ⟨_, _, rfl, rfl, ((Blk.by (by simp)).alloc _).drew, (Blk.by (by simp)).drew, by omega, by omega, (wbox2 _ _ _).drew⟩
theorem boxt_two (w : World) (x y : Th) : BoxT w x y (.pointer (some ⟨w.heap.size + 1, 0, none⟩)) (.pointer (some ⟨w.heap.size, 0, none⟩)) ((w.alloc (.cells #[.int .i64 y.id, .int .i64 y.x] 57)).alloc (.cells #[.int .i64 x.id, .int .i64 x.x] 57)).drew :=
  ⟨_, _, rfl, rfl, (Blk.by (by simp)).drew, ((Blk.by (by simp)).alloc _).drew, by omega, by omega, (wbox2 _ _ _).drew⟩
set_option maxRecDepth 20000 in
set_option maxHeartbeats 4000000 in
theorem ahead_any (g b n cap m i j : Nat) (x y : Th) (w : World) (hb : Blk w 54 g (HV (.slice (some ⟨b, 0, none⟩) n cap) m false)) (hx : ThAt w b (i * 2) x) (hy : ThAt w b (j * 2) y) (hi : i < n) (hj : j < n) :
    Calls Try.prog 32 #[.pointer (some ⟨g, 0, none⟩), .int .i64 i, .int .i64 j] w fun e w' => e = .returned (.bool (decide (AheadT x y))) ∧ Blk w' 54 g (HV (.slice (some ⟨b, 0, none⟩) n cap) m false) ∧ Keeps (fun k => k = g) w w' := by
  have BK := Lib.hid hb
  have c1 := hb.cell 1
  simp [HV] at c1
  have x0 := hx.c0
  have x1 := hx.c1
  have y0 := hy.c0
  have y1 := hy.c1
  have i1 : (i : Int) < (n : Int) := by omega
  have i2 : 0 ≤ (i : Int) := by omega
  have j1 : (j : Int) < (n : Int) := by omega
  have j2 : 0 ≤ (j : Int) := by omega
  have KX := Lib.hid hx
  have KY := Lib.hid hy
  clear hb hx hy
  go_enter Try.func32, Try.ntmps32
  go_upto_region 1 with fail
  go_cut [7, 8] (fun s5 s6 wx => BoxT w x y s5 s6 wx)
  case first =>
    go_region_held3 (fun W => W.cell? ⟨g, 1, none⟩ = some (.slice (some ⟨b, 0, none⟩) n cap) ∧ W.cell? ⟨b, i * 2, none⟩ = some (.int .i64 x.id) ∧ W.cell? ⟨b, i * 2 + 1, none⟩ = some (.int .i64 x.x) ∧ W.cell? ⟨b, j * 2, none⟩ = some (.int .i64 y.id) ∧ W.cell? ⟨b, j * 2 + 1, none⟩ = some (.int .i64 y.x))
      (go_keep)
      (fail)
    all_goals
      go_wp2_with fail
      go_meet
    · exact boxt_one w x y
    · exact boxt_two w x y
  case rest =>
    obtain ⟨p, q, rfl, rfl, hp, hq, pl, ql, hB⟩ := hcut
    have P := Lib.hid hp
    have Q := Lib.hid hq
    have B1 := Lib.hid (BK.out.below hB)
    have K1 := Lib.hid (Keeps.of (F := fun k => k = g) hB)
    have gl := BK.out.lt
    have p1 : ¬ p = g := by omega
    have q1 : ¬ q = g := by omega
    have a1 := hp.cell 1
    have b1 := hq.cell 1
    simp at a1 b1
    clear hp hq hB x0 x1 y0 y1 c1 BK KX KY
    obtain ⟨f1, h1⟩ : ∃ f, decide (m15 x.x < m15 y.x) = f := ⟨_, rfl⟩
    obtain ⟨f2, h2⟩ : ∃ f, decide (m15 y.x < m15 x.x) = f := ⟨_, rfl⟩
    have H1 := Lib.hid h1
    have H2 := Lib.hid h2
    go_wp2_with fail
    refine (ask_any g _ m x.x y.x _ B1.out).mono ?_
    rintro e w2 ⟨rfl, hb2, hk2⟩
    rw [h1]
    clear h1 h2 B1 a1 b1
    have B2 := Lib.hid hb2
    have K2 := Lib.hid (K1.out.trans hk2 (fun k e => .inl e))
    have P2 := Lib.hid (P.out.keeps hk2 p1)
    have Q2 := Lib.hid (Q.out.keeps hk2 q1)
    clear hb2 hk2 K1 P Q
    have a0 := P2.out.cell 0
    have b0 := Q2.out.cell 0
    have a1 := P2.out.cell 1
    have b1 := Q2.out.cell 1
    simp at a0 b0 a1 b1
    cases f1 with
    | true =>
      go_wp2
      go_ret
      exact ⟨congrArg (fun b => Ending.returned (.bool b)) (show decide (AheadT x y) = true from decide_eq_true (.inl (of_decide_eq_true H1.out))).symm, B2.out, K2.out⟩
    | false =>
      go_wp2_with fail
      refine (ask_any g _ m y.x x.x _ B2.out).mono ?_
      rintro e w3 ⟨rfl, hb3, hk3⟩
      rw [H2.out]
      have B3 := Lib.hid hb3
      have K3 := Lib.hid (K2.out.trans hk3 (fun k e => .inl e))
      have P3 := Lib.hid (P2.out.keeps hk3 p1)
      have Q3 := Lib.hid (Q2.out.keeps hk3 q1)
      clear hb3 hk3 a0 b0 a1 b1
      have a0 := P3.out.cell 0
      have b0 := Q3.out.cell 0
      simp at a0 b0
      have h1 := of_decide_eq_false H1.out
      cases f2 with
      | true =>
        have h2 := of_decide_eq_true H2.out
        have E := Lib.hid (show decide (AheadT x y) = false from decide_eq_false (by unfold AheadT; omega))
        clear h1 h2
        go_wp2
        go_ret
        exact ⟨congrArg (fun b => Ending.returned (.bool b)) E.out.symm, B3.out, K3.out⟩
      | false =>
        have h2 := of_decide_eq_false H2.out
        have E := Lib.hid (show decide (AheadT x y) = decide (x.id < y.id) from decide_eq_decide.mpr (by unfold AheadT; omega))
        clear h1 h2
        go_wp2
        go_ret
        exact ⟨congrArg (fun b => Ending.returned (.bool b)) E.out.symm, B3.out, K3.out⟩
end Go.Proofs.Ytimafmalfmeehaa
