/-
  What the document's own subtasks (regattaref04.Of) give back: contract.
-/
import Derived.Test.YtidfldngiagpdaaWr2
import Derived.Deep.DeepCutAuto
namespace Go.Proofs.Ytidfldngiagpdaa
open Go.RowKit

/-- the cells of a subtask -/
def subC (I R D B G : Int) : Array Value := #[.int .i64 I, .int .i64 R, .int .i64 D, .int .i64 B, .int .i64 G]
theorem Blk.set {W : World} {T : TypeId} {g : Nat} {cs : Array Value} (h : Blk W T g cs) (j : Nat) (v : Value) : Blk (W.setCell ⟨g, j, none⟩ v) T g (cs.setIfInBounds j v) := heap_setCell_same W g j cs T v h
theorem Blk.other {W : World} {T : TypeId} {g : Nat} {cs : Array Value} (h : Blk W T g cs) (p : Addr) (v : Value) (hne : g ≠ p.block) : Blk (W.setCell p v) T g cs := (Below.heap_setCell W p v g hne).trans h
theorem Blk.set5 {W : World} {T : TypeId} {g : Nat} {a b c d e u v x y z : Value} (h : Blk W T g #[a, b, c, d, e]) :
    Blk (((((W.setCell ⟨g, 0, none⟩ u).setCell ⟨g, 1, none⟩ v).setCell ⟨g, 2, none⟩ x).setCell ⟨g, 3, none⟩ y).setCell ⟨g, 4, none⟩ z) T g #[u, v, x, y, z] :=
  ((((h.set 0 u).set 1 v).set 2 x).set 3 y).set 4 z
theorem Blk.other5 {W : World} {T : TypeId} {k g : Nat} {cs : Array Value} {u v x y z : Value} (h : Blk W T k cs) (hne : k ≠ g) :
    Blk (((((W.setCell ⟨g, 0, none⟩ u).setCell ⟨g, 1, none⟩ v).setCell ⟨g, 2, none⟩ x).setCell ⟨g, 3, none⟩ y).setCell ⟨g, 4, none⟩ z) T k cs :=
  ((((h.other _ _ hne).other _ _ hne).other _ _ hne).other _ _ hne).other _ _ hne
theorem below_set5 {w W : World} {g : Nat} {u v x y z : Value} (h : Below w.heap.size w W) (hg : w.heap.size ≤ g) :
    Below w.heap.size w (((((W.setCell ⟨g, 0, none⟩ u).setCell ⟨g, 1, none⟩ v).setCell ⟨g, 2, none⟩ x).setCell ⟨g, 3, none⟩ y).setCell ⟨g, 4, none⟩ z) :=
  ((((h.setCell hg _).setCell hg _).setCell hg _).setCell hg _).setCell hg _

/-- behind the region that builds a subtask: it lies in a block of its own -/
def OfBox (w : World) (I R D B : Int) (s : Value) (wx : World) : Prop :=
  ∃ b : Nat, s = .pointer (some ⟨b, 0, none⟩) ∧ Blk wx 28 b #[.int .i64 I, .int .i64 R, .int .i64 D, .int .i64 B, .int .i64 0] ∧ w.heap.size + 1 < b ∧ Blk wx 28 (w.heap.size + 1) #[.int .i64 0, .int .i64 0, .int .i64 0, .int .i64 0, .int .i64 0] ∧ Below w.heap.size w wx

theorem ofbox_new {w v3 v6 : World} {I R D B : Int} (hB : Below w.heap.size w v3) (hL : Blk v3 28 (w.heap.size + 1) #[.int .i64 0, .int .i64 0, .int .i64 0, .int .i64 0, .int .i64 0]) (hb : Below v3.heap.size v3 v6) :
    OfBox w I R D B (.pointer (some ⟨v6.heap.size, 0, none⟩)) (v6.alloc (.cells #[.int .i64 I, .int .i64 R, .int .i64 D, .int .i64 B, .int .i64 0] 28)) :=
  ⟨_, rfl, Blk.new _ _ _, Nat.lt_of_lt_of_le hL.lt hb.size, (hL.below hb).alloc _, below_next (below_next hB hb) (wbox _ _)⟩
theorem ofbox_set {w v3 v6 : World} {I R D B : Int} {b : Nat} (hB : Below w.heap.size w v3) (hL : Blk v3 28 (w.heap.size + 1) #[.int .i64 0, .int .i64 0, .int .i64 0, .int .i64 0, .int .i64 0]) (hb : Below v3.heap.size v3 v6) (hA : Blk v6 28 b #[.int .i64 0, .int .i64 0, .int .i64 0, .int .i64 0, .int .i64 0]) (hg : v3.heap.size ≤ b) :
    OfBox w I R D B (.pointer (some ⟨b, 0, none⟩)) (((((v6.setCell ⟨b, 0, none⟩ (.int .i64 I)).setCell ⟨b, 1, none⟩ (.int .i64 R)).setCell ⟨b, 2, none⟩ (.int .i64 D)).setCell ⟨b, 3, none⟩ (.int .i64 B)).setCell ⟨b, 4, none⟩ (.int .i64 0)) :=
  ⟨_, rfl, hA.set5, Nat.lt_of_lt_of_le hL.lt hg, (hL.below hb).other5 (Nat.ne_of_lt (Nat.lt_of_lt_of_le hL.lt hg)), below_set5 (below_next hB hb) (Nat.le_of_lt (Nat.lt_trans (Nat.lt_succ_self _) (Nat.lt_of_lt_of_le hL.lt hg)))⟩

set_option maxHeartbeats 8000000 in
theorem r4of_yes (E P i o : Int) (w : World) (hM : MayBe E P) (hi : Nth i) (o0 : 0 ≤ o) (o1 : o ≤ 2305843009213693952) (G' : Int) (hG' : G' = if wG E P i = 0 then 0 else wG E P i + o) :
    Calls Try.prog 10 #[.agg #[.int .i64 E, .int .i64 P], .int .i64 i, .int .i64 o] w fun e w' => e = .returned (.tuple #[subV i (wR E P i + o) (wD E P i + o) (wB E P i) G', .int .i64 0]) ∧ Below w.heap.size w w' := by
  have HM := Lib.hid hM; have HI := Lib.hid hi; have HG' := Lib.hid hG'
  obtain ⟨r0, r1⟩ := wR_fit hM hi.1 hi.2
  obtain ⟨d0, d1⟩ := wD_fit hM hi.1 hi.2
  have gb : wG E P i = 0 ∨ 0 < wG E P i ∧ wG E P i ≤ 1152921504607895552 := by
    by_cases h : 2 * E < P
    · exact .inl (group_light h)
    · have h1 := group_bd (i := i) (show 0 < E by have := hM.1; omega) hM.2.1 h
      have h3 := hM.2.2
      exact .inr (by omega)
  obtain ⟨R, hR⟩ : ∃ v, wR E P i = v := ⟨_, rfl⟩
  obtain ⟨D, hD⟩ : ∃ v, wD E P i = v := ⟨_, rfl⟩
  obtain ⟨T, hT⟩ : ∃ v, wB E P i = v := ⟨_, rfl⟩
  obtain ⟨G, hG⟩ : ∃ v, wG E P i = v := ⟨_, rfl⟩
  rw [hR] at r0 r1
  rw [hD] at d0 d1
  rw [hG] at gb HG'
  rw [hR, hD, hT]
  have HR := Lib.hid hR; have HD := Lib.hid hD; have HT := Lib.hid hT; have HG := Lib.hid hG
  clear hM hi hG' hR hD hT hG
  have g0 : 0 ≤ G := by omega
  have g1 : G ≤ 1152921504607895552 := by omega
  have t1 : decide (4611686018427387904 < o) = false := by simp; omega
  have t2 : decide (4611686018427387904 - o < D) = false := by simp; omega
  have t3 : decide (4611686018427387904 - o < G) = false := by simp; omega
  have t4 : decide (o < 0) = false := by simp; omega
  have w1 : IntKind.i64.wrap (R + o) = R + o := IntWalk.i64_in _ (by omega)
  have w2 : IntKind.i64.wrap (D + o) = D + o := IntWalk.i64_in _ (by omega)
  have K := Lib.hid (Blk.new w 25 #[Value.int .i64 E, Value.int .i64 P] |>.alloc (Obj.cells #[Value.int .i64 0, Value.int .i64 0, Value.int .i64 0, Value.int .i64 0, Value.int .i64 0] 28))
  have L := Lib.hid (Blk.new2 w (Obj.cells #[Value.int .i64 E, Value.int .i64 P] 25) 28 #[Value.int .i64 0, Value.int .i64 0, Value.int .i64 0, Value.int .i64 0, Value.int .i64 0])
  go_enter Try.func10, Try.ntmps10
  go_wp2_with fail
  refine (r4number_yes E P i _ HM.out HI.out).mono ?_
  rintro e w1 ⟨rfl, hb⟩
  have B := Lib.hid (below_next (wbox2 _ _ _) hb)
  have K := Lib.hid (K.out.below hb)
  have L := Lib.hid (L.out.below hb)
  have k0 := K.out.cell 0
  have k1 := K.out.cell 1
  simp at k0 k1
  clear hb
  go_wp2_with fail
  refine (r4group_yes E P i G _ HM.out HI.out HG.out).mono ?_
  rintro e w2 ⟨rfl, hb⟩
  have B := Lib.hid (below_next B.out hb)
  have K := Lib.hid (K.out.below hb)
  have L := Lib.hid (L.out.below hb)
  clear hb k0 k1
  have k0 := K.out.cell 0
  have k1 := K.out.cell 1
  simp at k0 k1
  go_wp2_with fail
  refine (r4deadline_yes E P i D _ HM.out HI.out HD.out).mono ?_
  rintro e w3 ⟨rfl, hb⟩
  have B := Lib.hid (below_next B.out hb)
  have K := Lib.hid (K.out.below hb)
  have L := Lib.hid (L.out.below hb)
  clear hb k0 k1
  go_upto_region 7 with fail
  have KEPT := Lib.hid (show ∀ w', Below w3.heap.size w3 w' → w'.cell? ⟨w.heap.size, 0, none⟩ = some (.int .i64 E) ∧ w'.cell? ⟨w.heap.size, 1, none⟩ = some (.int .i64 P) from fun w' h => ⟨(K.out.below h).cell 0, (K.out.below h).cell 1⟩)
  have BB := Lib.hid (show Below w3.heap.size w3 w3.drew from (Below.refl w3.heap.size w3).drew)
  have LT := Lib.hid L.out.lt
  go_cut [10] (fun s10 wx => OfBox w i (R + o) (D + o) T s10 wx)
  case first =>
    go_region_held3 (fun w' => w'.cell? ⟨w.heap.size, 0, none⟩ = some (.int .i64 E) ∧ w'.cell? ⟨w.heap.size, 1, none⟩ = some (.int .i64 P))
      (((with_reducible refine KEPT.out _ ?_); first | with_reducible exact below_set5 BB.out AG.out | with_reducible exact BB.out | with_reducible exact (wbox _ _).drew | with_reducible exact below_next BB.out (wbox _ _)))
      (first
        | (go_at_call 15; (with_reducible refine (r4release_yes E P i R _ HM.out HI.out HR.out).mono ?_); rintro e w4 ⟨rfl, hb⟩; (first | (with_reducible have BB := Lib.hid (below_next BB.out hb)) | (with_reducible have AG := Lib.hid BB.out.size; with_reducible have A := Lib.hid ((Blk.new _ 28 #[.int .i64 0, .int .i64 0, .int .i64 0, .int .i64 0, .int .i64 0]).below hb); with_reducible have BB := Lib.hid (below_next (below_next BB.out (wbox _ _)) hb)) | (have AG := Lib.hid (Nat.le_refl w3.heap.size); have A := Lib.hid ((Blk.new w3 28 #[.int .i64 0, .int .i64 0, .int .i64 0, .int .i64 0, .int .i64 0]).drew.below hb); have BB := Lib.hid (below_next (wbox w3 (Obj.cells #[.int .i64 0, .int .i64 0, .int .i64 0, .int .i64 0, .int .i64 0] 28)).drew hb))); clear hb)
        | (go_at_call 20; (with_reducible refine (r4deadline_yes E P i D _ HM.out HI.out HD.out).mono ?_); rintro e w5 ⟨rfl, hb⟩; (first | (with_reducible have BB := Lib.hid (below_next BB.out hb); (try have A := Lib.hid (A.out.below hb))) | (with_reducible have AG := Lib.hid BB.out.size; with_reducible have A := Lib.hid ((Blk.new _ 28 #[.int .i64 0, .int .i64 0, .int .i64 0, .int .i64 0, .int .i64 0]).below hb); with_reducible have BB := Lib.hid (below_next (below_next BB.out (wbox _ _)) hb)) | (have AG := Lib.hid (Nat.le_refl w3.heap.size); have A := Lib.hid ((Blk.new w3 28 #[.int .i64 0, .int .i64 0, .int .i64 0, .int .i64 0, .int .i64 0]).drew.below hb); have BB := Lib.hid (below_next (wbox w3 (Obj.cells #[.int .i64 0, .int .i64 0, .int .i64 0, .int .i64 0, .int .i64 0] 28)).drew hb))); clear hb)
        | (go_at_call 21; (with_reducible refine (r4bit_yes E P i T _ HM.out HI.out HT.out).mono ?_); rintro e w6 ⟨rfl, hb⟩; (first | (with_reducible have BB := Lib.hid (below_next BB.out hb); (try have A := Lib.hid (A.out.below hb))) | (with_reducible have AG := Lib.hid BB.out.size; with_reducible have A := Lib.hid ((Blk.new _ 28 #[.int .i64 0, .int .i64 0, .int .i64 0, .int .i64 0, .int .i64 0]).below hb); with_reducible have BB := Lib.hid (below_next (below_next BB.out (wbox _ _)) hb)) | (have AG := Lib.hid (Nat.le_refl w3.heap.size); have A := Lib.hid ((Blk.new w3 28 #[.int .i64 0, .int .i64 0, .int .i64 0, .int .i64 0, .int .i64 0]).drew.below hb); have BB := Lib.hid (below_next (wbox w3 (Obj.cells #[.int .i64 0, .int .i64 0, .int .i64 0, .int .i64 0, .int .i64 0] 28)).drew hb))); (try (have s0 := A.out.cell 0; have s1 := A.out.cell 1; have s2 := A.out.cell 2; have s3 := A.out.cell 3; have s4 := A.out.cell 4; have f0 := A.out.free 0; have f1 := A.out.free 1; have f2 := A.out.free 2; have f3 := A.out.free 3; have f4 := A.out.free 4; simp at s0 s1 s2 s3 s4)); clear hb))
    all_goals
      go_wp2_with fail
      go_meet
      first
        | with_reducible exact ofbox_set B.out L.out BB.out A.out AG.out
        | with_reducible exact ofbox_new B.out L.out BB.out
  case rest =>
    obtain ⟨b, rfl, hb1, hlt, hb2, hbel⟩ := hcut
    have H1 := Lib.hid hb1; have H2 := Lib.hid hb2; have HB := Lib.hid hbel
    have n1 : ¬ b = w.heap.size + 1 := by omega
    have n2 : ¬ w.heap.size + 1 = b := by omega
    have c0 := hb1.cell 0; have c1 := hb1.cell 1; have c2 := hb1.cell 2; have c3 := hb1.cell 3; have c4 := hb1.cell 4
    have e4 := hb1.free 4
    have s0 := hb2.cell 0; have s1 := hb2.cell 1; have s2 := hb2.cell 2; have s3 := hb2.cell 3; have s4 := hb2.cell 4
    have f0 := hb2.free 0; have f1 := hb2.free 1; have f2 := hb2.free 2; have f3 := hb2.free 3; have f4 := hb2.free 4
    simp at c0 c1 c2 c3 c4 s0 s1 s2 s3 s4
    have u1 : w.heap.size ≤ w.heap.size + 1 := by omega
    have u2 : w.heap.size ≤ b := by omega
    clear hb1 hb2 hbel hlt
    clear KEPT BB LT K L B
    rcases gb with rfl | ⟨p0, p1⟩
    · obtain rfl : G' = 0 := by rw [HG'.out, if_pos rfl]
      go_wp2
      exact bodyPost_ret (v := .tuple #[subV i (R + o) (D + o) T 0, .int .i64 0]) (by simp [subV, results, Try.results10, go_sem, s0, s1, s2, s3, s4]) rfl ⟨rfl, below_set5 HB.out u1⟩
    · obtain rfl : G' = G + o := by rw [HG'.out, if_neg (by omega)]
      have t5 : decide (0 < G) = true := by simp; omega
      have w3 : IntKind.i64.wrap (G + o) = G + o := IntWalk.i64_in _ (by omega)
      clear p0 p1
      go_wp2
      exact bodyPost_ret (v := .tuple #[subV i (R + o) (D + o) T (G + o), .int .i64 0]) (by simp [subV, results, Try.results10, go_sem, s0, s1, s2, s3, s4]) rfl ⟨rfl, below_set5 (HB.out.setCell u2 _) u1⟩
end Go.Proofs.Ytidfldngiagpdaa
