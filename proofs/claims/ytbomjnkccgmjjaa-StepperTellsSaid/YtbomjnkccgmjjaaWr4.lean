/-
  What the document's own stepper (regattaref05) gives back: contracts.
-/
import Derived.Test.YtbomjnkccgmjjaaWr3
namespace Go.Proofs.Ytbomjnkccgmjjaa
open Go.RowKit

/-- the cells of the document's stepper -/
def stC (E P O I : Int) : Array Value := #[.int .i64 E, .int .i64 P, .int .i64 O, .int .i64 I]
/-- what it stands ahead of -/
def aheadV (E P O I : Int) : Value := subV I (wR E P I + O) (wD E P I + O) (wB E P I) (if wG E P I = 0 then 0 else wG E P I + O)

theorem r5shift_yes (E P O I n : Int) (g : Nat) (w : World) (h : Blk w 32 g (stC E P O I)) (O0 : 0 ≤ O) (O1 : O ≤ 2305843009213693952) (n0 : 0 ≤ n) (n1 : O + n ≤ 2305843009213693952) :
    Calls Try.prog 13 #[.pointer (some ⟨g, 0, none⟩), .int .i64 n] w fun e w' => e = .returned (.bool true) ∧ w.setCell ⟨g, 2, none⟩ (.int .i64 (O + n)) = w' := by
  have c2 := h.cell 2
  have f2 := h.free 2
  simp [stC] at c2
  clear h
  have t1 : decide (n < 0) = false := by simp; omega
  have t2 : decide (2305843009213693952 - O < n) = false := by simp; omega
  go_enter Try.func13, Try.ntmps13
  go_wp2
  go_ret
  exact ⟨rfl, rfl⟩
theorem r5shift_no (E P O I n : Int) (g : Nat) (w : World) (h : Blk w 32 g (stC E P O I)) (O0 : 0 ≤ O) (O1 : O ≤ 2305843009213693952) (n0 : n < 0 ∨ 2305843009213693952 < O + n) :
    Calls Try.prog 13 #[.pointer (some ⟨g, 0, none⟩), .int .i64 n] w fun e w' => e = .returned (.bool false) ∧ w = w' := by
  have c2 := h.cell 2
  simp [stC] at c2
  clear h
  by_cases z : n < 0
  · have t1 : decide (n < 0) = true := by simp; omega
    clear n0
    go_enter Try.func13, Try.ntmps13
    go_wp2
    go_ret
    exact ⟨rfl, rfl⟩
  · have t1 : decide (n < 0) = false := by simp; omega
    have t2 : decide (2305843009213693952 - O < n) = true := by simp; omega
    clear n0
    go_enter Try.func13, Try.ntmps13
    go_wp2
    go_ret
    exact ⟨rfl, rfl⟩

/-- behind the region that holds the call: the subtask lies in a block of its own -/
def PkBox (w : World) (a b c d e : Value) (s : Value) (wx : World) : Prop :=
  ∃ k : Nat, s = .pointer (some ⟨k, 0, none⟩) ∧ Blk wx 35 k #[a, b, c, d, e] ∧ w.heap.size < k ∧ Blk wx 35 w.heap.size #[.int .i64 0, .int .i64 0, .int .i64 0, .int .i64 0, .int .i64 0] ∧ Below w.heap.size w wx
theorem pkbox_new {w v3 v6 : World} {a b c d e : Value} (hB : Below w.heap.size w v3) (hL : Blk v3 35 w.heap.size #[.int .i64 0, .int .i64 0, .int .i64 0, .int .i64 0, .int .i64 0]) (hb : Below v3.heap.size v3 v6) :
    PkBox w a b c d e (.pointer (some ⟨v6.heap.size, 0, none⟩)) (v6.alloc (.cells #[a, b, c, d, e] 35)) :=
  ⟨_, rfl, Blk.new _ _ _, Nat.lt_of_lt_of_le hL.lt hb.size, (hL.below hb).alloc _, below_next (below_next hB hb) (wbox _ _)⟩
theorem pkbox_set {w v3 v6 : World} {a b c d e : Value} {k : Nat} (hB : Below w.heap.size w v3) (hL : Blk v3 35 w.heap.size #[.int .i64 0, .int .i64 0, .int .i64 0, .int .i64 0, .int .i64 0]) (hb : Below v3.heap.size v3 v6) (hA : Blk v6 35 k #[.int .i64 0, .int .i64 0, .int .i64 0, .int .i64 0, .int .i64 0]) (hg : v3.heap.size ≤ k) :
    PkBox w a b c d e (.pointer (some ⟨k, 0, none⟩)) (((((v6.setCell ⟨k, 0, none⟩ a).setCell ⟨k, 1, none⟩ b).setCell ⟨k, 2, none⟩ c).setCell ⟨k, 3, none⟩ d).setCell ⟨k, 4, none⟩ e) :=
  ⟨_, rfl, hA.set5, Nat.lt_of_lt_of_le hL.lt hg, (hL.below hb).other5 (Nat.ne_of_lt (Nat.lt_of_lt_of_le hL.lt hg)), below_set5 (below_next hB hb) (Nat.le_of_lt (Nat.lt_of_lt_of_le hL.lt hg))⟩

set_option maxHeartbeats 4000000 in
theorem r5peek_yes (E P O I : Int) (g : Nat) (w : World) (h : Blk w 32 g (stC E P O I)) (hM : MayBe E P) (hI : Nth I) (O0 : 0 ≤ O) (O1 : O ≤ 2305843009213693952) :
    Calls Try.prog 15 #[.pointer (some ⟨g, 0, none⟩)] w fun e w' => e = .returned (aheadV E P O I) ∧ Below w.heap.size w w' := by
  have HM := Lib.hid hM; have HI := Lib.hid hI
  obtain ⟨G', hG'⟩ : ∃ G', G' = if wG E P I = 0 then 0 else wG E P I + O := ⟨_, rfl⟩
  have HG := Lib.hid hG'
  have HV := Lib.hid (show aheadV E P O I = subV I (wR E P I + O) (wD E P I + O) (wB E P I) G' by unfold aheadV; rw [hG'])
  clear hM hI hG'
  have K := Lib.hid (h.alloc (Obj.cells #[Value.int .i64 0, Value.int .i64 0, Value.int .i64 0, Value.int .i64 0, Value.int .i64 0] 35))
  have L := Lib.hid (Blk.new w 35 #[Value.int .i64 0, Value.int .i64 0, Value.int .i64 0, Value.int .i64 0, Value.int .i64 0])
  clear h
  go_enter Try.func15, Try.ntmps15
  go_upto_region 1 with fail
  obtain ⟨W0, hW0⟩ : ∃ W0, w.alloc (Obj.cells #[Value.int .i64 0, Value.int .i64 0, Value.int .i64 0, Value.int .i64 0, Value.int .i64 0] 35) = W0 := ⟨_, rfl⟩
  have B := Lib.hid (show Below w.heap.size w W0 by rw [← hW0]; exact wbox _ _)
  rw [hW0] at K L
  rw [hW0]
  clear hW0
  have KEPT := Lib.hid (show ∀ w' : World, Below W0.heap.size W0 w' → w'.cell? ⟨g, 0, none⟩ = some (.int .i64 E) ∧ w'.cell? ⟨g, 1, none⟩ = some (.int .i64 P) ∧ w'.cell? ⟨g, 2, none⟩ = some (.int .i64 O) ∧ w'.cell? ⟨g, 3, none⟩ = some (.int .i64 I) from fun w' h => ⟨(K.out.below h).cell 0, (K.out.below h).cell 1, (K.out.below h).cell 2, (K.out.below h).cell 3⟩)
  have BB := Lib.hid (show Below W0.heap.size W0 W0.drew from (Below.refl W0.heap.size W0).drew)
  go_cut [3] (fun s3 wx => PkBox w (.int .i64 I) (.int .i64 (wR E P I + O)) (.int .i64 (wD E P I + O)) (.int .i64 (wB E P I)) (.int .i64 G') s3 wx)
  case first =>
    go_region_held3 (fun w' => w'.cell? ⟨g, 0, none⟩ = some (.int .i64 E) ∧ w'.cell? ⟨g, 1, none⟩ = some (.int .i64 P) ∧ w'.cell? ⟨g, 2, none⟩ = some (.int .i64 O) ∧ w'.cell? ⟨g, 3, none⟩ = some (.int .i64 I))
      (((with_reducible refine KEPT.out _ ?_); first | with_reducible exact below_set5 BB.out AG.out | with_reducible exact BB.out | with_reducible exact (wbox _ _).drew | with_reducible exact below_next BB.out (wbox _ _)))
      (first
        | (go_at_call 18; (with_reducible refine (r4of_yes E P I O _ HM.out HI.out O0 O1 G' HG.out).mono ?_); rintro e w1 ⟨rfl, hb⟩; (first | (with_reducible have BB := Lib.hid (below_next BB.out hb)) | (have AG := Lib.hid (Nat.le_refl W0.heap.size); have A := Lib.hid ((Blk.new W0 35 #[.int .i64 0, .int .i64 0, .int .i64 0, .int .i64 0, .int .i64 0]).drew.below hb); have BB := Lib.hid (below_next (wbox W0 (Obj.cells #[.int .i64 0, .int .i64 0, .int .i64 0, .int .i64 0, .int .i64 0] 35)).drew hb); have s0 := A.out.cell 0; have s1 := A.out.cell 1; have s2 := A.out.cell 2; have s3 := A.out.cell 3; have s4 := A.out.cell 4; have f0 := A.out.free 0; have f1 := A.out.free 1; have f2 := A.out.free 2; have f3 := A.out.free 3; have f4 := A.out.free 4; simp at s0 s1 s2 s3 s4)); clear hb; unfold subV))
    all_goals
      go_wp2_with fail
      go_meet
      first
        | with_reducible exact pkbox_set B.out L.out BB.out A.out AG.out
        | with_reducible exact pkbox_new B.out L.out BB.out
  case rest =>
    obtain ⟨b, rfl, hb1, hlt, hb2, hbel⟩ := hcut
    have HB := Lib.hid hbel
    have n1 : ¬ b = w.heap.size := by omega
    have n2 : ¬ w.heap.size = b := by omega
    have c0 := hb1.cell 0; have c1 := hb1.cell 1; have c2 := hb1.cell 2; have c3 := hb1.cell 3; have c4 := hb1.cell 4
    have s0 := hb2.cell 0; have s1 := hb2.cell 1; have s2 := hb2.cell 2; have s3 := hb2.cell 3; have s4 := hb2.cell 4
    have f0 := hb2.free 0; have f1 := hb2.free 1; have f2 := hb2.free 2; have f3 := hb2.free 3; have f4 := hb2.free 4
    simp at c0 c1 c2 c3 c4 s0 s1 s2 s3 s4
    clear hb1 hb2 hbel hlt KEPT BB K L B
    go_wp2
    exact bodyPost_ret (v := aheadV E P O I) (by rw [HV.out]; simp [subV, results, Try.results15, go_sem, s0, s1, s2, s3, s4]) rfl ⟨rfl, below_set5 HB.out (Nat.le_refl _)⟩
end Go.Proofs.Ytbomjnkccgmjjaa
