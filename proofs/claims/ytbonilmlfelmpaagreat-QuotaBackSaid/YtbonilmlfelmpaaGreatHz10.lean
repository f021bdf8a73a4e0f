/-
  Package hold as landed: New, Join, Ask: contracts; it is as asked (HoldOk).
-/
import Derived.Test.YtbonilmlfelmpaaGreatHz9
namespace Go.Proofs.YtbonilmlfelmpaaGreat
open Go.RowKit

theorem hjoin_nil' (id E P : Int) (w : World) : Calls Tryz.prog 52 #[.pointer none, .int .i64 id, .agg #[.int .i64 E, .int .i64 P]] w fun z w' => z = .returned (.int .i64 1) ∧ Below w.heap.size w w' := by
  have K := Blk.new w 46 #[.int .i64 E, .int .i64 P]
  have k0 := K.cell 0; have k1 := K.cell 1
  simp at k0 k1
  go_enter Tryz.func52, Tryz.ntmps52
  go_wp2
  go_ret
  exact ⟨rfl, wbox _ _⟩
theorem hjoin_arg (g : Nat) (id E P : Int) (w : World) (hM : ¬ MayBe E P) : Calls Tryz.prog 52 #[.pointer (some ⟨g, 0, none⟩), .int .i64 id, .agg #[.int .i64 E, .int .i64 P]] w fun z w' => z = .returned (.int .i64 1) ∧ Below w.heap.size w w' := by
  have HM := Lib.hid hM
  clear hM
  have K := Blk.new w 46 #[.int .i64 E, .int .i64 P]
  have k0 := K.cell 0; have k1 := K.cell 1
  simp at k0 k1
  go_enter Tryz.func52, Tryz.ntmps52
  go_wp2_with fail
  refine (wcheck_any E P _ false ⟨fun h => (by cases h), fun h => absurd h HM.out⟩).mono ?_
  rintro e w1 ⟨rfl, hb⟩
  have B := Lib.hid (below_next (wbox _ _) hb)
  clear hb
  go_wp2
  go_ret
  exact ⟨rfl, B.out⟩
theorem hask_arg (p : Option Addr) (id E P : Int) (w : World) (hM : ¬ MayBe E P) : Calls Tryz.prog 41 #[.pointer p, .int .i64 id, .agg #[.int .i64 E, .int .i64 P]] w fun z w' => z = .returned (.int .i64 1) ∧ Below w.heap.size w w' := by
  have HM := Lib.hid hM
  clear hM
  have K := Blk.new w 46 #[.int .i64 E, .int .i64 P]
  have k0 := K.cell 0; have k1 := K.cell 1
  simp at k0 k1
  go_enter Tryz.func41, Tryz.ntmps41
  go_wp2_with fail
  refine (wcheck_any E P _ false ⟨fun h => (by cases h), fun h => absurd h HM.out⟩).mono ?_
  rintro e w1 ⟨rfl, hb⟩
  have B := Lib.hid (below_next (wbox _ _) hb)
  clear hb
  go_wp2
  go_ret
  exact ⟨rfl, B.out⟩
theorem hask_err (w : World) (p : Option Addr) (id E P er : Int) (hM : MayBe E P) (he : er = 1 ∨ er = 12) (hfd : FindsH w (.pointer p) id 0 0 0 0 er) : Calls Tryz.prog 41 #[.pointer p, .int .i64 id, .agg #[.int .i64 E, .int .i64 P]] w fun z w' => z = .returned (.int .i64 er) ∧ Below w.heap.size w w' := by
  have HM := Lib.hid hM
  have FD := Lib.hid hfd
  clear hM hfd
  have K := Blk.new w 46 #[.int .i64 E, .int .i64 P]
  have k0 := K.cell 0; have k1 := K.cell 1
  simp at k0 k1
  rcases he with rfl | rfl
  all_goals
    go_enter Tryz.func41, Tryz.ntmps41
    go_wp2_with fail
    refine (wcheck_yes E P _ HM.out).mono ?_
    rintro e w1 ⟨rfl, hb⟩
    have B := Lib.hid (below_next (wbox _ _) hb)
    clear hb
    go_wp2_with fail
    refine (FD.out w1 B.out).mono ?_
    rintro e w2 ⟨rfl, hb⟩
    have B := Lib.hid (below_next B.out hb)
    clear hb
    go_wp2
    go_ret
    exact ⟨rfl, below_next B.out (wbox _ _)⟩
/-- w, and nothing in: it fits, if it does beside what is held -/
theorem fits_join {N D : Int} {hs : List Hd} {id E P : Int} (hM : MayBe E P) : fitsV N D hs E P 0 0 = fitH N D (hs ++ [newH id E P]) := by
  rw [fitsV_one hM (by rintro ⟨h, _⟩; omega)]
  unfold fitH
  rw [sumH_snoc, holdsV_new]
set_option maxHeartbeats 1000000 in
theorem hjoin_there {w : World} {g m : Nat} {A : Nat → Prop} {an : Option Addr} {ln cn : Nat} {ad : Option Addr} {ld cd : Nat} {N D : Int} {hs : List Hd} (id E P : Int) (j : Nat) (x : Hd) (h : LH w g m A an ln cn ad ld cd N D hs) (hM : MayBe E P) (hf : findH hs id = some j) (hx : hs[j]? = some x) :
    Calls Tryz.prog 52 #[.pointer (some ⟨g, 0, none⟩), .int .i64 id, .agg #[.int .i64 E, .int .i64 P]] w fun z w' => z = .returned (.int .i64 14) ∧ Below w.heap.size w w' := by
  have H := Lib.hid h
  have HM := Lib.hid hM
  have HX := Lib.hid hx
  clear h hM hx
  have K := Blk.new w 46 #[.int .i64 E, .int .i64 P]
  have k0 := K.cell 0; have k1 := K.cell 1
  simp at k0 k1
  go_enter Tryz.func52, Tryz.ntmps52
  go_wp2_with fail
  refine (wcheck_yes E P _ HM.out).mono ?_
  rintro e w1 ⟨rfl, hb⟩
  have B := Lib.hid (below_next (wbox _ _) hb)
  clear hb
  have H1 := Lib.hid (H.out.below B.out)
  have c2 := H1.out.blk.cell 2
  have hl := lookH_yes H1.out.map hf HX.out
  unfold Hd.mv at hl
  simp at c2
  go_wp2
  go_ret
  exact ⟨rfl, below_next B.out (wbox _ _)⟩
set_option maxHeartbeats 1000000 in
theorem hjoin_no {w : World} {g m : Nat} {A : Nat → Prop} {an : Option Addr} {ln cn : Nat} {ad : Option Addr} {ld cd : Nat} {N D : Int} {hs : List Hd} (id E P : Int) (h : LH w g m A an ln cn ad ld cd N D hs) (gd : GoodL N D hs) (hl : hs.length ≤ 19) (hM : MayBe E P) (hf : findH hs id = none) (hq : fitH N D (hs ++ [newH id E P]) = false) :
    Calls Tryz.prog 52 #[.pointer (some ⟨g, 0, none⟩), .int .i64 id, .agg #[.int .i64 E, .int .i64 P]] w fun z w' => z = .returned (.int .i64 18) ∧ Below w.heap.size w w' := by
  have H := Lib.hid h
  have GD := Lib.hid gd
  have HL := Lib.hid hl
  have HM := Lib.hid hM
  have HQ := Lib.hid ((fits_join (id := id) hM).trans hq)
  clear h hM gd hl hq
  have K := Lib.hid (Blk.new w 46 #[.int .i64 E, .int .i64 P])
  have k0 := K.out.cell 0; have k1 := K.out.cell 1
  simp at k0 k1
  go_enter Tryz.func52, Tryz.ntmps52
  go_wp2_with fail
  refine (wcheck_yes E P _ HM.out).mono ?_
  rintro e w1 ⟨rfl, hb⟩
  have B := Lib.hid (below_next (wbox _ _) hb)
  have K1 := Lib.hid (K.out.below hb)
  clear hb k0 k1
  have H1 := Lib.hid (H.out.below B.out)
  have c2 := H1.out.blk.cell 2
  have hl := lookH_no H1.out.map hf
  simp at c2
  have b3 := wbox w1 (.cells #[.int .i64 0, .int .i64 0, .int .i64 0, .int .i64 0] 103)
  have K3 := Lib.hid (K1.out.below b3)
  have B3 := Lib.hid (below_next B.out b3)
  have H3 := Lib.hid (H1.out.below b3)
  have k0 := K3.out.cell 0; have k1 := K3.out.cell 1
  simp at k0 k1
  clear b3
  go_wp2_with fail
  refine (hfits_yes H3.out GD.out E P 0 0 HM.out (by have := HL.out; omega) false HQ.out).mono ?_
  rintro e w4 ⟨rfl, hb⟩
  have B := Lib.hid (below_next B3.out hb)
  clear hb
  go_wp2
  go_ret
  exact ⟨rfl, B.out⟩
set_option maxHeartbeats 1000000 in
theorem hjoin_yes {w : World} {g m : Nat} {A : Nat → Prop} {an : Option Addr} {ln cn : Nat} {ad : Option Addr} {ld cd : Nat} {N D : Int} {hs : List Hd} (id E P : Int) (h : LH w g m A an ln cn ad ld cd N D hs) (hA : ∀ k, A k → k ≠ m) (gd : GoodL N D hs) (hl : hs.length ≤ 19) (hM : MayBe E P) (hf : findH hs id = none) (hq : fitH N D (hs ++ [newH id E P]) = true) :
    Calls Tryz.prog 52 #[.pointer (some ⟨g, 0, none⟩), .int .i64 id, .agg #[.int .i64 E, .int .i64 P]] w fun z w' => z = .returned (.int .i64 0) ∧ StayL w g m A an ln cn ad ld cd N D (hs ++ [newH id E P]) w' := by
  have H := Lib.hid h
  have AM := Lib.hid hA
  have GD := Lib.hid gd
  have HL := Lib.hid hl
  have HM := Lib.hid hM
  have HQ := Lib.hid ((fits_join (id := id) hM).trans hq)
  clear h hM gd hl hq hA
  have K := Lib.hid (Blk.new w 46 #[.int .i64 E, .int .i64 P])
  have k0 := K.out.cell 0; have k1 := K.out.cell 1
  simp at k0 k1
  go_enter Tryz.func52, Tryz.ntmps52
  go_wp2_with fail
  refine (wcheck_yes E P _ HM.out).mono ?_
  rintro e w1 ⟨rfl, hb⟩
  have B := Lib.hid (below_next (wbox _ _) hb)
  have K1 := Lib.hid (K.out.below hb)
  clear hb k0 k1
  have H1 := Lib.hid (H.out.below B.out)
  have c2 := H1.out.blk.cell 2
  have hl := lookH_no H1.out.map hf
  simp at c2
  have b3 := wbox w1 (.cells #[.int .i64 0, .int .i64 0, .int .i64 0, .int .i64 0] 103)
  have K3 := Lib.hid (K1.out.below b3)
  have B3 := Lib.hid (below_next B.out b3)
  have H3 := Lib.hid (H1.out.below b3)
  have k0 := K3.out.cell 0; have k1 := K3.out.cell 1
  simp at k0 k1
  clear b3
  go_wp2_with fail
  clear c2 hl
  refine (hfits_yes H3.out GD.out E P 0 0 HM.out (by have := HL.out; omega) true HQ.out).mono ?_
  rintro e w4 ⟨rfl, hb⟩
  have B4 := Lib.hid (below_next B3.out hb)
  have K4 := Lib.hid (K3.out.below hb)
  have H4 := Lib.hid (H3.out.below hb)
  clear hb k0 k1
  have k0 := K4.out.cell 0; have k1 := K4.out.cell 1
  have c2 := H4.out.blk.cell 2
  simp at k0 k1 c2
  obtain ⟨w5, hrun, hm5, hk5, _⟩ := putH_new (n := newH id E P) H4.out.drew.map hf
  have HMP := Lib.hid hm5
  have HK := Lib.hid hk5
  unfold Hd.mv newH at hrun
  simp only at hrun
  clear hm5 hk5
  go_upto_region 8 with fail
  go_region
  all_goals
    go_wp2
    go_ret
    exact ⟨rfl, StayL.of H4.out.drew B4.out.drew AM.out HMP.out HK.out⟩
end Go.Proofs.YtbonilmlfelmpaaGreat
