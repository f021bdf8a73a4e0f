/-
  Package hold as landed: Ask: contracts.
-/
import Derived.Test.YtbonilmlfelmpaaGreatHz10
namespace Go.Proofs.YtbonilmlfelmpaaGreat
open Go.RowKit

set_option maxHeartbeats 1000000 in
theorem hask_state {w : World} {g m : Nat} {A : Nat → Prop} {an : Option Addr} {ln cn : Nat} {ad : Option Addr} {ld cd : Nat} {N D : Int} {hs : List Hd} (id E P : Int) (j : Nat) (x : Hd) (h : LH w g m A an ln cn ad ld cd N D hs) (hM : MayBe E P) (hf : findH hs id = some j) (hx : hs[j]? = some x) (ha : askB x.NE x.NP = true) :
    Calls Tryz.prog 41 #[.pointer (some ⟨g, 0, none⟩), .int .i64 id, .agg #[.int .i64 E, .int .i64 P]] w fun z w' => z = .returned (.int .i64 13) ∧ Below w.heap.size w w' := by
  have FD := Lib.hid (finds_some id h hf hx)
  have H := Lib.hid h
  have HM := Lib.hid hM
  have HA := Lib.hid ha
  clear h hM ha
  have K := Lib.hid (Blk.new w 46 #[.int .i64 E, .int .i64 P])
  have k0 := K.out.cell 0; have k1 := K.out.cell 1
  simp at k0 k1
  go_enter Tryz.func41, Tryz.ntmps41
  go_wp2_with fail
  refine (wcheck_yes E P _ HM.out).mono ?_
  rintro e w1 ⟨rfl, hb⟩
  have B := Lib.hid (below_next (wbox _ _) hb)
  have K := Lib.hid (K.out.below hb)
  clear hb k0 k1
  go_wp2_with fail
  refine (FD.out w1 B.out).mono ?_
  rintro e w2 ⟨rfl, hb⟩
  obtain ⟨w3, hw3⟩ : ∃ w3, w2.alloc (.cells #[.int .i64 x.E, .int .i64 x.P, .int .i64 x.NE, .int .i64 x.NP] 103) = w3 := ⟨_, rfl⟩
  have b3 : Below w2.heap.size w2 w3 := by rw [← hw3]; exact wbox _ _
  have Q := Lib.hid (show Blk w3 103 w2.heap.size #[.int .i64 x.E, .int .i64 x.P, .int .i64 x.NE, .int .i64 x.NP] by rw [← hw3]; exact Blk.new _ _ _)
  have B := Lib.hid (below_next (below_next B.out hb) b3)
  have K := Lib.hid ((K.out.below hb).below b3)
  have q0 := Q.out.cell 0; have q1 := Q.out.cell 1; have q2 := Q.out.cell 2; have q3 := Q.out.cell 3
  simp at q0 q1 q2 q3
  clear hb b3
  go_wp2_with fail
  (try rw [hw3])
  refine (hasked_any _ _ _ _ true _ HA.out).mono ?_
  rintro e w4 ⟨rfl, hb⟩
  have B := Lib.hid (below_next B.out hb)
  have K := Lib.hid (K.out.below hb)
  have Q := Lib.hid (Q.out.below hb)
  clear hb q0 q1 q2 q3 hw3
  have k0 := K.out.cell 0; have k1 := K.out.cell 1
  have q0 := Q.out.cell 0; have q1 := Q.out.cell 1
  simp at k0 k1 q0 q1
  go_wp2
  go_ret
  exact ⟨rfl, B.out⟩
set_option maxHeartbeats 1000000 in
theorem hask_no {w : World} {g m : Nat} {A : Nat → Prop} {an : Option Addr} {ln cn : Nat} {ad : Option Addr} {ld cd : Nat} {N D : Int} {hs : List Hd} (id E P : Int) (j : Nat) (x : Hd) (h : LH w g m A an ln cn ad ld cd N D hs) (gd : GoodL N D hs) (hl : hs.length ≤ 19) (hM : MayBe E P) (hf : findH hs id = some j) (hx : hs[j]? = some x) (ha : askB x.NE x.NP = false) (hq : fitH N D (hs.set j (askH x E P)) = false) :
    Calls Tryz.prog 41 #[.pointer (some ⟨g, 0, none⟩), .int .i64 id, .agg #[.int .i64 E, .int .i64 P]] w fun z w' => z = .returned (.int .i64 18) ∧ Below w.heap.size w w' := by
  have FD := Lib.hid (finds_some id h hf hx)
  have H := Lib.hid h
  have HM := Lib.hid hM
  have HA := Lib.hid ha
  have GD := Lib.hid gd
  have HL := Lib.hid hl
  have HQ := Lib.hid ((fits_ask gd hx (by rw [← asked_is gd (List.mem_of_getElem? hx)]; exact ha) hM).trans hq)
  clear h hM ha gd hl hq
  have K := Lib.hid (Blk.new w 46 #[.int .i64 E, .int .i64 P])
  have k0 := K.out.cell 0; have k1 := K.out.cell 1
  simp at k0 k1
  go_enter Tryz.func41, Tryz.ntmps41
  go_wp2_with fail
  refine (wcheck_yes E P _ HM.out).mono ?_
  rintro e w1 ⟨rfl, hb⟩
  have B := Lib.hid (below_next (wbox _ _) hb)
  have K := Lib.hid (K.out.below hb)
  clear hb k0 k1
  go_wp2_with fail
  refine (FD.out w1 B.out).mono ?_
  rintro e w2 ⟨rfl, hb⟩
  obtain ⟨w3, hw3⟩ : ∃ w3, w2.alloc (.cells #[.int .i64 x.E, .int .i64 x.P, .int .i64 x.NE, .int .i64 x.NP] 103) = w3 := ⟨_, rfl⟩
  have b3 : Below w2.heap.size w2 w3 := by rw [← hw3]; exact wbox _ _
  have Q := Lib.hid (show Blk w3 103 w2.heap.size #[.int .i64 x.E, .int .i64 x.P, .int .i64 x.NE, .int .i64 x.NP] by rw [← hw3]; exact Blk.new _ _ _)
  have B := Lib.hid (below_next (below_next B.out hb) b3)
  have K := Lib.hid ((K.out.below hb).below b3)
  have q0 := Q.out.cell 0; have q1 := Q.out.cell 1; have q2 := Q.out.cell 2; have q3 := Q.out.cell 3
  simp at q0 q1 q2 q3
  clear hb b3
  go_wp2_with fail
  (try rw [hw3])
  refine (hasked_any _ _ _ _ false _ HA.out).mono ?_
  rintro e w4 ⟨rfl, hb⟩
  have B := Lib.hid (below_next B.out hb)
  have K := Lib.hid (K.out.below hb)
  have Q := Lib.hid (Q.out.below hb)
  clear hb q0 q1 q2 q3 hw3
  have k0 := K.out.cell 0; have k1 := K.out.cell 1
  have q0 := Q.out.cell 0; have q1 := Q.out.cell 1
  simp at k0 k1 q0 q1
  go_wp2_with fail
  refine (hfits_yes (H.out.below B.out) GD.out E P x.E x.P HM.out (by have := HL.out; omega) false HQ.out).mono ?_
  rintro e w5 ⟨rfl, hb⟩
  have B := Lib.hid (below_next B.out hb)
  have K := Lib.hid (K.out.below hb)
  have Q := Lib.hid (Q.out.below hb)
  clear hb k0 k1 q0 q1
  go_wp2
  go_ret
  exact ⟨rfl, B.out⟩
set_option maxHeartbeats 1000000 in
theorem hask_yes {w : World} {g m : Nat} {A : Nat → Prop} {an : Option Addr} {ln cn : Nat} {ad : Option Addr} {ld cd : Nat} {N D : Int} {hs : List Hd} (id E P : Int) (j : Nat) (x : Hd) (h : LH w g m A an ln cn ad ld cd N D hs) (hAm : ∀ k, A k → k ≠ m) (gd : GoodL N D hs) (hl : hs.length ≤ 19) (hM : MayBe E P) (hf : findH hs id = some j) (hx : hs[j]? = some x) (ha : askB x.NE x.NP = false) (hq : fitH N D (hs.set j (askH x E P)) = true) :
    Calls Tryz.prog 41 #[.pointer (some ⟨g, 0, none⟩), .int .i64 id, .agg #[.int .i64 E, .int .i64 P]] w fun z w' => z = .returned (.int .i64 0) ∧ StayL w g m A an ln cn ad ld cd N D (hs.set j (askH x E P)) w' := by
  have FD := Lib.hid (finds_some id h hf hx)
  have H := Lib.hid h
  have HM := Lib.hid hM
  have HA := Lib.hid ha
  have GD := Lib.hid gd
  have HL := Lib.hid hl
  have HQ := Lib.hid ((fits_ask gd hx (by rw [← asked_is gd (List.mem_of_getElem? hx)]; exact ha) hM).trans hq)
  have AM := Lib.hid hAm
  have hid : x.id = id := by
    obtain ⟨y, hy, e⟩ := findH_some hf
    rw [hx] at hy
    cases hy
    exact e
  clear h hM ha gd hl hq hAm
  have K := Lib.hid (Blk.new w 46 #[.int .i64 E, .int .i64 P])
  have k0 := K.out.cell 0; have k1 := K.out.cell 1
  simp at k0 k1
  go_enter Tryz.func41, Tryz.ntmps41
  go_wp2_with fail
  refine (wcheck_yes E P _ HM.out).mono ?_
  rintro e w1 ⟨rfl, hb⟩
  have B := Lib.hid (below_next (wbox _ _) hb)
  have K := Lib.hid (K.out.below hb)
  clear hb k0 k1
  go_wp2_with fail
  refine (FD.out w1 B.out).mono ?_
  rintro e w2 ⟨rfl, hb⟩
  obtain ⟨w3, hw3⟩ : ∃ w3, w2.alloc (.cells #[.int .i64 x.E, .int .i64 x.P, .int .i64 x.NE, .int .i64 x.NP] 103) = w3 := ⟨_, rfl⟩
  have b3 : Below w2.heap.size w2 w3 := by rw [← hw3]; exact wbox _ _
  have Q := Lib.hid (show Blk w3 103 w2.heap.size #[.int .i64 x.E, .int .i64 x.P, .int .i64 x.NE, .int .i64 x.NP] by rw [← hw3]; exact Blk.new _ _ _)
  have B := Lib.hid (below_next (below_next B.out hb) b3)
  have K := Lib.hid ((K.out.below hb).below b3)
  have q0 := Q.out.cell 0; have q1 := Q.out.cell 1; have q2 := Q.out.cell 2; have q3 := Q.out.cell 3
  simp at q0 q1 q2 q3
  clear hb b3
  go_wp2_with fail
  (try rw [hw3])
  refine (hasked_any _ _ _ _ false _ HA.out).mono ?_
  rintro e w4 ⟨rfl, hb⟩
  have B := Lib.hid (below_next B.out hb)
  have K := Lib.hid (K.out.below hb)
  have Q := Lib.hid (Q.out.below hb)
  clear hb q0 q1 q2 q3 hw3
  have k0 := K.out.cell 0; have k1 := K.out.cell 1
  have q0 := Q.out.cell 0; have q1 := Q.out.cell 1
  simp at k0 k1 q0 q1
  go_wp2_with fail
  refine (hfits_yes (H.out.below B.out) GD.out E P x.E x.P HM.out (by have := HL.out; omega) true HQ.out).mono ?_
  rintro e w5 ⟨rfl, hb⟩
  have B := Lib.hid (below_next B.out hb)
  have K := Lib.hid (K.out.below hb)
  have Q := Lib.hid (Q.out.below hb)
  clear hb k0 k1 q0 q1
  have H5 := Lib.hid (H.out.below B.out)
  have k0 := K.out.cell 0; have k1 := K.out.cell 1
  have q0 := Q.out.cell 0; have q1 := Q.out.cell 1
  have c2 := H5.out.blk.cell 2
  simp at k0 k1 q0 q1 c2
  obtain ⟨w6, hrun, hm6, hk6, _⟩ := putH_old (n := askH x E P) H5.out.drew.map (show findH hs (askH x E P).id = some j by show findH hs x.id = _; rw [hid]; exact hf) hx
  have HMP := Lib.hid hm6
  have HK := Lib.hid hk6
  unfold Hd.mv askH at hrun
  simp only [hid] at hrun
  clear hm6 hk6
  go_upto_region 10 with fail
  go_region
  all_goals
    go_wp2
    go_ret
    exact ⟨rfl, StayL.of H5.out.drew B.out.drew AM.out HMP.out HK.out⟩
end Go.Proofs.YtbonilmlfelmpaaGreat
