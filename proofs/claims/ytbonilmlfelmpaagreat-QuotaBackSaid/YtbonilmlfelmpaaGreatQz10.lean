/-
  Package quota as landed: Ask: contract.
-/
import Derived.Test.YtbonilmlfelmpaaGreatQzB
import Derived.Deep.RegionHeld3
import Derived.Deep.DeepCutAuto
namespace Go.Proofs.YtbonilmlfelmpaaGreat
open Go.RowKit Go.Shelf

theorem qAsk_arg (p : Option Addr) (id E P : Int) (w : World) (hM : ¬ MayBe E P) : Calls Tryz.prog 10 #[.pointer p, .int .i64 id, .agg #[.int .i64 E, .int .i64 P]] w fun z w' => z = .returned (.int .i64 1) ∧ Below w.heap.size w w' := by
  obtain ⟨W1, hW1⟩ : ∃ W1, (w.alloc (.cells #[.int .i64 id] 3)).alloc (.cells #[.int .i64 E, .int .i64 P] 46) = W1 := ⟨_, rfl⟩
  have B1 := Lib.hid (show Below w.heap.size w W1 by rw [← hW1]; exact wbox2 _ _ _)
  have K := Lib.hid (show Blk W1 46 (w.heap.size + 1) #[.int .i64 E, .int .i64 P] by rw [← hW1]; exact Blk.new2 _ _ _ _)
  have k0 := K.out.cell 0; have k1 := K.out.cell 1
  simp at k0 k1
  have HM := Lib.hid hM
  clear hM
  go_enter Tryz.func10, Tryz.ntmps10
  go_wp2_with fail
  (try rw [hW1])
  refine (wcheck_any E P _ false ⟨fun h => (by cases h), fun h => absurd h HM.out⟩).mono ?_
  rintro e w1 ⟨rfl, hb⟩
  have B := Lib.hid (below_next B1.out hb)
  clear hb k0 k1
  go_wp2
  go_ret
  exact ⟨rfl, B.out⟩
theorem qAsk_nil (id E P : Int) (w : World) : Calls Tryz.prog 10 #[.pointer none, .int .i64 id, .agg #[.int .i64 E, .int .i64 P]] w fun z w' => z = .returned (.int .i64 1) ∧ Below w.heap.size w w' := by
  rcases may_dec E P with hM | hM
  · obtain ⟨W1, hW1⟩ : ∃ W1, (w.alloc (.cells #[.int .i64 id] 3)).alloc (.cells #[.int .i64 E, .int .i64 P] 46) = W1 := ⟨_, rfl⟩
    have B1 := Lib.hid (show Below w.heap.size w W1 by rw [← hW1]; exact wbox2 _ _ _)
    have J := Lib.hid (show Blk W1 3 w.heap.size #[.int .i64 id] by rw [← hW1]; exact (Blk.new _ _ _).alloc _)
    have K := Lib.hid (show Blk W1 46 (w.heap.size + 1) #[.int .i64 E, .int .i64 P] by rw [← hW1]; exact Blk.new2 _ _ _ _)
    have k0 := K.out.cell 0; have k1 := K.out.cell 1
    simp at k0 k1
    have HM := Lib.hid hM
    clear hM
    go_enter Tryz.func10, Tryz.ntmps10
    go_wp2_with fail
    (try rw [hW1])
    refine (wcheck_any E P _ true ⟨fun _ => HM.out, fun _ => rfl⟩).mono ?_
    rintro e w1 ⟨rfl, hb⟩
    have B := Lib.hid (below_next B1.out hb)
    have J1 := Lib.hid (J.out.below hb)
    have j0 := J1.out.cell 0
    simp at j0
    clear hb k0 k1
    go_wp2_with fail
    refine (qfind_nil id _).mono ?_
    rintro e w2 ⟨rfl, rfl⟩
    go_wp2
    go_ret
    exact ⟨rfl, B.out⟩
  · exact qAsk_arg none id E P w hM
theorem set_w {X : World} {T : TypeId} {b : Nat} {u0 u1 : Value} (p q : Value) (h : Blk X T b #[u0, u1]) : Blk ((X.setCell ⟨b, 0, none⟩ p).setCell ⟨b, 1, none⟩ q) T b #[p, q] := two_set h
theorem keep_w {X : World} {T : TypeId} {b c : Nat} {cs : Array Value} (p q : Value) (h : Blk X T b cs) (hne : ¬ b = c) : Blk ((X.setCell ⟨c, 0, none⟩ p).setCell ⟨c, 1, none⟩ q) T b cs :=
  ((Below.heap_setCell _ ⟨c, 1, none⟩ q b hne).trans (Below.heap_setCell _ ⟨c, 0, none⟩ p b hne)).trans h
theorem bel_w {n : Nat} {A X : World} {c : Nat} (p q : Value) (h : Below n A X) (hc : n ≤ c) : Below n A ((X.setCell ⟨c, 0, none⟩ p).setCell ⟨c, 1, none⟩ q) := (h.setCell hc _).setCell hc _
set_option maxRecDepth 20000 in
set_option maxHeartbeats 8000000 in
theorem qAsk_any (g : Nat) (F A : Nat → Prop) (S : List Sv) (N D : Int) (hs : List Hq) (id E P : Int) (w : World) (h : HpQ w g F A S N D hs) (hl : hs.length ≤ 19) :
    Calls Tryz.prog 10 #[.pointer (some ⟨g, 0, none⟩), .int .i64 id, .agg #[.int .i64 E, .int .i64 P]] w fun z w' => z = .returned (.int .i64 (askQ S N D hs id E P).1) ∧ StayQ w g F A S N D (askQ S N D hs id E P).2 w' := by
  have H := Lib.hid h
  obtain ⟨t, hg, hTT, hMK, hGQ, hF, hA, hpa⟩ := _root_.id h
  subst hg
  have T := Lib.hid hTT
  have M := Lib.hid hMK
  have G := Lib.hid hGQ
  have HL := Lib.hid hl
  have LT := Lib.hid (tree_lt hTT hMK hpa)
  have FF := Lib.hid hF
  have FA := Lib.hid hA
  have FP := Lib.hid hpa
  clear h hTT hMK hGQ hF hA hpa hl
  rcases may_dec E P with hM | hM
  case inr =>
    rw [show askQ S N D hs id E P = (1, hs) by unfold askQ; rw [if_pos (mayB_no hM)]]
    exact (qAsk_arg (some ⟨t.g, 0, none⟩) id E P w hM).mono fun _ _ ⟨a, b⟩ => ⟨a, H.out.stay b⟩
  obtain ⟨W1, hW1⟩ : ∃ W1, (w.alloc (.cells #[.int .i64 id] 3)).alloc (.cells #[.int .i64 E, .int .i64 P] 46) = W1 := ⟨_, rfl⟩
  have B1 := Lib.hid (show Below w.heap.size w W1 by rw [← hW1]; exact wbox2 _ _ _)
  have J := Lib.hid (show Blk W1 3 w.heap.size #[.int .i64 id] by rw [← hW1]; exact (Blk.new _ _ _).alloc _)
  have K := Lib.hid (show Blk W1 46 (w.heap.size + 1) #[.int .i64 E, .int .i64 P] by rw [← hW1]; exact Blk.new2 _ _ _ _)
  have ZW := Lib.hid (show W1.heap.size = w.heap.size + 2 by rw [← hW1]; simp)
  have k0 := K.out.cell 0; have k1 := K.out.cell 1
  simp at k0 k1
  have HM := Lib.hid hM
  cases hf : findH (lst hs) id with
  | none =>
    have HF := Lib.hid hf
    rw [show askQ S N D hs id E P = (12, hs) by unfold askQ; rw [if_neg (by rw [mayB_yes hM]; simp), hf]]
    clear hf hM
    go_enter Tryz.func10, Tryz.ntmps10
    go_wp2_with fail
    (try rw [hW1])
    refine (wcheck_any E P _ true ⟨fun _ => HM.out, fun _ => rfl⟩).mono ?_
    rintro e w1 ⟨rfl, hb⟩
    have B := Lib.hid (below_next B1.out hb)
    have J1 := Lib.hid (J.out.below hb)
    have j0 := J1.out.cell 0
    simp at j0
    clear hb k0 k1
    go_wp2_with fail
    refine (qfind_none (T.out.below B.out) (M.out.below B.out) id HF.out).mono ?_
    rintro e w2 ⟨rfl, rfl⟩
    go_wp2
    go_ret
    exact ⟨rfl, H.out.stay B.out⟩
  | some j =>
    obtain ⟨q, hj, _⟩ := find_lst hf
    have HF := Lib.hid hf
    have HJ := Lib.hid hj
    have SB := Lib.hid (srv_bd G.out hj)
    have OW := Lib.hid (of_whole G.out hf hj)
    have GJ := Lib.hid (G.out.ask id E P)
    have HMM := Lib.hid (show homes (askQ S N D hs id E P).2 = homes hs by
      unfold askQ
      rw [if_neg (by rw [mayB_yes hM]; simp), hf]
      simp only [hj]
      split
      · rfl
      · split
        · exact homes_set hj rfl rfl
        · rfl)
    have AV := Lib.hid (show askQ S N D hs id E P = if q.h.asked then (13, hs) else if fitsP S N D q.srv (hs.set j (askQ1 q E P)) then (0, hs.set j (askQ1 q E P)) else (18, hs) by
      unfold askQ
      rw [if_neg (by rw [mayB_yes hM]; simp), hf]
      simp only [hj])
    have EJ := Lib.hid (show q.h.asked = false → eachV S N D [fitsOp E P q.h.E q.h.P, askOp id E P] (pathV S q.srv) (lsOf S hs) = ((askQ S N D hs id E P).1, lsOf S (askQ S N D hs id E P).2) from fun ha => ask_each G.out hM hf hj ha)
    have GL := G.out.each q (List.mem_of_getElem? hj)
    have GN := G.out.none q (List.mem_of_getElem? hj)
    obtain ⟨⟨c, hs'⟩, hjq⟩ : ∃ r, askQ S N D hs id E P = r := ⟨_, rfl⟩
    rw [hjq] at EJ GJ HMM AV ⊢
    clear hf hj hjq hM
    go_enter Tryz.func10, Tryz.ntmps10
    go_wp2_with fail
    (try rw [hW1])
    refine (wcheck_any E P _ true ⟨fun _ => HM.out, fun _ => rfl⟩).mono ?_
    rintro e w1 ⟨rfl, hb⟩
    have B := Lib.hid (below_next B1.out hb)
    have J1 := Lib.hid (J.out.below hb)
    have K1 := Lib.hid (K.out.below hb)
    have Z1 := Lib.hid (show w.heap.size + 2 ≤ w1.heap.size by have := ZW.out; have := hb.size; omega)
    have j0 := J1.out.cell 0
    simp at j0
    clear hb k0 k1
    go_wp2_with fail
    refine (qfind_some (T.out.below B.out) (M.out.below B.out) id j q HF.out HJ.out).mono ?_
    rintro e w2 ⟨rfl, rfl⟩
    obtain ⟨nE, hnE⟩ : ∃ x, q.h.E = x := ⟨_, rfl⟩
    obtain ⟨nP, hnP⟩ : ∃ x, q.h.P = x := ⟨_, rfl⟩
    obtain ⟨xE, hxE⟩ : ∃ x, q.h.NE = x := ⟨_, rfl⟩
    obtain ⟨xP, hxP⟩ : ∃ x, q.h.NP = x := ⟨_, rfl⟩
    rw [hnE, hnP, hxE, hxP] at OW
    rw [hnE, hnP] at EJ
    have T1 := Lib.hid (T.out.below B.out)
    have KEPT := Lib.hid (show ∀ w' : World, Below w1.heap.size w1 w' → w'.cell? ⟨w.heap.size, 0, none⟩ = some (.int .i64 id) from fun w' h => by have := (J1.out.below h).cell 0; simpa using this)
    have BB := Lib.hid (show Below w1.heap.size w1 w1.drew from (Below.refl w1.heap.size w1).drew)
    have BX1 := Lib.hid (show Below w1.heap.size w1 (w1.alloc (.cells #[.int .i64 0, .int .i64 0] 46)).drew from (wbox _ _).drew)
    have BX2 := Lib.hid (show Below w1.heap.size w1 ((w1.alloc (.cells #[.int .i64 0, .int .i64 0] 46)).alloc (.cells #[.int .i64 0, .int .i64 0] 46)).drew from (wbox2 _ _ _).drew)
    have PA1 := Lib.hid (show Blk (w1.alloc (.cells #[.int .i64 0, .int .i64 0] 46)).drew 46 w1.heap.size #[.int .i64 0, .int .i64 0] from (Blk.new w1 _ _).drew)
    have PA2 := Lib.hid (show Blk ((w1.alloc (.cells #[.int .i64 0, .int .i64 0] 46)).alloc (.cells #[.int .i64 0, .int .i64 0] 46)).drew 46 w1.heap.size #[.int .i64 0, .int .i64 0] from ((Blk.new w1 _ _).alloc _).drew)
    have PB2 := Lib.hid (show Blk ((w1.alloc (.cells #[.int .i64 0, .int .i64 0] 46)).alloc (.cells #[.int .i64 0, .int .i64 0] 46)).drew 46 (w1.heap.size + 1) #[.int .i64 0, .int .i64 0] from (Blk.new2 w1 _ _ _).drew)
    have WH := Lib.hid (show -1 ≤ (-1 : Int) ∧ (-1 : Int) < (S.length : Int) by omega)
    go_upto_region 6 with fail
    go_cut [9, 10] (fun s9 s10 wx => ∃ b9 b10 : Nat, s9 = .pointer (some ⟨b9, 0, none⟩) ∧ s10 = .pointer (some ⟨b10, 0, none⟩) ∧ b9 ≠ b10 ∧ Blk wx 46 b9 #[.int .i64 nE, .int .i64 nP] ∧ Blk wx 46 b10 #[.int .i64 xE, .int .i64 xP] ∧ Below w1.heap.size w1 wx ∧ w1.heap.size ≤ b9 ∧ w1.heap.size ≤ b10)
    case first =>
      go_region_held3 (fun w' => w'.cell? ⟨w.heap.size, 0, none⟩ = some (.int .i64 id))
        (first | (refine KEPT.out _ ?_; repeat (first | with_reducible exact BB.out | with_reducible exact BX1.out | with_reducible exact BX2.out | with_reducible exact below_next BB.out (wbox _ _) | with_reducible exact below_next BB.out (wbox2 _ _ _) | (with_reducible refine Below.setCell ?_ ?_ _) | with_reducible exact Nat.le_refl _ | with_reducible exact Nat.le_add_right _ 1 | with_reducible exact BB.out.size | with_reducible exact Nat.le_succ_of_le BB.out.size)))
        (first
          | (go_at_call 36; (first
              | (with_reducible refine (qledger_any (T1.out.below BB.out) WH.out).mono ?_)
              | (with_reducible refine (qledger_any (T1.out.below BX1.out) WH.out).mono ?_)
              | (with_reducible refine (qledger_any (T1.out.below BX2.out) WH.out).mono ?_)); rintro e w3 ⟨rfl, rfl⟩)
          | (go_at_call 37; (first
              | ((with_reducible refine (fof _ _ _ _ _ _ id _ ((T1.out.below BB.out).led (-1) WH.out.1 WH.out.2)).mono ?_); rintro e w4 ⟨rfl, hb4⟩; have qa0 : ∀ o : Obj, ((w4.alloc (.cells #[.int .i64 0, .int .i64 0] 46)).alloc o).cell? ⟨w4.heap.size, 0, none⟩ = some (.int .i64 0) := (fun o => ((Blk.new w4 46 #[.int .i64 0, .int .i64 0]).alloc o).cell 0); have qa1 : ∀ o : Obj, ((w4.alloc (.cells #[.int .i64 0, .int .i64 0] 46)).alloc o).cell? ⟨w4.heap.size, 1, none⟩ = some (.int .i64 0) := (fun o => ((Blk.new w4 46 #[.int .i64 0, .int .i64 0]).alloc o).cell 1); have qaf : ∀ (o : Obj) (k : Nat), ((w4.alloc (.cells #[.int .i64 0, .int .i64 0] 46)).alloc o).frozen? ⟨w4.heap.size, k, none⟩ = false := (fun o k => ((Blk.new w4 46 #[.int .i64 0, .int .i64 0]).alloc o).free k); have QB := Lib.hid (Blk.new2 w4 (.cells #[.int .i64 0, .int .i64 0] 46) 46 #[.int .i64 0, .int .i64 0]); have qb0 := QB.out.cell 0; have qb1 := QB.out.cell 1; have qbf := QB.out.free; simp at qb0 qb1; have BB := Lib.hid (below_next BB.out hb4))
              | ((with_reducible refine (fof _ _ _ _ _ _ id _ ((T1.out.below BX1.out).led (-1) WH.out.1 WH.out.2)).mono ?_); rintro e w4 ⟨rfl, hb4⟩; have PA := Lib.hid (PA1.out.below hb4); have pa0 := PA.out.cell 0; have pa1 := PA.out.cell 1; have paf := PA.out.free; simp at pa0 pa1; have paz0 : ∀ o : Obj, (w4.alloc o).cell? ⟨w1.heap.size, 0, none⟩ = some (.int .i64 0) := (fun o => by have := (PA.out.alloc o).cell 0; exact this); have paz1 : ∀ o : Obj, (w4.alloc o).cell? ⟨w1.heap.size, 1, none⟩ = some (.int .i64 0) := (fun o => by have := (PA.out.alloc o).cell 1; exact this); have pazf : ∀ (o : Obj) (k : Nat), (w4.alloc o).frozen? ⟨w1.heap.size, k, none⟩ = false := (fun o k => (PA.out.alloc o).free k); have pn1 : ¬ w1.heap.size = w4.heap.size := (by have := PA.out.lt; omega); have pn2 : ¬ w4.heap.size = w1.heap.size := (by have := PA.out.lt; omega); have BB := Lib.hid (below_next BX1.out hb4))
              | ((with_reducible refine (fof _ _ _ _ _ _ id _ ((T1.out.below BX2.out).led (-1) WH.out.1 WH.out.2)).mono ?_); rintro e w4 ⟨rfl, hb4⟩; have PA := Lib.hid (PA2.out.below hb4); have PB := Lib.hid (PB2.out.below hb4); have pa0 := PA.out.cell 0; have pa1 := PA.out.cell 1; have paf := PA.out.free; simp at pa0 pa1; have pb0 := PB.out.cell 0; have pb1 := PB.out.cell 1; have pbf := PB.out.free; simp at pb0 pb1; have BB := Lib.hid (below_next BX2.out hb4)));
              (try rw [show lsOf S hs (-1) = listAt S (-1) hs from rfl]); (try rw [OW.out]); clear hb4))
      all_goals
        go_wp2_with fail
        go_meet
        first
          | with_reducible exact ⟨w4.heap.size, w4.heap.size + 1, rfl, rfl, by omega, (Blk.new w4 _ _).alloc _, Blk.new2 w4 _ _ _, below_next BB.out (wbox2 _ _ _), BB.out.size, Nat.le_trans BB.out.size (Nat.le_add_right _ 1)⟩
          | with_reducible exact ⟨w4.heap.size + 1, w4.heap.size, rfl, rfl, by omega, Blk.new2 w4 _ _ _, (Blk.new w4 _ _).alloc _, below_next BB.out (wbox2 _ _ _), Nat.le_trans BB.out.size (Nat.le_add_right _ 1), BB.out.size⟩
          | with_reducible exact ⟨w1.heap.size, w4.heap.size, rfl, rfl, pn1, keep_w _ _ (set_w _ _ (PA.out.alloc _)) pn1, set_w _ _ (keep_w _ _ (Blk.new w4 _ _) pn2), bel_w _ _ (bel_w _ _ (below_next BB.out (wbox _ _)) (Nat.le_refl _)) BB.out.size, Nat.le_refl _, BB.out.size⟩
          | with_reducible exact ⟨w4.heap.size, w1.heap.size, rfl, rfl, pn2, keep_w _ _ (set_w _ _ (Blk.new w4 _ _)) pn2, set_w _ _ (keep_w _ _ (PA.out.alloc _) pn1), bel_w _ _ (bel_w _ _ (below_next BB.out (wbox _ _)) BB.out.size) (Nat.le_refl _), BB.out.size, Nat.le_refl _⟩
          | with_reducible exact ⟨w4.heap.size, w1.heap.size, rfl, rfl, pn2, keep_w _ _ (Blk.new w4 _ _) pn2, set_w _ _ (PA.out.alloc _), bel_w _ _ (below_next BB.out (wbox _ _)) (Nat.le_refl _), BB.out.size, Nat.le_refl _⟩
          | with_reducible exact ⟨w1.heap.size, w4.heap.size, rfl, rfl, pn1, set_w _ _ (PA.out.alloc _), keep_w _ _ (Blk.new w4 _ _) pn2, bel_w _ _ (below_next BB.out (wbox _ _)) (Nat.le_refl _), Nat.le_refl _, BB.out.size⟩
          | with_reducible exact ⟨w1.heap.size, w1.heap.size + 1, rfl, rfl, by omega, keep_w _ _ (set_w _ _ PA.out) (by omega), set_w _ _ (keep_w _ _ PB.out (by omega)), bel_w _ _ (bel_w _ _ BB.out (Nat.le_refl _)) (Nat.le_add_right _ 1), Nat.le_refl _, Nat.le_add_right _ 1⟩
          | with_reducible exact ⟨w1.heap.size + 1, w1.heap.size, rfl, rfl, by omega, keep_w _ _ (set_w _ _ PB.out) (by omega), set_w _ _ (keep_w _ _ PA.out (by omega)), bel_w _ _ (bel_w _ _ BB.out (Nat.le_add_right _ 1)) (Nat.le_refl _), Nat.le_add_right _ 1, Nat.le_refl _⟩
          | with_reducible exact ⟨w1.heap.size, w1.heap.size + 1, rfl, rfl, by omega, set_w _ _ (keep_w _ _ PA.out (by omega)), keep_w _ _ (set_w _ _ PB.out) (by omega), bel_w _ _ (bel_w _ _ BB.out (Nat.le_add_right _ 1)) (Nat.le_refl _), Nat.le_refl _, Nat.le_add_right _ 1⟩
          | with_reducible exact ⟨w1.heap.size + 1, w1.heap.size, rfl, rfl, by omega, set_w _ _ (keep_w _ _ PB.out (by omega)), keep_w _ _ (set_w _ _ PA.out) (by omega), bel_w _ _ (bel_w _ _ BB.out (Nat.le_refl _)) (Nat.le_add_right _ 1), Nat.le_add_right _ 1, Nat.le_refl _⟩
    case rest =>
      obtain ⟨b9, b10, rfl, rfl, hne, h9, h10, hbel, hl9, hl10⟩ := hcut
      have BC := Lib.hid hbel
      have N9 := Lib.hid h9
      have B := Lib.hid (below_next B.out hbel)
      have J2 := Lib.hid (J1.out.below hbel)
      have K2 := Lib.hid (K1.out.below hbel)
      have L9 := Lib.hid hl9
      have x0 := h10.cell 0; have x1 := h10.cell 1
      have n0 := h9.cell 0; have n1 := h9.cell 1
      have e0 := K2.out.cell 0; have e1 := K2.out.cell 1
      simp at x0 x1 n0 n1 e0 e1
      clear j0 h9 h10 hbel hl9 hl10 hne
      cases ha : q.h.asked with
      | true =>
        have hj := AV.out
        rw [ha, if_pos rfl] at hj
        cases hj
        have hx : (xE == 0 && xP == 0) = false := by
          have h3 := GL.next ha
          rw [hxE, hxP] at h3
          unfold MayBe at h3
          simp; omega
        have hx2 : ¬ (xE = 0 ∧ xP = 0) := by simpa using hx
        clear ha
        go_wp2
        all_goals
          go_ret
          exact ⟨rfl, H.out.stay B.out⟩
      | false =>
        have hx : (xE == 0 && xP == 0) = true := by
          have h3 := GN ha
          rw [hxE, hxP] at h3
          simp [h3.1, h3.2]
        have hx2 : xE = 0 ∧ xP = 0 := by simpa using hx
        have AV2 := Lib.hid (show (c, hs') = if fitsP S N D q.srv (hs.set j (askQ1 q E P)) then (0, hs.set j (askQ1 q E P)) else (18, hs) by
          have hj := AV.out
          rw [ha] at hj
          simpa using hj)
        have EJ2 := Lib.hid (EJ.out ha)
        clear ha
        go_wp2_with fail
        refine (qfits_any E P nE nP wc).mono ?_
        rintro e w4 ⟨rfl, hw4⟩
        have B4 := Lib.hid (show Below wc.heap.size wc w4 by rw [hw4]; exact wbox2 _ _ _)
        have F4 := Lib.hid (show Blk w4 46 wc.heap.size #[.int .i64 E, .int .i64 P] by rw [hw4]; exact (Blk.new _ _ _).alloc _)
        have I4 := Lib.hid (show Blk w4 46 (wc.heap.size + 1) #[.int .i64 nE, .int .i64 nP] by rw [hw4]; exact Blk.new2 _ _ _ _)
        have Z4 := Lib.hid (show w4.heap.size = wc.heap.size + 2 by rw [hw4]; simp)
        have ZC := Lib.hid (show w.heap.size + 2 ≤ wc.heap.size by have := Z1.out; have := BC.out.size; omega)
        clear hw4
        obtain ⟨W5, hW5⟩ : ∃ W5, w4.alloc (.cells #[.func (.func 66) #[] #[.pointer (some ⟨wc.heap.size, 0, none⟩), .pointer (some ⟨wc.heap.size + 1, 0, none⟩)], .func (.func 40) #[] #[.pointer (some ⟨w.heap.size, 0, none⟩), .pointer (some ⟨w.heap.size + 1, 0, none⟩)]] 81) = W5 := ⟨_, rfl⟩
        have B5 := Lib.hid (show Below w4.heap.size w4 W5 by rw [← hW5]; exact wbox _ _)
        have A5 := Lib.hid (show Blk W5 81 w4.heap.size #[.func (.func 66) #[] #[.pointer (some ⟨wc.heap.size, 0, none⟩), .pointer (some ⟨wc.heap.size + 1, 0, none⟩)], .func (.func 40) #[] #[.pointer (some ⟨w.heap.size, 0, none⟩), .pointer (some ⟨w.heap.size + 1, 0, none⟩)]] by rw [← hW5]; exact Blk.new _ _ _)
        have Z5 := Lib.hid (show W5.heap.size = w4.heap.size + 1 by rw [← hW5]; simp)
        have BW := Lib.hid (below_next (below_next B.out B4.out) B5.out)
        have NL := Lib.hid (show ∀ k, w.heap.size ≤ k → ¬ ledF t S.length k from fun k q ⟨i, hi, r⟩ => by have := LT.out k (.inl (.inr (.inr (.inr ⟨i, hi, r⟩)))); omega)
        clear x0 x1 n0 n1 e0 e1 hx hx2
        go_wp2_with fail
        (try rw [hW5])
        refine (qeach2_any (op := fitsOp E P nE nP) (op2 := askOp id E P) (C := fun k => k = wc.heap.size ∨ k = wc.heap.size + 1) (C2 := fun k => k = w.heap.size ∨ k = w.heap.size + 1) (T.out.below BW.out) (fun x => Nat.le_trans (listAt_len S x hs) HL.out) q.srv
          (fun L1 e x => by rw [stage_fit (op := fitsOp E P nE nP) (p := fun n d l => fitsV n d l E P nE nP) (fun _ _ _ => rfl)] at e; rw [← (Prod.mk.inj e).2]; exact Nat.le_trans (listAt_len S x hs) HL.out) SB.out
          (ask_fits (F4.out.below B5.out) (I4.out.below B5.out)) (fun k q => by have := ZC.out; have := Z4.out; have := Z5.out; exact ⟨by omega, NL.out k (by omega)⟩)
          (ask_ask ((J2.out.below B4.out).below B5.out) ((K2.out.below B4.out).below B5.out)) (fun k q => by have := ZC.out; have := Z4.out; have := Z5.out; exact ⟨by omega, NL.out k (by omega)⟩)
          (fun k q => by have := LT.out k q; have := BW.out.size; omega) w4.heap.size A5.out (NL.out _ (by have := ZC.out; have := Z4.out; omega)) EJ2.out).mono ?_
        rintro e w6 ⟨rfl, hT6, hK6⟩
        have T6 := Lib.hid hT6
        have M6 := Lib.hid ((M.out.below BW.out).keeps hK6 (fun ⟨i, hi, r⟩ => (T.out.apO i hi _ r).2.1 rfl))
        have KF := Lib.hid (show Keeps (chgT t S.length) w w6 from (Keeps.of (F := chgT t S.length) BW.out).trans hK6 (fun k q => .inl (.inr q)))
        have P6 := Lib.hid (show ∀ ad : Addr, t.pa = some ad → ad.block < w6.heap.size from fun ad e => by have := FP.out ad e; have := KF.out.size; omega)
        clear hT6 hK6
        go_wp2
        go_ret
        exact ⟨rfl, stay_of T.out M.out FF.out ⟨t, rfl, T6.out, by rw [HMM.out]; exact M6.out, GJ.out, FF.out, FA.out, P6.out⟩ KF.out⟩
end Go.Proofs.YtbonilmlfelmpaaGreat
