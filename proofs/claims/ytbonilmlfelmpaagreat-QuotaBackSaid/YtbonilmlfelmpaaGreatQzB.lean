/-
  Package quota as landed: Join: contract.
  Package quota as landed: Settle, Free, Held: contracts.
-/
import Derived.Test.YtbonilmlfelmpaaGreatQz7
namespace Go.Proofs.YtbonilmlfelmpaaGreat
open Go.RowKit Go.Shelf

/-- a call on the tree that leaves it so: in its own blocks; the ratios that were told are as they were -/
def StayQ (w : World) (g : Nat) (F A : Nat → Prop) (S : List Sv) (N D : Int) (hs : List Hq) (w' : World) : Prop := HpQ w' g F A S N D hs ∧ Keeps F w w' ∧ NumsKept w w'
/-- what a call may change: the homes, the ledgers -/
def chgT (t : TreeW) (n k : Nat) : Prop := k = t.m ∨ ledF t n k
theorem stay_of {w w' : World} {t : TreeW} {F A : Nat → Prop} {S : List Sv} {N D : Int} {Ls : Int → List Hd} {l : List (Int × Int)} {hs : List Hq} (h : TT w t S N D Ls) (hm : MapK w t.m l) (hF : ∀ k, F k ↔ ownT t S.length k) (h' : HpQ w' t.g F A S N D hs) (k : Keeps (chgT t S.length) w w') : StayQ w t.g F A S N D hs w' := by
  refine ⟨h', ⟨k.os, k.tape, k.output, k.size, fun x hx hf => k.block x hx (fun q => hf ((hF x).mpr ?_))⟩, NumsKept.of k (fun x hx j y hc => ?_)⟩
  · rcases q with rfl | ⟨i, hi, r⟩
    · exact .inr (.inl rfl)
    · exact .inr (.inr (.inr ⟨i, hi, r⟩))
  · rcases hx with rfl | ⟨i, hi, r⟩
    · exact hm.nocell j _ hc
    · obtain ⟨z, h1, h2, rfl⟩ := place_of hi
      exact (h.led z h1 h2).nonum x r j y hc
theorem HpQ.below {w w' : World} {g : Nat} {F A : Nat → Prop} {S : List Sv} {N D : Int} {hs : List Hq} (h : HpQ w g F A S N D hs) (hb : Below w.heap.size w w') : HpQ w' g F A S N D hs := by
  obtain ⟨t, h1, h2, h3, h4, h5, h6, h7⟩ := h
  exact ⟨t, h1, h2.below hb, h3.below hb, h4, h5, h6, fun ad e => Nat.lt_of_lt_of_le (h7 ad e) hb.size⟩
theorem HpQ.stay {w w' : World} {g : Nat} {F A : Nat → Prop} {S : List Sv} {N D : Int} {hs : List Hq} (h : HpQ w g F A S N D hs) (hb : Below w.heap.size w w') : StayQ w g F A S N D hs w' := ⟨h.below hb, Keeps.of hb, NumsKept.of (Keeps.of (F := fun _ => False) hb) (fun _ q => q.elim)⟩
theorem tree_lt {w : World} {t : TreeW} {S : List Sv} {N D : Int} {Ls : Int → List Hd} {l : List (Int × Int)} (h : TT w t S N D Ls) (hm : MapK w t.m l) (hp : ∀ ad : Addr, t.pa = some ad → ad.block < w.heap.size) : ∀ k, ownT t S.length k ∨ readT t S.length k → k < w.heap.size := by
  rintro k ((rfl | rfl | ⟨ad, e, rfl⟩ | ⟨i, hi, q⟩) | ⟨i, hi, q⟩)
  · exact h.blk.lt
  · exact hm.lt
  · exact hp ad e
  · exact (h.lies hi).1 k q
  · exact (h.lies hi).2 k q
theorem qfits_any (E P E2 P2 : Int) (w : World) : Calls Tryz.prog 39 #[.agg #[.int .i64 E, .int .i64 P], .agg #[.int .i64 E2, .int .i64 P2]] w fun e w' => e = .returned (.func (.func 66) #[] #[.pointer (some ⟨w.heap.size, 0, none⟩), .pointer (some ⟨w.heap.size + 1, 0, none⟩)]) ∧ w' = (w.alloc (.cells #[.int .i64 E, .int .i64 P] 46)).alloc (.cells #[.int .i64 E2, .int .i64 P2] 46) := by
  go_enter Tryz.func39, Tryz.ntmps39
  go_wp2
  go_ret
  exact ⟨rfl, rfl⟩
theorem qJoin_nil (id s E P : Int) (w : World) : Calls Tryz.prog 20 #[.pointer none, .int .i64 id, .int .i64 s, .agg #[.int .i64 E, .int .i64 P]] w fun z w' => z = .returned (.int .i64 1) ∧ Below w.heap.size w w' := by
  obtain ⟨W1, hW1⟩ : ∃ W1, (w.alloc (.cells #[.int .i64 id] 3)).alloc (.cells #[.int .i64 E, .int .i64 P] 46) = W1 := ⟨_, rfl⟩
  have B1 := Lib.hid (show Below w.heap.size w W1 by rw [← hW1]; exact wbox2 _ _ _)
  have K := Lib.hid (show Blk W1 46 (w.heap.size + 1) #[.int .i64 E, .int .i64 P] by rw [← hW1]; exact Blk.new2 _ _ _ _)
  have k0 := K.out.cell 0; have k1 := K.out.cell 1
  simp at k0 k1
  rcases may_dec E P with hM | hM
  · have HM := Lib.hid hM
    clear hM
    go_enter Tryz.func20, Tryz.ntmps20
    go_wp2_with fail
    (try rw [hW1])
    refine (wcheck_any E P _ true ⟨fun _ => HM.out, fun _ => rfl⟩).mono ?_
    rintro e w1 ⟨rfl, hb⟩
    have B := Lib.hid (below_next B1.out hb)
    clear hb k0 k1
    go_wp2_with fail
    refine (qhas_nil s _).mono ?_
    rintro e w2 ⟨rfl, rfl⟩
    go_wp2
    go_ret
    exact ⟨rfl, B.out⟩
  · have HM := Lib.hid hM
    clear hM
    go_enter Tryz.func20, Tryz.ntmps20
    go_wp2_with fail
    (try rw [hW1])
    refine (wcheck_any E P _ false ⟨fun h => (by cases h), fun h => absurd h HM.out⟩).mono ?_
    rintro e w1 ⟨rfl, hb⟩
    have B := Lib.hid (below_next B1.out hb)
    clear hb k0 k1
    go_wp2
    go_ret
    exact ⟨rfl, B.out⟩
set_option maxRecDepth 20000 in
set_option maxHeartbeats 4000000 in
theorem qJoin_any (g : Nat) (F A : Nat → Prop) (S : List Sv) (N D : Int) (hs : List Hq) (id s E P : Int) (w : World) (h : HpQ w g F A S N D hs) (hl : hs.length ≤ 19) :
    Calls Tryz.prog 20 #[.pointer (some ⟨g, 0, none⟩), .int .i64 id, .int .i64 s, .agg #[.int .i64 E, .int .i64 P]] w fun z w' => z = .returned (.int .i64 (joinQ S N D hs id s E P).1) ∧ StayQ w g F A S N D (joinQ S N D hs id s E P).2 w' := by
  obtain ⟨W1, hW1⟩ : ∃ W1, (w.alloc (.cells #[.int .i64 id] 3)).alloc (.cells #[.int .i64 E, .int .i64 P] 46) = W1 := ⟨_, rfl⟩
  have B1 := Lib.hid (show Below w.heap.size w W1 by rw [← hW1]; exact wbox2 _ _ _)
  have J := Lib.hid (show Blk W1 3 w.heap.size #[.int .i64 id] by rw [← hW1]; exact (Blk.new _ _ _).alloc _)
  have K := Lib.hid (show Blk W1 46 (w.heap.size + 1) #[.int .i64 E, .int .i64 P] by rw [← hW1]; exact Blk.new2 _ _ _ _)
  have ZW := Lib.hid (show W1.heap.size = w.heap.size + 2 by rw [← hW1]; simp)
  have H := Lib.hid h
  obtain ⟨t, hg, hTT, hMK, hGQ, hF, hA, hpa⟩ := _root_.id h
  subst hg
  have T := Lib.hid hTT
  have M := Lib.hid hMK
  have G := Lib.hid hGQ
  have HL := Lib.hid hl
  have LT := Lib.hid (tree_lt hTT hMK hpa)
  have k0 := K.out.cell 0; have k1 := K.out.cell 1
  simp at k0 k1
  have FF := Lib.hid hF
  have FA := Lib.hid hA
  have FP := Lib.hid hpa
  clear h hTT hMK hGQ hF hA hpa hl
  rcases may_dec E P with hM | hM
  · have HM := Lib.hid hM
    cases hv : hasB S s with
    | false =>
      have HV := Lib.hid hv
      rw [show joinQ S N D hs id s E P = (1, hs) by unfold joinQ; rw [if_pos (.inr hv)]]
      clear hM hv
      go_enter Tryz.func20, Tryz.ntmps20
      go_wp2_with fail
      (try rw [hW1])
      refine (wcheck_any E P _ true ⟨fun _ => HM.out, fun _ => rfl⟩).mono ?_
      rintro e w1 ⟨rfl, hb⟩
      have B := Lib.hid (below_next B1.out hb)
      clear hb k0 k1
      go_wp2_with fail
      refine (qhas_any (T.out.below B.out) s false HV.out).mono ?_
      rintro e w2 ⟨rfl, rfl⟩
      go_wp2
      go_ret
      exact ⟨rfl, H.out.stay B.out⟩
    | true =>
      have HV := Lib.hid hv
      have HB := Lib.hid (has_is.mp hv)
      cases hf : findH (lst hs) id with
      | some j =>
        obtain ⟨q, hj, _⟩ := find_lst hf
        have SQ := Lib.hid (show serverQ hs id = q.srv by unfold serverQ; rw [hf]; simp only [hj])
        have n2 : (q.srv == -2) = false := by have := srv_bd G.out hj; simp; omega
        rw [show joinQ S N D hs id s E P = (14, hs) by unfold joinQ; rw [if_neg (by rw [mayB_yes hM, hv]; simp), hf]]
        clear hM hv hf hj
        go_enter Tryz.func20, Tryz.ntmps20
        go_wp2_with fail
        (try rw [hW1])
        refine (wcheck_any E P _ true ⟨fun _ => HM.out, fun _ => rfl⟩).mono ?_
        rintro e w1 ⟨rfl, hb⟩
        have B := Lib.hid (below_next B1.out hb)
        have J1 := Lib.hid (J.out.below hb)
        have j0 := J1.out.cell 0
        simp at j0
        clear hb k0 k1
        go_wp2_with fail
        refine (qhas_any (T.out.below B.out) s true HV.out).mono ?_
        rintro e w2 ⟨rfl, rfl⟩
        go_wp2_with fail
        refine (qserver_any (T.out.below B.out) (M.out.below B.out) id q.srv SQ.out).mono ?_
        rintro e w3 ⟨rfl, rfl⟩
        go_wp2
        go_ret
        exact ⟨rfl, H.out.stay B.out⟩
      | none =>
        have SQ := Lib.hid (show serverQ hs id = -2 by unfold serverQ; rw [hf])
        have HF := Lib.hid hf
        have EJ := Lib.hid (join_each G.out hM HB.out hf)
        have GJ := Lib.hid (G.out.join id s E P)
        have JV := Lib.hid (show joinQ S N D hs id s E P = if fitsP S N D s (hs ++ [newQ s id E P]) then (0, hs ++ [newQ s id E P]) else (18, hs) by
          unfold joinQ
          rw [if_neg (by rw [mayB_yes hM, hv]; simp), hf])
        obtain ⟨⟨c, hs'⟩, hjq⟩ : ∃ r, joinQ S N D hs id s E P = r := ⟨_, rfl⟩
        rw [hjq] at EJ GJ JV ⊢
        clear hM hv hf hjq
        go_enter Tryz.func20, Tryz.ntmps20
        go_wp2_with fail
        (try rw [hW1])
        refine (wcheck_any E P _ true ⟨fun _ => HM.out, fun _ => rfl⟩).mono ?_
        rintro e w1 ⟨rfl, hb⟩
        have B := Lib.hid (below_next B1.out hb)
        have J1 := Lib.hid (J.out.below hb)
        have K1 := Lib.hid (K.out.below hb)
        have Z1 := Lib.hid (show w.heap.size + 2 ≤ w1.heap.size by have := ZW.out; have := hb.size; omega)
        have j0 := J1.out.cell 0
        have l0 := K1.out.cell 0
        have l1 := K1.out.cell 1
        simp at j0 l0 l1
        clear hb k0 k1
        go_wp2_with fail
        refine (qhas_any (T.out.below B.out) s true HV.out).mono ?_
        rintro e w2 ⟨rfl, rfl⟩
        go_wp2_with fail
        refine (qserver_any (T.out.below B.out) (M.out.below B.out) id (-2) SQ.out).mono ?_
        rintro e w3 ⟨rfl, rfl⟩
        go_wp2_with fail
        refine (qfits_any E P 0 0 w1).mono ?_
        rintro e w4 ⟨rfl, hw4⟩
        have B4 := Lib.hid (show Below w1.heap.size w1 w4 by rw [hw4]; exact wbox2 _ _ _)
        have F4 := Lib.hid (show Blk w4 46 w1.heap.size #[.int .i64 E, .int .i64 P] by rw [hw4]; exact (Blk.new _ _ _).alloc _)
        have I4 := Lib.hid (show Blk w4 46 (w1.heap.size + 1) #[.int .i64 0, .int .i64 0] by rw [hw4]; exact Blk.new2 _ _ _ _)
        have Z4 := Lib.hid (show w4.heap.size = w1.heap.size + 2 by rw [hw4]; simp)
        clear j0 l0 l1 hw4
        obtain ⟨W5, hW5⟩ : ∃ W5, w4.alloc (.cells #[.func (.func 66) #[] #[.pointer (some ⟨w1.heap.size, 0, none⟩), .pointer (some ⟨w1.heap.size + 1, 0, none⟩)], .func (.func 51) #[] #[.pointer (some ⟨w.heap.size, 0, none⟩), .pointer (some ⟨w.heap.size + 1, 0, none⟩)]] 81) = W5 := ⟨_, rfl⟩
        have B5 := Lib.hid (show Below w4.heap.size w4 W5 by rw [← hW5]; exact wbox _ _)
        have A5 := Lib.hid (show Blk W5 81 w4.heap.size #[.func (.func 66) #[] #[.pointer (some ⟨w1.heap.size, 0, none⟩), .pointer (some ⟨w1.heap.size + 1, 0, none⟩)], .func (.func 51) #[] #[.pointer (some ⟨w.heap.size, 0, none⟩), .pointer (some ⟨w.heap.size + 1, 0, none⟩)]] by rw [← hW5]; exact Blk.new _ _ _)
        have Z5 := Lib.hid (show W5.heap.size = w4.heap.size + 1 by rw [← hW5]; simp)
        have BW := Lib.hid (below_next (below_next B.out B4.out) B5.out)
        have NL := Lib.hid (show ∀ k, w.heap.size ≤ k → ¬ ledF t S.length k from fun k q ⟨i, hi, r⟩ => by have := LT.out k (.inl (.inr (.inr (.inr ⟨i, hi, r⟩)))); omega)
        go_wp2_with fail
        (try rw [hW5])
        refine (qeach2_any (op := fitsOp E P 0 0) (op2 := joinOp id E P) (C := fun k => k = w1.heap.size ∨ k = w1.heap.size + 1) (C2 := fun k => k = w.heap.size ∨ k = w.heap.size + 1) (T.out.below BW.out) (fun x => Nat.le_trans (listAt_len S x hs) HL.out) s
          (fun L1 e x => by rw [stage_fit (op := fitsOp E P 0 0) (p := fun n d l => fitsV n d l E P 0 0) (fun _ _ _ => rfl)] at e; rw [← (Prod.mk.inj e).2]; exact Nat.le_trans (listAt_len S x hs) HL.out) HB.out
          (ask_fits (F4.out.below B5.out) (I4.out.below B5.out)) (fun k q => by have := Z1.out; have := Z4.out; have := Z5.out; exact ⟨by omega, NL.out k (by omega)⟩)
          (ask_join ((J1.out.below B4.out).below B5.out) ((K1.out.below B4.out).below B5.out)) (fun k q => by have := Z1.out; have := Z4.out; have := Z5.out; exact ⟨by omega, NL.out k (by omega)⟩)
          (fun k q => by have := LT.out k q; have := BW.out.size; omega) w4.heap.size A5.out (NL.out _ (by have := Z1.out; have := Z4.out; omega)) EJ.out).mono ?_
        rintro e w6 ⟨rfl, hT6, hK6⟩
        have T6 := Lib.hid hT6
        have K6 := Lib.hid hK6
        have M6 := Lib.hid ((M.out.below BW.out).keeps hK6 (fun ⟨i, hi, r⟩ => (T.out.apO i hi _ r).2.1 rfl))
        have J6 := Lib.hid (((J1.out.below B4.out).below B5.out).keeps hK6 (NL.out _ (Nat.le_refl _)))
        have KF := Lib.hid (show Keeps (chgT t S.length) w w6 from (Keeps.of (F := chgT t S.length) BW.out).trans hK6 (fun k q => .inl (.inr q)))
        have P6 := Lib.hid (show ∀ ad : Addr, t.pa = some ad → ad.block < w6.heap.size from fun ad e => by have := FP.out ad e; have := KF.out.size; omega)
        clear hT6 hK6
        have g1 := T6.out.blk.cell 1
        have j0 := J6.out.cell 0
        simp [cellsT] at g1 j0
        by_cases hfit : fitsP S N D s (hs ++ [newQ s id E P]) = true
        · have hj := JV.out
          rw [if_pos hfit] at hj
          cases hj
          obtain ⟨w7, hrun, hM7, hK7, hz7⟩ := putK_new (n := (id, s)) (M6.out.below ((Below.refl w6.heap.size w6).drew)) ((findK_homes hs id).trans HF.out)
          have RUN := hrun
          simp only at RUN
          have M7 := Lib.hid hM7
          have K7 := Lib.hid hK7
          have Z7 := Lib.hid hz7
          clear hrun hM7 hK7 hz7 hfit
          go_upto_region 7 with fail
          go_region
          all_goals
            go_wp2
            go_ret
            refine ⟨rfl, stay_of T.out M.out FF.out ⟨t, rfl, (T6.out.below ((Below.refl w6.heap.size w6).drew)).mapped K7.out, ?_, GJ.out, FF.out, FA.out, fun ad e => by have := P6.out ad e; have := K7.out.size; exact Nat.lt_of_lt_of_le (P6.out ad e) K7.out.size⟩ (KF.out.drew.trans K7.out (fun k q => .inl (.inl q)))⟩
            have := M7.out
            unfold homes at this ⊢
            rw [List.map_append]
            exact this
        · have hj := JV.out
          rw [if_neg hfit] at hj
          cases hj
          clear hfit
          go_wp2
          go_ret
          exact ⟨rfl, stay_of T.out M.out FF.out ⟨t, rfl, T6.out, M6.out, GJ.out, FF.out, FA.out, P6.out⟩ KF.out⟩
  · have HM := Lib.hid hM
    rw [show joinQ S N D hs id s E P = (1, hs) by unfold joinQ; rw [if_pos (.inl (mayB_no hM))]]
    clear hM
    go_enter Tryz.func20, Tryz.ntmps20
    go_wp2_with fail
    (try rw [hW1])
    refine (wcheck_any E P _ false ⟨fun h => (by cases h), fun h => absurd h HM.out⟩).mono ?_
    rintro e w1 ⟨rfl, hb⟩
    have B := Lib.hid (below_next B1.out hb)
    clear hb k0 k1
    go_wp2
    go_ret
    exact ⟨rfl, H.out.stay B.out⟩
end Go.Proofs.YtbonilmlfelmpaaGreat
namespace Go.Proofs.YtbonilmlfelmpaaGreat
open Go.RowKit Go.Shelf

theorem qSettle_nil (id : Int) (w : World) : Calls Tryz.prog 13 #[.pointer none, .int .i64 id] w fun z w' => z = .returned (.int .i64 1) ∧ Below w.heap.size w w' := by
  go_enter Tryz.func13, Tryz.ntmps13
  go_wp2_with fail
  refine (qfind_nil id _).mono ?_
  rintro e w1 ⟨rfl, rfl⟩
  go_wp2
  go_ret
  exact ⟨rfl, wbox _ _⟩
theorem qFree_nil (id : Int) (w : World) : Calls Tryz.prog 15 #[.pointer none, .int .i64 id] w fun z w' => z = .returned (.int .i64 1) ∧ Below w.heap.size w w' := by
  go_enter Tryz.func15, Tryz.ntmps15
  go_wp2_with fail
  refine (qfind_nil id _).mono ?_
  rintro e w1 ⟨rfl, rfl⟩
  go_wp2
  go_ret
  exact ⟨rfl, wbox _ _⟩
set_option maxRecDepth 20000 in
set_option maxHeartbeats 4000000 in
theorem qSettle_any (g : Nat) (F A : Nat → Prop) (S : List Sv) (N D : Int) (hs : List Hq) (id : Int) (w : World) (h : HpQ w g F A S N D hs) (hl : hs.length ≤ 19) :
    Calls Tryz.prog 13 #[.pointer (some ⟨g, 0, none⟩), .int .i64 id] w fun z w' => z = .returned (.int .i64 (settleQ hs id).1) ∧ StayQ w g F A S N D (settleQ hs id).2 w' := by
  obtain ⟨W1, hW1⟩ : ∃ W1, w.alloc (.cells #[.int .i64 id] 3) = W1 := ⟨_, rfl⟩
  have B1 := Lib.hid (show Below w.heap.size w W1 by rw [← hW1]; exact wbox _ _)
  have J := Lib.hid (show Blk W1 3 w.heap.size #[.int .i64 id] by rw [← hW1]; exact Blk.new _ _ _)
  have ZW := Lib.hid (show W1.heap.size = w.heap.size + 1 by rw [← hW1]; simp)
  have H := Lib.hid h
  obtain ⟨t, hg, hTT, hMK, hGQ, hF, hA, hpa⟩ := _root_.id h
  subst hg
  have T := Lib.hid hTT
  have M := Lib.hid hMK
  have G := Lib.hid hGQ
  have HL := Lib.hid hl
  have LT := Lib.hid (tree_lt hTT hMK hpa)
  have j0 := J.out.cell 0
  simp at j0
  have FF := Lib.hid hF
  have FA := Lib.hid hA
  have FP := Lib.hid hpa
  clear h hTT hMK hGQ hF hA hpa hl
  cases hf : findH (lst hs) id with
  | none =>
    have HF := Lib.hid hf
    rw [show settleQ hs id = (12, hs) by unfold settleQ; rw [hf]]
    clear hf
    go_enter Tryz.func13, Tryz.ntmps13
    go_wp2_with fail
    (try rw [hW1])
    refine (qfind_none (T.out.below B1.out) (M.out.below B1.out) id HF.out).mono ?_
    rintro e w1 ⟨rfl, rfl⟩
    go_wp2
    go_ret
    exact ⟨rfl, H.out.stay B1.out⟩
  | some j =>
    obtain ⟨q, hj, _⟩ := find_lst hf
    have HF := Lib.hid hf
    have HJ := Lib.hid hj
    have EJ := Lib.hid (settle_each G.out hf hj)
    have GJ := Lib.hid (G.out.settle id)
    have SB := Lib.hid (srv_bd G.out hj)
    have HM := Lib.hid (show homes (settleQ hs id).2 = homes hs by
      unfold settleQ
      rw [hf]
      simp only [hj]
      split
      · exact homes_set hj rfl (show id = q.h.id by obtain ⟨y, hy, e⟩ := find_lst hf; rw [hj] at hy; cases hy; exact e.symm)
      · rfl)
    obtain ⟨⟨c, hs'⟩, hjq⟩ : ∃ r, settleQ hs id = r := ⟨_, rfl⟩
    rw [hjq] at EJ GJ HM ⊢
    clear hf hj hjq
    go_enter Tryz.func13, Tryz.ntmps13
    go_wp2_with fail
    (try rw [hW1])
    refine (qfind_some (T.out.below B1.out) (M.out.below B1.out) id j q HF.out HJ.out).mono ?_
    rintro e w1 ⟨rfl, rfl⟩
    obtain ⟨W5, hW5⟩ : ∃ W5, W1.alloc (.cells #[.func (.func 44) #[] #[.pointer (some ⟨w.heap.size, 0, none⟩)]] 81) = W5 := ⟨_, rfl⟩
    have B5 := Lib.hid (show Below W1.heap.size W1 W5 by rw [← hW5]; exact wbox _ _)
    have A5 := Lib.hid (show Blk W5 81 W1.heap.size #[.func (.func 44) #[] #[.pointer (some ⟨w.heap.size, 0, none⟩)]] by rw [← hW5]; exact Blk.new _ _ _)
    have Z5 := Lib.hid (show W5.heap.size = W1.heap.size + 1 by rw [← hW5]; simp)
    have BW := Lib.hid (below_next B1.out B5.out)
    have NL := Lib.hid (show ∀ k, w.heap.size ≤ k → ¬ ledF t S.length k from fun k q ⟨i, hi, r⟩ => by have := LT.out k (.inl (.inr (.inr (.inr ⟨i, hi, r⟩)))); omega)
    go_wp2_with fail
    (try rw [hW5])
    refine (qeach1_any (op := settleOp id) (C := fun k => k = w.heap.size) (T.out.below BW.out) (fun x => Nat.le_trans (listAt_len S x hs) HL.out) q.srv SB.out
      (ask_settle (J.out.below B5.out)) (fun k q => by have := ZW.out; have := Z5.out; exact ⟨by omega, NL.out k (by omega)⟩)
      (fun k q => by have := LT.out k q; have := BW.out.size; omega) W1.heap.size A5.out EJ.out).mono ?_
    rintro e w6 ⟨rfl, hT6, hK6⟩
    have T6 := Lib.hid hT6
    have M6 := Lib.hid ((M.out.below BW.out).keeps hK6 (fun ⟨i, hi, r⟩ => (T.out.apO i hi _ r).2.1 rfl))
    have KF := Lib.hid (show Keeps (chgT t S.length) w w6 from (Keeps.of (F := chgT t S.length) BW.out).trans hK6 (fun k q => .inl (.inr q)))
    have P6 := Lib.hid (show ∀ ad : Addr, t.pa = some ad → ad.block < w6.heap.size from fun ad e => by have := FP.out ad e; have := KF.out.size; omega)
    clear hT6 hK6
    go_wp2
    go_ret
    exact ⟨rfl, stay_of T.out M.out FF.out ⟨t, rfl, T6.out, by rw [HM.out]; exact M6.out, GJ.out, FF.out, FA.out, P6.out⟩ KF.out⟩
set_option maxRecDepth 20000 in
set_option maxHeartbeats 4000000 in
theorem qFree_any (g : Nat) (F A : Nat → Prop) (S : List Sv) (N D : Int) (hs : List Hq) (id : Int) (w : World) (h : HpQ w g F A S N D hs) (hl : hs.length ≤ 19) :
    Calls Tryz.prog 15 #[.pointer (some ⟨g, 0, none⟩), .int .i64 id] w fun z w' => z = .returned (.int .i64 (freeQ hs id).1) ∧ StayQ w g F A S N D (freeQ hs id).2 w' := by
  obtain ⟨W1, hW1⟩ : ∃ W1, w.alloc (.cells #[.int .i64 id] 3) = W1 := ⟨_, rfl⟩
  have B1 := Lib.hid (show Below w.heap.size w W1 by rw [← hW1]; exact wbox _ _)
  have J := Lib.hid (show Blk W1 3 w.heap.size #[.int .i64 id] by rw [← hW1]; exact Blk.new _ _ _)
  have ZW := Lib.hid (show W1.heap.size = w.heap.size + 1 by rw [← hW1]; simp)
  have H := Lib.hid h
  obtain ⟨t, hg, hTT, hMK, hGQ, hF, hA, hpa⟩ := _root_.id h
  subst hg
  have T := Lib.hid hTT
  have M := Lib.hid hMK
  have G := Lib.hid hGQ
  have HL := Lib.hid hl
  have LT := Lib.hid (tree_lt hTT hMK hpa)
  have j0 := J.out.cell 0
  simp at j0
  have FF := Lib.hid hF
  have FA := Lib.hid hA
  have FP := Lib.hid hpa
  clear h hTT hMK hGQ hF hA hpa hl
  cases hf : findH (lst hs) id with
  | none =>
    have HF := Lib.hid hf
    rw [show freeQ hs id = (12, hs) by unfold freeQ; rw [hf]]
    clear hf
    go_enter Tryz.func15, Tryz.ntmps15
    go_wp2_with fail
    (try rw [hW1])
    refine (qfind_none (T.out.below B1.out) (M.out.below B1.out) id HF.out).mono ?_
    rintro e w1 ⟨rfl, rfl⟩
    go_wp2
    go_ret
    exact ⟨rfl, H.out.stay B1.out⟩
  | some j =>
    obtain ⟨q, hj, _⟩ := find_lst hf
    have HF := Lib.hid hf
    have HJ := Lib.hid hj
    have EJ := Lib.hid (free_each G.out hf hj)
    have GJ := Lib.hid (G.out.free id)
    have SB := Lib.hid (srv_bd G.out hj)
    have FV := Lib.hid (show freeQ hs id = (0, hs.eraseIdx j) by unfold freeQ; rw [hf])
    rw [FV.out] at EJ GJ ⊢
    clear hf hj
    have NL := Lib.hid (show ∀ k, w.heap.size ≤ k → ¬ ledF t S.length k from fun k q ⟨i, hi, r⟩ => by have := LT.out k (.inl (.inr (.inr (.inr ⟨i, hi, r⟩)))); omega)
    obtain ⟨w2, hrun, hM2, hK2, hz2⟩ := delK (id := id) (j := j) 0 (M.out.below (B1.out.drew)) ((findK_homes hs id).trans HF.out)
    have RUN : ∀ ty, (Builtin.delete_ #[68, 3] ty #[.map (some t.m), .int .i64 id]).run Tryz.prog W1.drew = .ok (.tuple #[]) w2 := fun ty => hrun
    have M2 := Lib.hid hM2
    have K2 := Lib.hid hK2
    have Z2 := Lib.hid hz2
    have T2 := Lib.hid ((T.out.below (B1.out.drew)).mapped hK2)
    have J2 := Lib.hid ((J.out.drew).keeps hK2 (fun e => by have := LT.out t.m (.inl (.inr (.inl rfl))); omega))
    have P2 := Lib.hid (show ∀ k, ownT t S.length k ∨ readT t S.length k → k < w2.heap.size from fun k q => by have := LT.out k q; have := hK2.size; have : W1.drew.heap.size = W1.heap.size := rfl; have := ZW.out; omega)
    have g1 := (T.out.below (B1.out.drew)).blk.cell 1
    simp [cellsT] at g1
    clear hM2 hK2 hz2
    go_enter Tryz.func15, Tryz.ntmps15
    go_wp2_with fail
    (try rw [hW1])
    refine (qfind_some (T.out.below B1.out) (M.out.below B1.out) id j q HF.out HJ.out).mono ?_
    rintro e w1 ⟨rfl, rfl⟩
    go_upto_region 4 with fail
    go_region
    all_goals
      obtain ⟨W5, hW5⟩ : ∃ W5, w2.alloc (.cells #[.func (.func 46) #[] #[.pointer (some ⟨w.heap.size, 0, none⟩)]] 81) = W5 := ⟨_, rfl⟩
      have B5 := Lib.hid (show Below w2.heap.size w2 W5 by rw [← hW5]; exact wbox _ _)
      have A5 := Lib.hid (show Blk W5 81 w2.heap.size #[.func (.func 46) #[] #[.pointer (some ⟨w.heap.size, 0, none⟩)]] by rw [← hW5]; exact Blk.new _ _ _)
      have Z5 := Lib.hid (show W5.heap.size = w2.heap.size + 1 by rw [← hW5]; simp)
      have ZZ := Lib.hid (show w2.heap.size = w.heap.size + 1 by have := Z2.out; have := ZW.out; have : W1.drew.heap.size = W1.heap.size := rfl; omega)
      clear g1 j0
      go_wp2_with fail
      (try rw [hW5])
      refine (qeach1_any (op := freeOp id) (C := fun k => k = w.heap.size) (T2.out.below B5.out) (fun x => Nat.le_trans (listAt_len S x hs) HL.out) q.srv SB.out
        (ask_free (J2.out.below B5.out)) (fun k q => by have := ZZ.out; have := Z5.out; exact ⟨by omega, NL.out k (by omega)⟩)
        (fun k q => by have := P2.out k q; have := B5.out.size; omega) w2.heap.size A5.out EJ.out).mono ?_
      rintro e w6 ⟨rfl, hT6, hK6⟩
      have T6 := Lib.hid hT6
      have M6 := Lib.hid ((M2.out.below B5.out).keeps hK6 (fun ⟨i, hi, r⟩ => (T.out.apO i hi _ r).2.1 rfl))
      have KF := Lib.hid (show Keeps (chgT t S.length) w w6 from (((Keeps.of (F := chgT t S.length) (B1.out.drew)).trans K2.out (fun k e => .inl (.inl e))).next B5.out).trans hK6 (fun k q => .inl (.inr q)))
      have P6 := Lib.hid (show ∀ ad : Addr, t.pa = some ad → ad.block < w6.heap.size from fun ad e => by have := FP.out ad e; have := KF.out.size; omega)
      clear hT6 hK6
      go_wp2
      go_ret
      exact ⟨rfl, stay_of T.out M.out FF.out ⟨t, rfl, T6.out, by rw [homes_erase]; exact M6.out, GJ.out, FF.out, FA.out, P6.out⟩ KF.out⟩
theorem qHeld_none (p : Option Addr) (x : Int) (w : World) (hh : Calls Tryz.prog 48 #[.pointer p, .int .i64 x] (w.alloc (.cells #[.slice none 0 0, .slice none 0 0] 35)) fun e w' => e = .returned (.bool false) ∧ (w.alloc (.cells #[.slice none 0 0, .slice none 0 0] 35)) = w') : Calls Tryz.prog 25 #[.pointer p, .int .i64 x] w (GivesLo w 2 0 1) := by
  have X0 := Lib.hid (Box.new w 35 (.slice none 0 0) (.slice none 0 0))
  have B0 := Lib.hid (wbox w (.cells #[.slice none 0 0, .slice none 0 0] 35))
  have HH := Lib.hid hh
  clear hh
  go_enter Tryz.func25, Tryz.ntmps25
  go_wp2_with fail
  refine HH.out.mono ?_
  rintro e w1 ⟨rfl, rfl⟩
  go_wp2_with fail
  refine (whole_any 0 _ (by omega) (by omega)).mono ?_
  rintro e w2 ⟨_, rfl, hr, hb⟩
  obtain ⟨p1, p2, p3, z1, q1, q2, q3, z2, rfl, _⟩ := _root_.id hr
  have X2 := Lib.hid (X0.out.below hb)
  have B2 := Lib.hid (below_next B0.out hb)
  have R1 := Lib.hid (box_set X2.out hr).2
  have x0 := X2.out.c0; have x1 := X2.out.c1
  have f0 := Blk.free X2.out 0; have f1 := Blk.free X2.out 1
  clear hr hb
  go_wp2
  exact bodyPost_ret (v := .agg #[.slice p1 p2 p3, .slice q1 q2 q3]) (by simp [results, Tryz.results25, go_sem, x0, x1]) rfl (gives_zero ⟨_, rfl, R1.out, (B2.out.setCell (Nat.le_refl _) _).setCell (Nat.le_refl _) _⟩)
theorem qHeld_nil (x : Int) (w : World) : Calls Tryz.prog 25 #[.pointer none, .int .i64 x] w (GivesLo w 2 0 1) := qHeld_none none x w (qhas_nil x _)
theorem qHeld_any (g : Nat) (F A : Nat → Prop) (S : List Sv) (N D : Int) (hs : List Hq) (x : Int) (w : World) (h : HpQ w g F A S N D hs) (hl : hs.length ≤ 20) :
    Calls Tryz.prog 25 #[.pointer (some ⟨g, 0, none⟩), .int .i64 x] w (GivesLo w HL (heldQ S x hs).1 (heldQ S x hs).2) := by
  obtain ⟨t, hg, hTT, hMK, hGQ, hF, hA, hpa⟩ := _root_.id h
  subst hg
  cases hv : hasB S x with
  | false =>
    rw [show heldQ S x hs = (0, 1) by unfold heldQ; rw [hv]; rfl]
    exact (qHeld_none (some ⟨t.g, 0, none⟩) x w (qhas_any (hTT.below (wbox _ _)) x false hv)).mono fun _ _ q => q.more (by unfold HL; omega)
  | true =>
    have HV := Lib.hid hv
    have HB := Lib.hid (has_is.mp hv)
    rw [show heldQ S x hs = sumH (listAt S x hs) by unfold heldQ; rw [hv]; rfl]
    have X0 := Lib.hid (Box.new w 35 (.slice none 0 0) (.slice none 0 0))
    have B0 := Lib.hid (wbox w (.cells #[.slice none 0 0, .slice none 0 0] 35))
    have T := Lib.hid (hTT.below B0.out)
    have L := Lib.hid (Nat.le_trans (listAt_len S x hs) hl)
    obtain ⟨sm, hsm⟩ : ∃ sm, sumH (listAt S x hs) = sm := ⟨_, rfl⟩
    have SM := Lib.hid hsm
    rw [hsm]
    clear h hTT hMK hGQ hF hA hpa hl hv hsm
    go_enter Tryz.func25, Tryz.ntmps25
    go_wp2_with fail
    refine (qhas_any T.out x true HV.out).mono ?_
    rintro e w1 ⟨rfl, rfl⟩
    go_wp2_with fail
    refine (qledger_any T.out HB.out).mono ?_
    rintro e w1 ⟨rfl, rfl⟩
    go_wp2_with fail
    refine (fheld _ _ _ _ _ _ _ (T.out.led x HB.out.1 HB.out.2) L.out).mono ?_
    rintro e w2 ⟨_, n, d, rfl, hr, hlo, he, hb⟩
    change n * (sumH (listAt S x hs)).2 = (sumH (listAt S x hs)).1 * d at he
    rw [SM.out] at he
    obtain ⟨p1, p2, p3, z1, q1, q2, q3, z2, rfl, _⟩ := _root_.id hr
    have X2 := Lib.hid (X0.out.below hb)
    have B2 := Lib.hid (below_next B0.out hb)
    have R1 := Lib.hid (box_set X2.out hr).2
    have LO := Lib.hid hlo
    have EQ := Lib.hid he
    have x0 := X2.out.c0; have x1 := X2.out.c1
    have f0 := Blk.free X2.out 0; have f1 := Blk.free X2.out 1
    clear hr hb hlo he
    go_wp2
    exact bodyPost_ret (v := .agg #[.slice p1 p2 p3, .slice q1 q2 q3]) (by simp [results, Tryz.results25, go_sem, x0, x1]) rfl ⟨_, n, d, rfl, R1.out, LO.out, EQ.out, (B2.out.setCell (Nat.le_refl _) _).setCell (Nat.le_refl _) _⟩
end Go.Proofs.YtbonilmlfelmpaaGreat
