/-
  The walk of HoldLeft, for a package hold that is as P12.1 to P12.3 say. (Written by wip/tools/gen_hl2.py.)
-/
import Derived.Test.YtphlkpkbdnddlaaHl1
namespace Go.Proofs.Ytphlkpkbdnddlaa
open Go.RowKit

section
variable {Hp : World → Nat → (Nat → Prop) → (Nat → Prop) → Int → Int → List Hd → Prop}
set_option maxRecDepth 20000 in
set_option maxHeartbeats 8000000 in
theorem hleft_walk (ok : HoldOk Hp) (mm : Int) (ad : Option Addr) (len cap : Nat) (ps : List (Int × Int)) (qa qb : Int) (w : World) (hL : RowP w ad len cap ps) : Calls Try.prog 8 #[.int .i64 mm, .slice ad len cap, .agg #[.int .i64 qa, .int .i64 qb]] w fun e w' => e = .returned (.bool true) ∧ Below w.heap.size w w' := by
  have OK := Lib.hid ok
  have ZL := Lib.hid hL
  have ⟨lc1, lc2⟩ := hL.cap_le
  clear ok hL
  have m1 := tmod_bd mm 4 (by omega)
  have m2 := rest_bd mm 4 (by omega)
  have mw : IntKind.i64.wrap (mm.tmod 4 + 4) = mm.tmod 4 + 4 := IntWalk.i64_in _ (by omega)
  obtain ⟨mr, hmr⟩ : ∃ k, (mm.tmod 4 + 4).tmod 4 = k := ⟨_, rfl⟩
  rw [hmr] at m2
  obtain ⟨c, hc⟩ : ∃ k, 1 + mr = k := ⟨_, rfl⟩
  have mw2 : IntKind.i64.wrap (1 + mr) = c := by rw [IntWalk.i64_in _ (by omega)]; exact hc
  have CB := Lib.hid (show 1 ≤ c ∧ c ≤ 4 by omega)
  have cu : IntKind.u64.wrap c = c := IntWalk.u64_in _ (by omega)
  clear m1 m2 hc
  have Q := Lib.hid (Blk.new w 22 #[.int .i64 qa, .int .i64 qb])
  have B0 := Lib.hid (wbox w (.cells #[.int .i64 qa, .int .i64 qb] 22))
  go_enter Try.func8, Try.ntmps8
  go_wp2_with fail
  refine (awake12_any OK.out _).mono ?_
  rintro e w1 ⟨rfl, hb⟩
  have Q := Lib.hid (Q.out.below hb)
  have B1 := Lib.hid (below_next B0.out hb)
  clear hb B0
  go_wp2_with fail
  refine (one_any c 1 _ (by have := CB.out; omega) (by have := CB.out; omega) (by omega) (by omega)).mono ?_
  rintro e w2 ⟨v, rfl, hr, hb⟩
  have Q := Lib.hid (Q.out.below hb)
  have B2 := Lib.hid (below_next B1.out hb)
  have R2 := Lib.hid hr
  clear hb hr B1
  go_wp2_with fail
  refine (hnew OK.out v c 1 1 _ _ R2.out (by omega) (by omega)).mono ?_
  rintro e w3 ⟨g, rfl, hm⟩
  have M := Lib.hid hm
  clear hm R2 mw mw2 hmr
  go_wp2
  go_loopw [10] (fun u wr => ∃ (i : Nat) (hs : List Hd), u = .int .i64 (i : Int) ∧ i ≤ len ∧ i ≤ 8 ∧ hs.length ≤ i ∧ (∀ x ∈ hs, x.id < (i : Int)) ∧ Mine12 Hp w2 G0 g c 1 hs wr) (fun u _ => len - (intOf u).toNat)
  case atStart => exact ⟨0, [], rfl, by omega, by omega, by simp, (fun x h => by cases h), M.out⟩
  case round =>
    obtain ⟨i, hs, rfl, il, i8, hl, hids, hm⟩ := hrel
    clear M
    have M := Lib.hid hm
    have HLn := Lib.hid hl
    have IDS := Lib.hid hids
    clear hm hl hids
    by_cases d1 : i < len ∧ i < 8
    · have b1 : decide (i < len) = true := by simp; omega
      have b2 : decide ((i : Int) < (len : Int)) = true := by simp; omega
      have b3 : decide ((i : Int) < 8) = true := by simp; omega
      have b3n : decide (i < 8) = true := by simp; omega
      obtain ⟨bl, ol, rfl, hz0, hz1⟩ := (ZL.out.below (below_next B2.out M.out.below)).cell (i := i) d1.1
      obtain ⟨z0, hzz0⟩ : ∃ z, (ps.getD i (0, 0)).1 = z := ⟨_, rfl⟩
      obtain ⟨z1, hzz1⟩ : ∃ z, (ps.getD i (0, 0)).2 = z := ⟨_, rfl⟩
      rw [hzz0] at hz0
      rw [hzz1] at hz1
      have i1 : (i : Int) < (len : Int) := by omega
      have i2 : 0 ≤ (i : Int) := by omega
      have mk0 := mask_le z1 15 (by omega) (by omega)
      obtain ⟨k0, hk0⟩ : ∃ k, bits .and .i64 z1 15 = k := ⟨_, rfl⟩
      rw [hk0] at mk0
      obtain ⟨P0, hP0⟩ : ∃ k, 1 + k0 = k := ⟨_, rfl⟩
      have pw0 : IntKind.i64.wrap (1 + k0) = P0 := by rw [IntWalk.i64_in _ (by omega)]; exact hP0
      have pz0 : ¬ P0 = 0 := by omega
      have a01 := tmod_bd z0 P0 (by omega)
      have a02 := rest_bd z0 P0 (by omega)
      have zw0 : IntKind.i64.wrap (z0.tmod P0 + P0) = z0.tmod P0 + P0 := IntWalk.i64_in _ (by omega)
      obtain ⟨E0, hE0⟩ : ∃ k, 1 + (z0.tmod P0 + P0).tmod P0 = k := ⟨_, rfl⟩
      have ew0 : IntKind.i64.wrap (1 + (z0.tmod P0 + P0).tmod P0) = E0 := by rw [IntWalk.i64_in _ (by omega)]; exact hE0
      have MAY0 := Lib.hid (show MayBe E0 P0 by unfold MayBe; omega)
      clear mk0 hP0 a01 a02 hE0
      obtain ⟨cj, hj⟩ : ∃ p, joinV c 1 hs i E0 P0 = p := ⟨_, rfl⟩
      obtain ⟨c0, hs0⟩ := cj
      have JV := Lib.hid hj
      have JI := Lib.hid (join_ids (N := c) (D := 1) (E := E0) (P := P0) IDS.out)
      rw [hj] at JI
      have d2 : i < 8 := d1.2
      have d3 : i < len := d1.1
      clear d1 hzz0 hzz1 hj
      go_wp2_with fail
      refine (hjoin OK.out g hs i E0 P0 M.out (by have := HLn.out; omega) _ _ JV.out).mono ?_
      rintro e w4 ⟨rfl, hm, _, _⟩
      have M4 := Lib.hid hm
      clear hm
      go_wp2
      go_roundw
      case rel => exact ⟨i + 1, hs0, by go_num, by omega, by omega, Nat.le_trans JI.out.2 (by have := HLn.out; omega), (fun x hx => by have := JI.out.1 x hx; simpa using this), M4.out⟩
      case measure => simp [intOf]; omega
    · have hend : (decide (i < len) = false ∧ decide ((i : Int) < (len : Int)) = false) ∨ (decide (i < len) = true ∧ decide ((i : Int) < (len : Int)) = true ∧ decide (i < 8) = false ∧ decide ((i : Int) < 8) = false) := by
        rcases Nat.lt_or_ge i len with q | q
        · exact .inr ⟨by simp; omega, by simp; omega, by simp; omega, by simp; omega⟩
        · exact .inl ⟨by simp; omega, by simp; omega⟩
      have G := Lib.hid (M.out.good OK.out)
      have SP := Lib.hid (sumH_frac G.out.each).2
      have NEW := Lib.hid (show ∀ x ∈ hs, x.id ≠ 99 from fun x hx => by have := IDS.out x hx; omega)
      clear d1
      have mk1 := mask_le qb 15 (by omega) (by omega)
      obtain ⟨k1, hk1⟩ : ∃ k, bits .and .i64 qb 15 = k := ⟨_, rfl⟩
      rw [hk1] at mk1
      obtain ⟨P1, hP1⟩ : ∃ k, 1 + k1 = k := ⟨_, rfl⟩
      have pw1 : IntKind.i64.wrap (1 + k1) = P1 := by rw [IntWalk.i64_in _ (by omega)]; exact hP1
      have pz1 : ¬ P1 = 0 := by omega
      have a11 := tmod_bd qa P1 (by omega)
      have a12 := rest_bd qa P1 (by omega)
      have zw1 : IntKind.i64.wrap (qa.tmod P1 + P1) = qa.tmod P1 + P1 := IntWalk.i64_in _ (by omega)
      obtain ⟨E1, hE1⟩ : ∃ k, 1 + (qa.tmod P1 + P1).tmod P1 = k := ⟨_, rfl⟩
      have ew1 : IntKind.i64.wrap (1 + (qa.tmod P1 + P1).tmod P1) = E1 := by rw [IntWalk.i64_in _ (by omega)]; exact hE1
      have MAY1 := Lib.hid (show MayBe E1 P1 by unfold MayBe; omega)
      clear mk1 hP1 a11 a12 hE1
      obtain ⟨fb, hfb⟩ : ∃ fb, decide (((sumH hs).1 * P1 + E1 * (sumH hs).2) * 1 ≤ c * ((sumH hs).2 * P1)) = fb := ⟨_, rfl⟩
      have JN := Lib.hid (join_new MAY1.out NEW.out fb hfb)
      have FB := Lib.hid hfb
      have FV := Lib.hid (show fitsV c 1 hs E1 P1 0 0 = fb from (fitsV_one MAY1.out (fun h => by have := h.1; omega)).trans hfb)
      have PB := Lib.hid (show 0 ≤ E1 ∧ E1 < 4294967296 ∧ 0 ≤ P1 ∧ P1 < 4294967296 by obtain ⟨h1, h2, h3⟩ := MAY1.out; omega)
      clear hfb
      rcases hend with ⟨b1, b2⟩ | ⟨b1, b2, b3, b4⟩
      all_goals
        have q0 := (Q.out.below M.out.below).cell 0
        have q1 := (Q.out.below M.out.below).cell 1
        simp at q0 q1
        go_wp2_with fail
        refine (hheld OK.out g hs M.out (by have := HLn.out; omega)).mono ?_
        intro e w6 hg
        obtain ⟨v6, n6, d6, rfl, hr, hlo, he, hb⟩ := held_tight hg G.out.each (by have := HLn.out; omega)
        obtain ⟨a6, l6, q6, z6, b6, k6, r6, y6, rfl, _⟩ := id hr
        have R6 := Lib.hid (hr.below (wbox _ (.cells #[.slice a6 l6 q6, .slice b6 k6 r6] 27)))
        have E6 := Lib.hid he
        have M := Lib.hid ((M.out.next OK.out hb).own1 OK.out (.cells #[.slice a6 l6 q6, .slice b6 k6 r6] 27))
        have K6 := Lib.hid (Blk.new w6 27 #[.slice a6 l6 q6, .slice b6 k6 r6])
        obtain ⟨g6, hg6⟩ : ∃ g, w6.heap.size = g := ⟨_, rfl⟩
        rw [hg6] at K6 M
        clear hg hr hlo he hb q0 q1 b1 b2
        go_wp2_with fail
        (try rw [hg6])
        refine (hlen OK.out g hs M.out (by have := HLn.out; omega)).mono ?_
        rintro e w7 ⟨rfl, hb⟩
        have M := Lib.hid (M.out.next OK.out hb)
        have K6 := Lib.hid (K6.out.below hb)
        have R6 := Lib.hid (R6.out.below hb)
        clear hb hg6
        have q0 := (Q.out.below M.out.below).cell 0
        have q1 := (Q.out.below M.out.below).cell 1
        simp at q0 q1
        have K6 := Lib.hid (K6.out.alloc (.cells #[.int .i64 E1, .int .i64 P1] 39))
        have R6 := Lib.hid (R6.out.below (wbox _ (.cells #[.int .i64 E1, .int .i64 P1] 39)))
        have M := Lib.hid (M.out.own1 OK.out (.cells #[.int .i64 E1, .int .i64 P1] 39))
        have K8 := Lib.hid (Blk.new w7 39 #[.int .i64 E1, .int .i64 P1])
        obtain ⟨g8, hg8⟩ : ∃ g, w7.heap.size = g := ⟨_, rfl⟩
        rw [hg8] at K8 M
        go_wp2_with fail
        (try rw [hg8])
        refine (hfits OK.out g hs E1 P1 0 0 M.out (by have := HLn.out; omega)).mono ?_
        rintro e w9 ⟨rfl, hb⟩
        rw [FV.out]
        have M := Lib.hid (M.out.next OK.out hb)
        have K6 := Lib.hid (K6.out.below hb)
        have K8 := Lib.hid (K8.out.below hb)
        have R6 := Lib.hid (R6.out.below hb)
        clear hb hg8 q0 q1
        have x0 := K8.out.cell 0
        have x1 := K8.out.cell 1
        simp at x0 x1
        go_wp2_with fail
        refine (rof_any E1 P1 _ PB.out.1 PB.out.2.1 PB.out.2.2.1 PB.out.2.2.2).mono ?_
        rintro e w10 ⟨vy, rfl, hr, hb⟩
        have RY := Lib.hid hr
        have M := Lib.hid (M.out.next OK.out hb)
        have K6 := Lib.hid (K6.out.below hb)
        have K8 := Lib.hid (K8.out.below hb)
        have R6 := Lib.hid (R6.out.below hb)
        clear hb hr x0 x1
        go_wp2_with fail
        refine (hleft OK.out g hs M.out (by have := HLn.out; omega)).mono ?_
        intro e w11 hq
        obtain ⟨vf, nf, df, rfl, hr, _, df0, he, hb⟩ := left_tight hq G.out (by have := HLn.out; omega) (by have := CB.out; omega)
        have ROOM := Lib.hid (show decide (E1 * df ≤ nf * P1) = fb by rw [← FB.out]; exact decide_eq_decide.mpr (room_fits df0 SP.out he))
        have RF := Lib.hid hr
        have RY := Lib.hid (RY.out.below hb)
        have M := Lib.hid (M.out.next OK.out hb)
        have K6 := Lib.hid (K6.out.below hb)
        have K8 := Lib.hid (K8.out.below hb)
        have R6 := Lib.hid (R6.out.below hb)
        clear hb hr hq he df0
        go_wp2_with fail
        refine (rcmp_any _ _ E1 P1 nf df _ 0 1 15 _ RY.out RF.out (by omega)).mono ?_
        rintro e w12 ⟨rfl, hb⟩
        have RM := Lib.hid (show decide (cmpI (E1 * df) (nf * P1) ≤ 0) = fb by rw [cmpI_le]; exact ROOM.out)
        obtain ⟨ck, hck⟩ : ∃ k, cmpI (E1 * df) (nf * P1) = k := ⟨_, rfl⟩
        rw [hck] at RM ⊢
        have M := Lib.hid (M.out.next OK.out hb)
        have K6 := Lib.hid (K6.out.below hb)
        have K8 := Lib.hid (K8.out.below hb)
        have R6 := Lib.hid (R6.out.below hb)
        clear hb hck RY RF ROOM
        have x0 := K8.out.cell 0
        have x1 := K8.out.cell 1
        simp at x0 x1
        have rm := RM.out
        cases fb with
        | true =>
          have BT := Lib.hid (show (if true = true then ((0 : Int), hs ++ [newH 99 E1 P1]) else (18, hs)) = (0, hs ++ [newH 99 E1 P1]) from rfl)
          go_wp2_with fail
          refine (hjoin OK.out g hs 99 E1 P1 M.out (by have := HLn.out; omega) _ _ (JN.out.trans BT.out)).mono ?_
          rintro e w12 ⟨rfl, hm, hh, hn⟩
          have M := Lib.hid hm
          have K6 := Lib.hid (hh.blk K6.out (.inl (.inr rfl)))
          have R6 := Lib.hid (hn _ _ _ _ _ R6.out)
          clear hm hh hn BT x0 x1
          go_wp2_with fail
          refine (hfree OK.out g _ 99 M.out (by have := HLn.out; simp; omega) _ _ (free_snoc NEW.out)).mono ?_
          rintro e w13 ⟨rfl, hm, hh, hn⟩
          have M := Lib.hid hm
          have K6 := Lib.hid (hh.blk K6.out (.inl (.inr rfl)))
          have R6 := Lib.hid (hn _ _ _ _ _ R6.out)
          clear hm hh hn
          have KEPT := Lib.hid (show ∀ w' : World, Below w13.heap.size w13 w' → w'.cell? ⟨g6, 0, none⟩ = some (.slice a6 l6 q6) ∧ w'.cell? ⟨g6, 1, none⟩ = some (.slice b6 k6 r6) from fun w' h => ⟨(K6.out.below h).cell 0, (K6.out.below h).cell 1⟩)
          have BL := Lib.hid (show Below w13.heap.size w13 w13.drew from (Below.refl w13.heap.size w13).drew)
          go_upto_region 22 with fail
          go_region_held3 (fun w' => w'.cell? ⟨g6, 0, none⟩ = some (.slice a6 l6 q6) ∧ w'.cell? ⟨g6, 1, none⟩ = some (.slice b6 k6 r6))
            (with_reducible exact KEPT.out _ BL.out)
            (first
              | (go_at_call 26; (with_reducible refine (hheld OK.out g hs (M.out.next OK.out BL.out) (by have := HLn.out; omega)).mono ?_); intro e wh hq; obtain ⟨vh, nh, dh, rfl, hr, hlo, he, hb⟩ := held_tight hq G.out.each (by have := HLn.out; omega); have RH := Lib.hid hr; have DH := Lib.hid hlo.2.1; have EH := Lib.hid he; clear hq hr hlo he; have BL := Lib.hid (below_next BL.out hb); clear hb)
              | (go_at_call 25; (with_reducible refine (rcmp_any _ _ n6 d6 nh dh 0 0 14 14 _ (R6.out.below BL.out) RH.out (by omega)).mono ?_); rintro e wc1 ⟨rfl, hb⟩; rw [cmp_zero (held_same SP.out E6.out EH.out)]; have BL := Lib.hid (below_next BL.out hb); clear hb)
              | (go_at_call 30; (with_reducible refine (hlen OK.out g hs (M.out.next OK.out BL.out) (by have := HLn.out; omega)).mono ?_); rintro e wl ⟨rfl, hb⟩; have BL := Lib.hid (below_next BL.out hb); clear hb)
              | (go_at_call 29; (with_reducible refine (hleft OK.out g hs (M.out.next OK.out BL.out) (by have := HLn.out; omega)).mono ?_); intro e wf hq; obtain ⟨vf, nf, df, rfl, hr, _, df0, he, hb⟩ := left_tight hq G.out (by have := HLn.out; omega) (by have := CB.out; omega); have RF := Lib.hid hr; have RH := Lib.hid (RH.out.below hb); have EF := Lib.hid he; clear hq hr he; have BL := Lib.hid (below_next BL.out hb); clear hb)
              | (go_at_call 28; (with_reducible refine (rplus_any _ _ nh dh nf df 0 0 14 15 _ RH.out RF.out (by omega)).mono ?_); rintro e wp ⟨vp, rfl, hr, hb⟩; have RP := Lib.hid hr; clear hr; have BL := Lib.hid (below_next BL.out hb); clear hb)
              | (go_at_call 10; (with_reducible refine (one_any c 1 _ (by have := CB.out; omega) (by have := CB.out; omega) (by omega) (by omega)).mono ?_); rintro e wo ⟨vo, rfl, hr, hb⟩; have RO := Lib.hid hr; have RP := Lib.hid (RP.out.below hb); clear hr; have BL := Lib.hid (below_next BL.out hb); clear hb)
              | (go_at_call 25; (with_reducible refine (rcmp_any _ _ (nh * df + nf * dh) (dh * df) c 1 _ _ 30 1 _ RP.out RO.out (by omega)).mono ?_); rintro e wc2 ⟨rfl, hb⟩; rw [cmp_zero (both_all SP.out EH.out EF.out)]; have BL := Lib.hid (below_next BL.out hb); clear hb))
          all_goals
            go_wp2
            go_ret
            exact ⟨rfl, below_next B2.out (below_next M.out.below BL.out)⟩
        | false =>
          have BT := Lib.hid (show (if false = true then ((0 : Int), hs ++ [newH 99 E1 P1]) else (18, hs)) = (18, hs) from rfl)
          go_wp2_with fail
          refine (hjoin OK.out g hs 99 E1 P1 M.out (by have := HLn.out; omega) _ _ (JN.out.trans BT.out)).mono ?_
          rintro e w12 ⟨rfl, hm, hh, hn⟩
          have M := Lib.hid hm
          have K6 := Lib.hid (hh.blk K6.out (.inl (.inr rfl)))
          have R6 := Lib.hid (hn _ _ _ _ _ R6.out)
          clear hm hh hn BT x0 x1
          have KEPT := Lib.hid (show ∀ w' : World, Below w12.heap.size w12 w' → w'.cell? ⟨g6, 0, none⟩ = some (.slice a6 l6 q6) ∧ w'.cell? ⟨g6, 1, none⟩ = some (.slice b6 k6 r6) from fun w' h => ⟨(K6.out.below h).cell 0, (K6.out.below h).cell 1⟩)
          have BL := Lib.hid (show Below w12.heap.size w12 w12.drew from (Below.refl w12.heap.size w12).drew)
          go_upto_region 22 with fail
          go_region_held3 (fun w' => w'.cell? ⟨g6, 0, none⟩ = some (.slice a6 l6 q6) ∧ w'.cell? ⟨g6, 1, none⟩ = some (.slice b6 k6 r6))
            (with_reducible exact KEPT.out _ BL.out)
            (first
              | (go_at_call 26; (with_reducible refine (hheld OK.out g hs (M.out.next OK.out BL.out) (by have := HLn.out; omega)).mono ?_); intro e wh hq; obtain ⟨vh, nh, dh, rfl, hr, hlo, he, hb⟩ := held_tight hq G.out.each (by have := HLn.out; omega); have RH := Lib.hid hr; have DH := Lib.hid hlo.2.1; have EH := Lib.hid he; clear hq hr hlo he; have BL := Lib.hid (below_next BL.out hb); clear hb)
              | (go_at_call 25; (with_reducible refine (rcmp_any _ _ n6 d6 nh dh 0 0 14 14 _ (R6.out.below BL.out) RH.out (by omega)).mono ?_); rintro e wc1 ⟨rfl, hb⟩; rw [cmp_zero (held_same SP.out E6.out EH.out)]; have BL := Lib.hid (below_next BL.out hb); clear hb)
              | (go_at_call 30; (with_reducible refine (hlen OK.out g hs (M.out.next OK.out BL.out) (by have := HLn.out; omega)).mono ?_); rintro e wl ⟨rfl, hb⟩; have BL := Lib.hid (below_next BL.out hb); clear hb)
              | (go_at_call 29; (with_reducible refine (hleft OK.out g hs (M.out.next OK.out BL.out) (by have := HLn.out; omega)).mono ?_); intro e wf hq; obtain ⟨vf, nf, df, rfl, hr, _, df0, he, hb⟩ := left_tight hq G.out (by have := HLn.out; omega) (by have := CB.out; omega); have RF := Lib.hid hr; have RH := Lib.hid (RH.out.below hb); have EF := Lib.hid he; clear hq hr he; have BL := Lib.hid (below_next BL.out hb); clear hb)
              | (go_at_call 28; (with_reducible refine (rplus_any _ _ nh dh nf df 0 0 14 15 _ RH.out RF.out (by omega)).mono ?_); rintro e wp ⟨vp, rfl, hr, hb⟩; have RP := Lib.hid hr; clear hr; have BL := Lib.hid (below_next BL.out hb); clear hb)
              | (go_at_call 10; (with_reducible refine (one_any c 1 _ (by have := CB.out; omega) (by have := CB.out; omega) (by omega) (by omega)).mono ?_); rintro e wo ⟨vo, rfl, hr, hb⟩; have RO := Lib.hid hr; have RP := Lib.hid (RP.out.below hb); clear hr; have BL := Lib.hid (below_next BL.out hb); clear hb)
              | (go_at_call 25; (with_reducible refine (rcmp_any _ _ (nh * df + nf * dh) (dh * df) c 1 _ _ 30 1 _ RP.out RO.out (by omega)).mono ?_); rintro e wc2 ⟨rfl, hb⟩; rw [cmp_zero (both_all SP.out EH.out EF.out)]; have BL := Lib.hid (below_next BL.out hb); clear hb))
          all_goals
            go_wp2
            go_ret
            exact ⟨rfl, below_next B2.out (below_next M.out.below BL.out)⟩
end
end Go.Proofs.Ytphlkpkbdnddlaa
