/-
  The walk of HoldPlays, for a package hold that is as P12.1 to P12.3 say. (Written by wip/tools/gen_hb1.py.)
-/
import Derived.Test.YtphlkpkbdnddlaaHb0
import Derived.BigQuiet
namespace Go.Proofs.Ytphlkpkbdnddlaa
open Go.RowKit

/-- what is left, as it is told, of any all -/
theorem left_told {w w' : World} {L : Nat} {N D : Int} {e : Ending} {hs : List Hd} (h : GivesLo w L (N * (sumH hs).2 - (sumH hs).1 * D) (D * (sumH hs).2) e w') (g : GoodL N D hs) (hl : hs.length ≤ 20) (hN : 0 ≤ N ∧ N ≤ 7 ∧ 1 ≤ D ∧ D ≤ 4) :
    ∃ v n d, e = .returned v ∧ Rat w' 0 16 v n d ∧ n * (D * (sumH hs).2) = (N * (sumH hs).2 - (sumH hs).1 * D) * d ∧ Below w.heap.size w w' := by
  obtain ⟨v, n, d, rfl, hr, hlo, he, hb⟩ := h
  obtain ⟨b1, b2, b3, b4⟩ := sumH_bd g.each hl
  have hf := fit_le.mp g.fit
  have k := lo_le hlo (by omega) (Int.mul_pos (by omega) b3) he
  have c1 := Int.mul_le_mul_of_nonneg_right hN.2.1 (show 0 ≤ (sumH hs).2 by omega)
  have c2 := Int.mul_le_mul_of_nonneg_right hN.2.2.2 (show 0 ≤ (sumH hs).2 by omega)
  have c3 : (8 : Int) * 4294967296 ^ 14 < 4294967296 ^ 16 := by decide
  have c4 : 0 ≤ (sumH hs).1 * D := Int.mul_nonneg b1 (by omega)
  exact ⟨v, n, d, rfl, hr.tight (by omega) (by omega), he, hb⟩
theorem Both12.drewN {Hp : World → Nat → (Nat → Prop) → (Nat → Prop) → Int → Int → List Hd → Prop} {w wr : World} {X : Nat → Prop} {g r : Nat} {v : Value} {N D : Int} {hc hr : List Hd} (ok : HoldOk Hp) (h : Both12 Hp w X g r v N D hc hr wr) (n : Nat) : Both12 Hp w X g r v N D hc hr (wr.drewN n) := h.next ok ⟨rfl, rfl, rfl, Nat.le_refl _, fun _ _ => rfl⟩
theorem both_alls {n1 d1 n2 d2 sN sD N D : Int} (hD : 0 < sD) (h2 : 0 < D) (e1 : n1 * sD = sN * d1) (e2 : n2 * (D * sD) = (N * sD - sN * D) * d2) : (n1 * d2 + n2 * d1) * D = N * (d1 * d2) := by
  refine Int.eq_of_mul_eq_mul_right (show sD ≠ 0 by omega) ?_
  refine Int.eq_of_mul_eq_mul_right (show D ≠ 0 by omega) ?_
  grind
section
variable {Hp : World → Nat → (Nat → Prop) → (Nat → Prop) → Int → Int → List Hd → Prop}
set_option maxRecDepth 20000 in
set_option maxHeartbeats 16000000 in
theorem hplays_walk (ok : HoldOk Hp) (qa qb : Int) (ad : Option Addr) (len cap : Nat) (rs : List (List Value)) (w : World) (hL : RowF w ad len cap 6 rs) (hG : ∀ r ∈ rs, Fit [.int .i64, .int .i64, .int .i64, .int .i64, .int .i64, .int .i64] r) : Calls Try.prog 3 #[.agg #[.int .i64 qa, .int .i64 qb], .slice ad len cap] w fun e w' => e = .returned (.bool true) ∧ Below w.heap.size w w' := by
  have OK := Lib.hid ok
  have ZL := Lib.hid (fun (i : Nat) (hi : i < len) => steps_at hL hG hi)
  have ⟨lc1, lc2⟩ := hL.cap_le
  clear ok hL hG
  have n7 := mask7 qa
  obtain ⟨N, hN⟩ : ∃ k, bits .and .i64 qa 7 = k := ⟨_, rfl⟩
  rw [hN] at n7
  have m3 := mask3 qb
  obtain ⟨k3, hk3⟩ : ∃ k, bits .and .i64 qb 3 = k := ⟨_, rfl⟩
  rw [hk3] at m3
  obtain ⟨D, hD⟩ : ∃ k, 1 + k3 = k := ⟨_, rfl⟩
  have dw : IntKind.i64.wrap (1 + k3) = D := by rw [IntWalk.i64_in _ (by omega)]; exact hD
  have nu : IntKind.u64.wrap N = N := IntWalk.u64_in _ (by omega)
  have du : IntKind.u64.wrap D = D := IntWalk.u64_in _ (by omega)
  have NB := Lib.hid (show 0 ≤ N ∧ N ≤ 7 ∧ 1 ≤ D ∧ D ≤ 4 by omega)
  clear n7 m3 hD
  have Q := Lib.hid (Blk.new w 22 #[.int .i64 qa, .int .i64 qb])
  have B0 := Lib.hid (wbox w (.cells #[.int .i64 qa, .int .i64 qb] 22))
  go_enter Try.func3, Try.ntmps3
  go_wp2_with fail
  refine (awake12_any OK.out _).mono ?_
  rintro e w1 ⟨rfl, hb⟩
  have Q := Lib.hid (Q.out.below hb)
  have B1 := Lib.hid (below_next B0.out hb)
  clear hb B0
  have q0 := Q.out.cell 0
  have q1 := Q.out.cell 1
  simp at q0 q1
  go_wp2_with fail
  refine (one_any N D _ (by have := NB.out; omega) (by have := NB.out; omega) (by have := NB.out; omega) (by have := NB.out; omega)).mono ?_
  rintro e w2 ⟨v, rfl, hr, hb⟩
  obtain ⟨aa, la, ca, za, ab, lb, cb, zb, rfl, _⟩ := id hr
  obtain ⟨w3, hw3⟩ : ∃ w3, w2.alloc (.cells #[.slice aa la ca, .slice ab lb cb] 27) = w3 := ⟨_, rfl⟩
  obtain ⟨ga, hga⟩ : ∃ g, w2.heap.size = g := ⟨_, rfl⟩
  have B23 := Lib.hid (show Below w2.heap.size w2 w3 by rw [← hw3]; exact wbox _ _)
  have B3 := Lib.hid (below_next (below_next B1.out hb) B23.out)
  have RA := Lib.hid (hr.below B23.out)
  have KA := Lib.hid (show Blk w3 27 ga #[.slice aa la ca, .slice ab lb cb] by rw [← hw3, ← hga]; exact Blk.new _ _ _)
  clear hb hr B1 B23 q0 q1 Q
  have x0 := KA.out.cell 0
  have x1 := KA.out.cell 1
  simp at x0 x1
  go_wp2_with fail
  (try rw [hw3]); (try rw [hga])
  refine (hnew OK.out _ N D 1 _ w3 RA.out (by omega) (by have := NB.out; omega)).mono ?_
  rintro e w4 ⟨g, rfl, hm⟩
  have M := Lib.hid hm
  clear hm hw3 hga x0 x1 nu du dw
  have KA4 := KA.out.below M.out.below
  have x0 := KA4.cell 0
  have x1 := KA4.cell 1
  simp at x0 x1
  have M := Lib.hid (both_made (an := aa) (ln := la) (cn := ca) (ad := ab) (ld := lb) (cd := cb) OK.out M.out)
  obtain ⟨r, hr0⟩ : ∃ r, w4.heap.size = r := ⟨_, rfl⟩
  rw [hr0] at M
  go_wp2
  (try rw [hr0])
  clear KA4 x0 x1
  go_loopw [9] (fun u wr => ∃ (i : Nat) (hs : List Hd), u = .int .i64 (i : Int) ∧ i ≤ len ∧ i ≤ 50 ∧ IdsIn 16 hs ∧ Both12 Hp w3 G0 g r (.agg #[.slice aa la ca, .slice ab lb cb]) N D hs hs wr) (fun u _ => len - (intOf u).toNat)
  case atStart => exact ⟨0, [], rfl, by omega, by omega, IdsIn.nil 16, M.out⟩
  case round =>
    obtain ⟨i, hs, rfl, il, i50, hids, hm⟩ := hrel
    clear M hr0
    have M := Lib.hid hm
    have IDS := Lib.hid hids
    have HLn := Lib.hid (ids_len 16 hs (hm.good OK.out).uniq hids)
    have G := Lib.hid (hm.good OK.out)
    clear hm hids
    by_cases d1 : i < len ∧ i < 50
    · have b1 : decide (i < len) = true := by simp; omega
      have b2 : decide ((i : Int) < (len : Int)) = true := by simp; omega
      have b3 : decide ((i : Int) < 50) = true := by simp; omega
      have b3n : decide (i < 50) = true := by simp; omega
      obtain ⟨bl, ol, k, id, p, q, u, v, rfl, c0, c1, c2, c3, c4, c5⟩ := ZL.out i d1.1
      have bw := below_next B3.out M.out.below
      replace c0 := cell_on bw c0; replace c1 := cell_on bw c1; replace c2 := cell_on bw c2; replace c3 := cell_on bw c3; replace c4 := cell_on bw c4; replace c5 := cell_on bw c5
      have i1 : (i : Int) < (len : Int) := by omega
      have i2 : 0 ≤ (i : Int) := by omega
      have k7 := mask7 k
      obtain ⟨kk, hkk⟩ : ∃ k', bits .and .i64 k 7 = k' := ⟨_, rfl⟩
      have i15 := mask15 id
      obtain ⟨ii, hii⟩ : ∃ k', bits .and .i64 id 15 = k' := ⟨_, rfl⟩
      rw [hkk] at k7
      rw [hii] at i15
      have IB := Lib.hid (show 0 ≤ ii ∧ ii < 16 by omega)
      obtain ⟨⟨mE, mP⟩, hmk⟩ : ∃ x, mkM (p, q) = x := ⟨_, rfl⟩
      have MK := Lib.hid hmk
      obtain ⟨⟨fE, fP⟩, hmk2⟩ : ∃ x, mkM (u, v) = x := ⟨_, rfl⟩
      have MK2 := Lib.hid hmk2
      have d2 : i < 50 := d1.2
      have d3 : i < len := d1.1
      clear d1 bw k7 i15 hmk hmk2
      have M := Lib.hid (M.out.own1 OK.out (.cells #[.int .i64 k, .int .i64 id, .int .i64 p, .int .i64 q, .int .i64 u, .int .i64 v] 37))
      have Ko := Lib.hid (Blk.new wr 37 #[.int .i64 k, .int .i64 id, .int .i64 p, .int .i64 q, .int .i64 u, .int .i64 v])
      obtain ⟨go, hgo⟩ : ∃ g, wr.heap.size = g := ⟨_, rfl⟩
      rw [hgo] at Ko M
      go_wp2_with fail
      (try rw [hgo])
      refine (made12_any p q _ mE mP MK.out).mono ?_
      rintro e w7 ⟨rfl, hb⟩
      have Ko := Lib.hid (Ko.out.below hb)
      have M := Lib.hid (M.out.next OK.out hb)
      clear hb hgo c0 c1 c2 c3 c4 c5
      have Ko := Lib.hid (Ko.out.alloc (.cells #[.int .i64 mE, .int .i64 mP] 39))
      have M := Lib.hid (M.out.own1 OK.out (.cells #[.int .i64 mE, .int .i64 mP] 39))
      have K12 := Lib.hid (Blk.new w7 39 #[.int .i64 mE, .int .i64 mP])
      obtain ⟨g12, hg12⟩ : ∃ g, w7.heap.size = g := ⟨_, rfl⟩
      rw [hg12] at K12 M
      have o0 := Ko.out.cell 0
      have o1 := Ko.out.cell 1
      have o2 := Ko.out.cell 2
      have o3 := Ko.out.cell 3
      have o4 := Ko.out.cell 4
      have o5 := Ko.out.cell 5
      simp at o0 o1 o2 o3 o4 o5
      go_upto_block 2 with fail
      (try rw [hg12])
      obtain ⟨w8, hw8⟩ : ∃ x, w7.alloc (.cells #[.int .i64 mE, .int .i64 mP] 39) = x := ⟨_, rfl⟩
      rw [hw8] at Ko K12 M o0 o1 o2 o3 o4 o5
      (try rw [hw8])
      clear hw8 hg12
      go_cut [13] (fun s13 wx => ∃ (hs' : List Hd), s13 = .bool true ∧ IdsIn 16 hs' ∧ Both12 Hp w3 G0 g r (.agg #[.slice aa la ca, .slice ab lb cb]) N D hs' hs' wx)
      case first =>
        by_cases h3 : kk = 3
        · subst h3
          as_aux_lemma =>
            go_upto_region 17 with fail
            obtain ⟨⟨c, hs'⟩, hst⟩ : ∃ x, askV N D hs ii mE mP = x := ⟨_, rfl⟩
            have INN := Lib.hid (show IdsIn 16 hs' by have := ask_in (N := N) (D := D) (id := ii) (E := mE) (P := mP) IDS.out; rw [hst] at this; exact this)
            have HST := Lib.hid hst
            clear hst
            have M := Lib.hid (M.out.next OK.out ((Below.refl _ _).drew))
            have K12 := Lib.hid K12.out.drew
            go_region_held3 (fun w' => w'.cell? ⟨g12, 0, none⟩ = some (.int .i64 mE) ∧ w'.cell? ⟨g12, 1, none⟩ = some (.int .i64 mP))
              (exact ⟨K12.out.cell 0, K12.out.cell 1⟩)
              (first
                | (go_at_call 13; (with_reducible refine (p12ask OK.out ii mE mP M.out (by have := HLn.out; omega) c hs' HST.out).mono ?_); rintro e w9 ⟨rfl, hm, hh⟩; have M := Lib.hid hm; have K12 := Lib.hid (hh.blk K12.out (.inr rfl)); clear hm hh)
                | (go_at_call 14; (with_reducible refine (q12ask OK.out ii mE mP M.out (RA.out.below M.out.below) G.out (by have := HLn.out; omega) (by omega) c hs' HST.out).mono ?_); rintro e w10 ⟨rfl, hm, hh⟩; have M := Lib.hid hm; have K12 := Lib.hid (hh.blk K12.out (.inr rfl)); clear hm hh))
            all_goals
              go_wp2_with fail
              go_meet
              exact ⟨hs', rfl, INN.out, M.out.less OK.out (fun _ q => q.elim)⟩
        have h3b : (kk == 3) = false := by simpa using h3
        have h3d : decide (kk = 3) = false := by simpa using h3
        by_cases h4 : kk = 4
        · subst h4
          as_aux_lemma =>
            obtain ⟨⟨c, hs'⟩, hst⟩ : ∃ x, settleV hs ii = x := ⟨_, rfl⟩
            have INN := Lib.hid (show IdsIn 16 hs' by have := settle_in IDS.out IB.out; rw [hst] at this; exact this)
            have HST := Lib.hid hst
            clear hst
            go_wp2_with fail
            refine (p12settle OK.out ii M.out (by have := HLn.out; omega) c hs' HST.out).mono ?_
            rintro e w9 ⟨rfl, hm, _⟩
            have M := Lib.hid hm
            clear hm
            go_wp2_with fail
            refine (q12settle OK.out ii M.out G.out.uniq c hs' HST.out).mono ?_
            rintro e w10 ⟨rfl, hm, _⟩
            have M := Lib.hid hm
            clear hm
            go_wp2_with fail
            go_meet
            exact ⟨hs', rfl, INN.out, M.out.less OK.out (fun _ q => q.elim)⟩
        have h4b : (kk == 4) = false := by simpa using h4
        have h4d : decide (kk = 4) = false := by simpa using h4
        by_cases h5 : kk = 5
        · subst h5
          as_aux_lemma =>
            obtain ⟨⟨c, hs'⟩, hst⟩ : ∃ x, freeV hs ii = x := ⟨_, rfl⟩
            have INN := Lib.hid (show IdsIn 16 hs' by have := free_in (id := ii) IDS.out; rw [hst] at this; exact this)
            have HST := Lib.hid hst
            clear hst
            go_wp2_with fail
            refine (p12free OK.out ii M.out (by have := HLn.out; omega) c hs' HST.out).mono ?_
            rintro e w9 ⟨rfl, hm, _⟩
            have M := Lib.hid hm
            clear hm
            go_wp2_with fail
            refine (q12free OK.out ii M.out G.out.uniq (by have := HLn.out; omega) c hs' HST.out).mono ?_
            rintro e w10 ⟨rfl, hm, _⟩
            have M := Lib.hid hm
            clear hm
            go_wp2_with fail
            go_meet
            exact ⟨hs', rfl, INN.out, M.out.less OK.out (fun _ q => q.elim)⟩
        have h5b : (kk == 5) = false := by simpa using h5
        have h5d : decide (kk = 5) = false := by simpa using h5
        by_cases h6 : kk = 6
        · subst h6
          as_aux_lemma =>
            go_upto_region 23 with fail
            obtain ⟨fb, hfb⟩ : ∃ b, fitsV N D hs mE mP fE fP = b := ⟨_, rfl⟩
            have FB := Lib.hid hfb
            clear hfb
            have KEPT := Lib.hid (show ∀ w' : World, Below w8.heap.size w8 w' → w'.cell? ⟨g12, 0, none⟩ = some (.int .i64 mE) ∧ w'.cell? ⟨g12, 1, none⟩ = some (.int .i64 mP) ∧ w'.cell? ⟨go, 4, none⟩ = some (.int .i64 u) ∧ w'.cell? ⟨go, 5, none⟩ = some (.int .i64 v) from fun w' h => ⟨(K12.out.below h).cell 0, (K12.out.below h).cell 1, (Ko.out.below h).cell 4, (Ko.out.below h).cell 5⟩)
            have BL := Lib.hid (show Below w8.heap.size w8 w8.drew from (Below.refl w8.heap.size w8).drew)
            go_region_held3 (fun w' => w'.cell? ⟨g12, 0, none⟩ = some (.int .i64 mE) ∧ w'.cell? ⟨g12, 1, none⟩ = some (.int .i64 mP) ∧ w'.cell? ⟨go, 4, none⟩ = some (.int .i64 u) ∧ w'.cell? ⟨go, 5, none⟩ = some (.int .i64 v))
              (with_reducible exact KEPT.out _ BL.out)
              (first
                | (go_at_call 12; (with_reducible refine (made12_any u v _ fE fP MK2.out).mono ?_); rintro e w9 ⟨rfl, hb⟩; have BL := Lib.hid (below_next BL.out hb); clear hb)
                | (go_at_call 19; obtain ⟨GX, hmx⟩ := (M.out.next OK.out BL.out).mine; (with_reducible refine (hfits OK.out g hs mE mP fE fP hmx (by have := HLn.out; omega)).mono ?_); rintro e w9 ⟨rfl, hb⟩; rw [FB.out]; have BL := Lib.hid (below_next BL.out hb); clear hb; clear hmx)
                | (go_at_call 20; obtain ⟨RX, hrx⟩ := (M.out.next OK.out BL.out).row; (with_reducible refine (r12_fits r RX _ hs mE mP fE fP N D 1 _ _ hrx (RA.out.below (M.out.next OK.out BL.out).below) G.out (by have := HLn.out; omega) (by omega) fb FB.out).mono ?_); rintro e w9 ⟨rfl, hb⟩; have BL := Lib.hid (below_next BL.out hb); clear hb; clear hrx))
            all_goals
              go_wp2_with fail
              go_meet
              exact ⟨hs, by simp, IDS.out, (M.out.next OK.out BL.out).less OK.out (fun _ q => q.elim)⟩
        have h6b : (kk == 6) = false := by simpa using h6
        have h6d : decide (kk = 6) = false := by simpa using h6
        by_cases h7 : kk = 7
        · subst h7
          as_aux_lemma =>
            obtain ⟨⟨⟨x1, x2⟩, ⟨x3, x4⟩, xb⟩, hof1⟩ : ∃ x, ofH hs ii = x := ⟨_, rfl⟩
            have OF1 := Lib.hid hof1
            clear hof1
            obtain ⟨GX, hmx⟩ := M.out.mine
            have MX := Lib.hid hmx
            clear hmx
            go_wp2_with fail
            refine (hof_at OK.out g hs ii MX.out (by have := HLn.out; omega) x1 x2 x3 x4 xb OF1.out).mono ?_
            rintro e w9 ⟨rfl, hb⟩
            have M := Lib.hid (M.out.next OK.out hb)
            clear hb MX
            obtain ⟨wz, hwz⟩ : ∃ x, ((w9.alloc (.cells #[.int .i64 0, .int .i64 0] 39)).alloc (.cells #[.int .i64 0, .int .i64 0] 39)) = x := ⟨_, rfl⟩
            obtain ⟨g14, hg14⟩ : ∃ g, w9.heap.size = g := ⟨_, rfl⟩
            obtain ⟨g15, hg15⟩ : ∃ g, g14 + 1 = g := ⟨_, rfl⟩
            have KZ1 := Lib.hid (show Blk wz 39 g14 #[.int .i64 0, .int .i64 0] by rw [← hwz, ← hg14]; exact (Blk.new w9 _ _).alloc _)
            have KZ2 := Lib.hid (show Blk wz 39 g15 #[.int .i64 0, .int .i64 0] by rw [← hwz, ← hg15, ← hg14]; exact Blk.new2 w9 _ _ _)
            have BZ := Lib.hid (show Below w9.heap.size w9 wz by rw [← hwz]; exact wbox2 _ _ _)
            have GG := Lib.hid (show w9.heap.size = g14 ∧ g14 + 1 = g15 from ⟨hg14, hg15⟩)
            have ne1 : ¬ g14 = g15 := by omega
            have ne2 : ¬ g15 = g14 := by omega
            have za0 := KZ1.out.cell 0; have za1 := KZ1.out.cell 1; have zb0 := KZ2.out.cell 0; have zb1 := KZ2.out.cell 1
            have fa0 := KZ1.out.free 0; have fa1 := KZ1.out.free 1; have fb0 := KZ2.out.free 0; have fb1 := KZ2.out.free 1
            simp at za0 za1 zb0 zb1
            go_wp2_with fail
            clear za0 za1 zb0 zb1 fa0 fa1 fb0 fb1 ne1 ne2
            obtain ⟨wx, hwx⟩ : ∃ x, (((wz.setCell ⟨g14, 0, none⟩ (.int .i64 x1)).setCell ⟨g14, 1, none⟩ (.int .i64 x2)).setCell ⟨g15, 0, none⟩ (.int .i64 x3)).setCell ⟨g15, 1, none⟩ (.int .i64 x4) = x := ⟨_, rfl⟩
            have hb : Below w9.heap.size w9 wx := by rw [← hwx]; have hz := GG.out; exact (((BZ.out.setCell (show w9.heap.size ≤ g14 by omega) _).setCell (show w9.heap.size ≤ g14 by omega) _).setCell (show w9.heap.size ≤ g15 by omega) _).setCell (show w9.heap.size ≤ g15 by omega) _
            have K14 := Lib.hid (show Blk wx 39 g14 #[.int .i64 x1, .int .i64 x2] by rw [← hwx]; exact two_a KZ1.out KZ2.out (by have hz := GG.out; omega))
            have K15 := Lib.hid (show Blk wx 39 g15 #[.int .i64 x3, .int .i64 x4] by rw [← hwx]; exact two_b KZ1.out KZ2.out (by have hz := GG.out; omega))
            have M := Lib.hid (M.out.own2 OK.out hb (b1 := g14) (b2 := g15) (by have hz := GG.out; omega) K14.out.lt (by have hz := GG.out; omega) K15.out.lt)
            (try rw [hwz]); (try rw [hg14]); (try rw [hg15])
            (try rw [hwx])
            clear hb hwx hwz hg14 hg15 KZ1 KZ2 BZ GG
            obtain ⟨RX, hrx⟩ := M.out.row
            have RR := Lib.hid hrx
            clear hrx
            refine (r12at_any r RX _ hs ii _ RR.out).mono ?_
            rintro e w11 ⟨kp, rfl, hk, hw11⟩
            have HK := Lib.hid hk
            subst hw11
            clear hk
            have RR := Lib.hid (RR.out.below (wbox wx (.cells #[.int .i64 0, .int .i64 0] 39)))
            have K14 := Lib.hid (K14.out.alloc (.cells #[.int .i64 0, .int .i64 0] 39))
            have K15 := Lib.hid (K15.out.alloc (.cells #[.int .i64 0, .int .i64 0] 39))
            have M := Lib.hid (M.out.next OK.out (wbox wx (.cells #[.int .i64 0, .int .i64 0] 39)))
            have K18 := Lib.hid (Blk.new wx 39 #[.int .i64 0, .int .i64 0])
            go_upto_region 28 with fail
            obtain ⟨w12, hw12⟩ : ∃ x, wx.alloc (.cells #[.int .i64 0, .int .i64 0] 39) = x := ⟨_, rfl⟩
            obtain ⟨g18, hg18⟩ : ∃ g, wx.heap.size = g := ⟨_, rfl⟩
            rw [hw12] at RR K14 K15 K18 M
            rw [hg18] at K18
            (try rw [hw12]); (try rw [hg18])
            clear hw12 hg18
            obtain ⟨an, ln, cn, ad2, ld, cd, uu, _, hbl, hq, _, _⟩ := RR.out
            obtain ⟨au, cu, rfl, hrow⟩ := hq.row
            have c2 := hbl.cell 2
            simp at c2
            have a0 := K14.out.cell 0
            have a1 := K14.out.cell 1
            simp at a0 a1
            have b0 := K15.out.cell 0
            have b1 := K15.out.cell 1
            simp at b0 b1
            have e0 := K18.out.cell 0
            have e1 := K18.out.cell 1
            simp at e0 e1
            cases hf : findH hs ii with
            | none =>
              have ho : ofH hs ii = ((0, 0), (0, 0), false) := by unfold ofH; rw [hf]
              rw [OF1.out] at ho
              simp only [Prod.mk.injEq] at ho
              obtain ⟨⟨rfl, rfl⟩, ⟨rfl, rfl⟩, rfl⟩ := ho
              have kneg : kp < 0 := by
                rcases at_neg HK.out with ⟨h, _, _⟩ | ⟨_, j, y, _, hj, hy⟩
                · exact h
                · exact absurd hy (findH_none hf y (List.mem_of_getElem? hj))
              have t1 : decide (0 ≤ kp) = false := decide_eq_false (by omega)
              clear hf hrow hq hbl kneg
              go_quiet (fail)
              go_wp2_with fail
              go_meet
              exact ⟨hs, by simp, IDS.out, (M.out.drewN OK.out _).less OK.out (fun _ q => q.elim)⟩
            | some j =>
              obtain ⟨x, hj, hx⟩ := findH_some hf
              have ho : ofH hs ii = ((x.E, x.P), (x.NE, x.NP), true) := by unfold ofH; rw [hf]; simp only [hj]
              rw [OF1.out] at ho
              simp only [Prod.mk.injEq] at ho
              obtain ⟨⟨rfl, rfl⟩, ⟨rfl, rfl⟩, rfl⟩ := ho
              have kj : kp = (j : Int) := at_of HK.out hj hx (uniq_at G.out.uniq hj hx)
              obtain ⟨bh, oh, rfl, hat⟩ := hrow.at hj
              have y1 := hat.c1
              have y2 := hat.c2
              have y3 := hat.c3
              have y4 := hat.c4
              have jl : j < hs.length := by
                rcases Nat.lt_or_ge j hs.length with q | q
                · exact q
                · rw [List.getElem?_eq_none q] at hj; cases hj
              obtain ⟨n, hn⟩ : ∃ n, hs.length = n := ⟨_, rfl⟩
              rw [hn] at jl c2
              have j1 : (j : Int) < (n : Int) := by omega
              have j2 : 0 ≤ (j : Int) := by omega
              subst kj
              have t1 : decide (0 ≤ (j : Int)) = true := decide_eq_true j2
              clear hf hrow hq hbl hat hj hx
              go_quiet (fail)
              go_wp2_with fail
              go_meet
              exact ⟨hs, by simp, IDS.out, (M.out.drewN OK.out _).less OK.out (fun _ q => q.elim)⟩
        have h7b : (kk == 7) = false := by simpa using h7
        have h7d : decide (kk = 7) = false := by simpa using h7
        · skip
          as_aux_lemma =>
            go_upto_region 15 with fail
            obtain ⟨⟨c, hs'⟩, hst⟩ : ∃ x, joinV N D hs ii mE mP = x := ⟨_, rfl⟩
            have INN := Lib.hid (show IdsIn 16 hs' by have := join_in (N := N) (D := D) (E := mE) (P := mP) IDS.out IB.out; rw [hst] at this; exact this)
            have HST := Lib.hid hst
            clear hst
            have M := Lib.hid (M.out.next OK.out ((Below.refl _ _).drew))
            have K12 := Lib.hid K12.out.drew
            go_region_held3 (fun w' => w'.cell? ⟨g12, 0, none⟩ = some (.int .i64 mE) ∧ w'.cell? ⟨g12, 1, none⟩ = some (.int .i64 mP))
              (exact ⟨K12.out.cell 0, K12.out.cell 1⟩)
              (first
                | (go_at_call 23; (with_reducible refine (p12join OK.out ii mE mP M.out (by have := HLn.out; omega) c hs' HST.out).mono ?_); rintro e w9 ⟨rfl, hm, hh⟩; have M := Lib.hid hm; have K12 := Lib.hid (hh.blk K12.out (.inr rfl)); clear hm hh)
                | (go_at_call 24; (with_reducible refine (q12join OK.out ii mE mP M.out (RA.out.below M.out.below) G.out (by have := HLn.out; omega) (by omega) c hs' HST.out).mono ?_); rintro e w10 ⟨rfl, hm, hh⟩; have M := Lib.hid hm; have K12 := Lib.hid (hh.blk K12.out (.inr rfl)); clear hm hh))
            all_goals
              go_wp2_with fail
              go_meet
              exact ⟨hs', rfl, INN.out, M.out.less OK.out (fun _ q => q.elim)⟩
      case rest =>
        obtain ⟨hs', rfl, hin, hm⟩ := hcut
        have M := Lib.hid hm
        have INN := Lib.hid hin
        have HL2 := Lib.hid (ids_len 16 hs' (hm.good OK.out).uniq hin)
        have G2 := Lib.hid (hm.good OK.out)
        have SP := Lib.hid (sumH_frac (hm.good OK.out).each).2
        clear hm hin o0 o1 o2 o3 o4 o5 Ko K12 G HLn IDS
        as_aux_lemma =>
          obtain ⟨GX, hmx⟩ := M.out.mine
          have MX := Lib.hid hmx
          clear hmx
          go_wp2_with fail
          refine (hheld OK.out g hs' MX.out (by have := HL2.out; omega)).mono ?_
          intro e w13 hq
          obtain ⟨vh, nh, dh, rfl, hr, hlo, he, hb⟩ := held_tight hq G2.out.each (by have := HL2.out; omega)
          have RH := Lib.hid hr
          have EH := Lib.hid he
          have M := Lib.hid (M.out.next OK.out hb)
          clear hq hr hlo he hb MX
          obtain ⟨RX, hrx⟩ := M.out.row
          have RR := Lib.hid hrx
          clear hrx
          go_wp2_with fail
          refine (r12held_any r RX _ hs' _ RR.out G2.out.each (by have := HL2.out; omega)).mono ?_
          rintro e w14 ⟨vr, rfl, hr, hb⟩
          have BD := Lib.hid (sumH_bd G2.out.each (by have := HL2.out; omega))
          have RD := Lib.hid (hr.tight (p := 14) BD.out.2.1 BD.out.2.2.2)
          have RH := Lib.hid (RH.out.below hb)
          have M := Lib.hid (M.out.next OK.out hb)
          clear hr hb RR BD
          go_wp2_with fail
          refine (rcmp_any _ _ nh dh (sumH hs').1 (sumH hs').2 0 _ 14 14 _ RH.out RD.out (by omega)).mono ?_
          rintro e w15 ⟨rfl, hb⟩
          rw [cmp_zero EH.out]
          have M := Lib.hid (M.out.next OK.out hb)
          clear hb RH RD EH
          have KA2 := Lib.hid (KA.out.below M.out.below)
          have RA2 := Lib.hid (RA.out.below M.out.below)
          have KEPT := Lib.hid (show ∀ w' : World, Below w15.heap.size w15 w' → w'.cell? ⟨ga, 0, none⟩ = some (.slice aa la ca) ∧ w'.cell? ⟨ga, 1, none⟩ = some (.slice ab lb cb) from fun w' h => ⟨(KA2.out.below h).cell 0, (KA2.out.below h).cell 1⟩)
          have BL := Lib.hid (show Below w15.heap.size w15 w15.drew from (Below.refl w15.heap.size w15).drew)
          go_upto_region 30 with fail
          go_region_held3 (fun w' => w'.cell? ⟨ga, 0, none⟩ = some (.slice aa la ca) ∧ w'.cell? ⟨ga, 1, none⟩ = some (.slice ab lb cb))
            (with_reducible exact KEPT.out _ BL.out)
            (first
              | (go_at_call 26; obtain ⟨GX, hmx⟩ := (M.out.next OK.out BL.out).mine; (with_reducible refine (hheld OK.out g hs' hmx (by have := HL2.out; omega)).mono ?_); intro e wh hq; obtain ⟨vh, nh, dh, rfl, hr, hlo, he, hb⟩ := held_tight hq G2.out.each (by have := HL2.out; omega); have RH := Lib.hid hr; have EH := Lib.hid he; clear hq hr hlo he hmx; have BL := Lib.hid (below_next BL.out hb); clear hb)
              | (go_at_call 29; obtain ⟨GX, hmx⟩ := (M.out.next OK.out BL.out).mine; (with_reducible refine (hleft OK.out g hs' hmx (by have := HL2.out; omega)).mono ?_); intro e wf hq; obtain ⟨vf, nf, df, rfl, hr, he, hb⟩ := left_told hq G2.out (by have := HL2.out; omega) NB.out; have RF := Lib.hid hr; have RH := Lib.hid (RH.out.below hb); have EF := Lib.hid he; clear hq hr he hmx; have BL := Lib.hid (below_next BL.out hb); clear hb)
              | (go_at_call 28; (with_reducible refine (rplus_any _ _ nh dh nf df 0 0 14 16 _ RH.out RF.out (by omega)).mono ?_); rintro e wp ⟨vp, rfl, hr, hb⟩; have RP := Lib.hid hr; clear hr; have BL := Lib.hid (below_next BL.out hb); clear hb)
              | (go_at_call 25; (with_reducible refine (rcmp_any _ _ (nh * df + nf * dh) (dh * df) N D _ _ 31 1 _ RP.out (RA2.out.below BL.out) (by omega)).mono ?_); rintro e wc2 ⟨rfl, hb⟩; rw [cmp_zero (both_alls SP.out G2.out.d0 EH.out EF.out)]; have BL := Lib.hid (below_next BL.out hb); clear hb))
          all_goals
            have M := Lib.hid (M.out.next OK.out BL.out)
            clear KEPT KA2 RA2
            go_upto_region 31 with fail
            obtain ⟨RX, hrx⟩ := M.out.row
            obtain ⟨an, ln, cn, ad2, ld, cd, uu, _, hbl, hq, _, _⟩ := hrx
            obtain ⟨au, cu, rfl, hrow⟩ := hq.row
            obtain ⟨n, hn⟩ : ∃ n, hs'.length = n := ⟨_, rfl⟩
            rw [hn] at hbl
            have HN := Lib.hid hn
            have KL := Lib.hid hbl
            clear hbl hq hrow hn BL
            have KEPT := Lib.hid (show ∀ w' : World, Below wc2.heap.size wc2 w' → w'.cell? ⟨r, 2, none⟩ = some (.slice au n cu) from fun w' h => (KL.out.below h).cell 2)
            have BL := Lib.hid (show Below wc2.heap.size wc2 wc2.drew from (Below.refl wc2.heap.size wc2).drew)
            go_region_held3 (fun w' => w'.cell? ⟨r, 2, none⟩ = some (.slice au n cu))
              (with_reducible exact KEPT.out _ BL.out)
              (first
                | (go_at_call 30; obtain ⟨GX, hmx⟩ := (M.out.next OK.out BL.out).mine; (with_reducible refine (hlen OK.out g hs' hmx (by have := HL2.out; omega)).mono ?_); rintro e wl ⟨rfl, hb⟩; rw [HN.out]; have BL := Lib.hid (below_next BL.out hb); clear hb; clear hmx))
            all_goals
              go_wp2
              go_roundw
              case rel => exact ⟨i + 1, hs', by go_num, by omega, by omega, INN.out, M.out.next OK.out BL.out⟩
              case measure => simp [intOf]; omega
    · have hend : (decide (i < len) = false ∧ decide ((i : Int) < (len : Int)) = false) ∨ (decide (i < len) = true ∧ decide ((i : Int) < (len : Int)) = true ∧ decide (i < 50) = false ∧ decide ((i : Int) < 50) = false) := by
        rcases Nat.lt_or_ge i len with q | q
        · exact .inr ⟨by simp; omega, by simp; omega, by simp; omega, by simp; omega⟩
        · exact .inl ⟨by simp; omega, by simp; omega⟩
      have BE := Lib.hid (below_next B3.out M.out.below)
      clear d1
      rcases hend with ⟨b1, b2⟩ | ⟨b1, b2, b3, b4⟩
      all_goals
        go_wp2
        go_ret
        exact ⟨rfl, BE.out⟩
end
end Go.Proofs.Ytphlkpkbdnddlaa
