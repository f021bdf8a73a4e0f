/-
  The walk of QuotaPlays. (Written by wip/tools/gen/qe2.py.)
-/
import Derived.Test.YtbonilmlfelmpaaGreatQe1
import Derived.Deep.CutBlock
import Derived.Deep.DeepCutAuto
import Derived.BigQuiet
namespace Go.Proofs.YtbonilmlfelmpaaGreat
open Go.RowKit

theorem cmp_same {a b : Int} (h : a = b) : cmpI a b = 0 := by unfold cmpI; rw [if_neg (by omega), if_neg (by omega)]
set_option maxRecDepth 20000 in
set_option maxHeartbeats 16000000 in
theorem qplays_walk (pa : Option Addr) (pl pc : Nat) (zs : List Int) (qa : Option Addr) (ql qc : Nat) (qs : List (Int × Int)) (a b : Int) (ad : Option Addr) (len cap : Nat) (rs : List (List Value)) (w : World) (hp : Row .i64 w pa pl pc zs) (hq : RowP w qa ql qc qs) (hL : RowF w ad len cap 5 rs) (hG : ∀ r ∈ rs, Fit [.int .i64, .int .i64, .int .i64, .int .i64, .int .i64] r) :
    Calls Tryz.prog 3 #[.agg #[.slice pa pl pc, .slice qa ql qc, .int .i64 a, .int .i64 b], .slice ad len cap] w fun e w' => e = .returned (.bool true) ∧ Below w.heap.size w w' := by
  obtain ⟨W1, hW1⟩ : ∃ W1, w.alloc (.cells #[.slice pa pl pc, .slice qa ql qc, .int .i64 a, .int .i64 b] 26) = W1 := ⟨_, rfl⟩
  have B1 := Lib.hid (show Below w.heap.size w W1 by rw [← hW1]; exact wbox _ _)
  have K := Lib.hid (show Blk W1 26 w.heap.size #[.slice pa pl pc, .slice qa ql qc, .int .i64 a, .int .i64 b] by rw [← hW1]; exact Blk.new _ _ _)
  have P := Lib.hid hp
  have Q := Lib.hid hq
  have ZL := Lib.hid (fun (i : Nat) (hi : i < len) => steps5_at hL hG hi)
  have ⟨lc1, lc2⟩ := hL.cap_le
  clear hp hq hL hG
  obtain ⟨n, hn⟩ : ∃ n, min pl 8 = n := ⟨_, rfl⟩
  have HN := Lib.hid hn
  have N8 := Lib.hid (show n ≤ 8 by omega)
  obtain ⟨S, hS⟩ : ∃ S, servV zs qs n = S := ⟨_, rfl⟩
  have GS := Lib.hid (show GoodSv S by rw [← hS]; exact servV_good zs qs (n := n) (by omega))
  have LS := Lib.hid (show S.length = n by rw [← hS]; exact servV_len zs qs n)
  have HS := Lib.hid hS
  obtain ⟨⟨N, D⟩, hall⟩ : ∃ r, allV a b = r := ⟨_, rfl⟩
  have AB := Lib.hid (allV_bd a b)
  rw [hall] at AB
  have HA := Lib.hid hall
  clear hn hall hS
  go_enter Tryz.func3, Tryz.ntmps3
  go_wp2_with fail
  (try rw [hW1])
  clear hW1
  refine (awake13_any _).mono ?_
  rintro e w2 ⟨rfl, hb⟩
  have B := Lib.hid (below_next B1.out hb)
  have K := Lib.hid (K.out.below hb)
  have k0 := K.out.cell 0
  have k1 := K.out.cell 1
  have k2 := K.out.cell 2
  have k3 := K.out.cell 3
  simp at k0 k1 k2 k3
  clear hb B1
  go_wp2_with fail
  refine (servers_any pa pl pc zs qa ql qc qs a b _ (P.out.below B.out) (Q.out.below B.out) n HN.out).mono ?_
  rintro e w3 ⟨sa, sc, rfl, hs, hf, hb⟩
  rw [HS.out] at hs
  have RS := Lib.hid hs
  have K := Lib.hid (K.out.below hb)
  have B := Lib.hid (below_next B.out hb)
  have ⟨cs1, cs2⟩ := RowF.cap_le hs
  clear hb hs hf k0 k1 k2 k3
  have k0 := K.out.cell 0
  have k1 := K.out.cell 1
  have k2 := K.out.cell 2
  have k3 := K.out.cell 3
  simp at k0 k1 k2 k3
  go_wp2_with fail
  refine (all13_any pa pl pc qa ql qc a b _ N D HA.out).mono ?_
  rintro e w4 ⟨v, rfl, hr, hb⟩
  have V := Lib.hid hr
  have RS := Lib.hid (RS.out.below hb)
  have K := Lib.hid (K.out.below hb)
  have B := Lib.hid (below_next B.out hb)
  clear hb hr k0 k1 k2 k3
  go_wp2_with fail
  refine (m13new (G := G0q) v N D 1 _ sa n sc S w4 w4 (Below.refl _ _) V.out (by omega) (by have := AB.out; omega) RS.out GS.out (fun _ q => q.elim) (fun _ q => q.elim)).mono ?_
  rintro e w5 ⟨g, rfl, hm, hb⟩
  have M := Lib.hid hm
  have K := Lib.hid (K.out.below hb)
  clear hm hb
  have k0 := K.out.cell 0
  have k1 := K.out.cell 1
  have k2 := K.out.cell 2
  have k3 := K.out.cell 3
  simp at k0 k1 k2 k3
  go_wp2_with fail
  refine (all13_any pa pl pc qa ql qc a b _ N D HA.out).mono ?_
  rintro e w6 ⟨v2, rfl, hr, hb⟩
  obtain ⟨an, ln, cn, zn, ab, lb, cb, zb, rfl, _⟩ := _root_.id hr
  have M := Lib.hid (both13_made (sa := sa) (n := n) (sc := sc) M.out hb hr)
  clear hb hr k0 k1 k2 k3 V K
  obtain ⟨b0, hb0⟩ : ∃ b0, w5.heap.size = b0 := ⟨_, rfl⟩
  obtain ⟨r, hr0⟩ : ∃ r, w6.heap.size = r := ⟨_, rfl⟩
  rw [hb0, hr0] at M
  go_wp2
  (try rw [hr0])
  go_loopw [9] (fun u wr => ∃ (i : Nat) (hs : List Hq), u = .int .i64 (i : Int) ∧ i ≤ len ∧ i ≤ 40 ∧ IdsQ 16 hs ∧ Both13 w4 (Rng b0 r) b0 r g r (.agg #[.slice an ln cn, .slice ab lb cb]) (.slice sa n sc) S N D hs hs wr) (fun u _ => len - (intOf u).toNat)
  case atStart => exact ⟨0, [], rfl, by omega, by omega, IdsQ.nil 16, M.out⟩
  case round =>
    obtain ⟨i, hs, rfl, il, i40, hids, hm⟩ := hrel
    clear M hr0 hb0
    have M := Lib.hid hm
    have IDS := Lib.hid hids
    have HLn := Lib.hid (idsq_len 16 hm.good.uniq hids)
    have G := Lib.hid hm.good
    clear hm hids
    by_cases d1 : i < len ∧ i < 40
    · have b1 : decide (i < len) = true := by simp; omega
      have b2 : decide ((i : Int) < (len : Int)) = true := by simp; omega
      have b3 : decide ((i : Int) < 40) = true := by simp; omega
      have b3n : decide (i < 40) = true := by simp; omega
      obtain ⟨bl, ol, k, id, so, p, q, rfl, c0, c1, c2, c3, c4, sw⟩ := ZL.out i d1.1
      have bw := below_next B.out M.out.below
      replace c0 := cell_on bw c0; replace c1 := cell_on bw c1; replace c2 := cell_on bw c2; replace c3 := cell_on bw c3; replace c4 := cell_on bw c4
      have i1 : (i : Int) < (len : Int) := by omega
      have i2 : 0 ≤ (i : Int) := by omega
      have k7 := mask7 k
      obtain ⟨kk, hkk⟩ : ∃ k', bits .and .i64 k 7 = k' := ⟨_, rfl⟩
      have i15 := mask15 id
      obtain ⟨ii, hii⟩ : ∃ k', bits .and .i64 id 15 = k' := ⟨_, rfl⟩
      rw [hkk] at k7
      rw [hii] at i15
      have IB := Lib.hid (show 0 ≤ ii ∧ ii < 16 by omega)
      obtain ⟨⟨mE, mP⟩, hmk⟩ : ∃ x, mkM (p, q) = x := ⟨_, rfl⟩
      have MK := Lib.hid hmk
      have hm1 := Int.tmod_lt_of_pos so (show (0 : Int) < 10 by omega)
      have hm2 : -10 < so.tmod 10 := by
        have := Int.tmod_lt_of_pos (-so) (show (0 : Int) < 10 by omega)
        rw [Int.neg_tmod] at this
        omega
      have wq : IntKind.i64.wrap (so.tmod 10 + 10) = so.tmod 10 + 10 := IntWalk.i64_in _ (by omega)
      obtain ⟨s, hs0⟩ : ∃ s, so.tmod 10 % 10 - 2 = s := ⟨_, rfl⟩
      have wp : IntKind.i64.wrap (so.tmod 10 % 10 - 2) = s := by rw [hs0]; exact IntWalk.i64_in _ (by omega)
      have d2 : i < 40 := d1.2
      have d3 : i < len := d1.1
      clear d1 bw k7 i15 hmk hs0
      have M := Lib.hid (M.out.own1 (.cells #[.int .i64 k, .int .i64 id, .int .i64 so, .int .i64 p, .int .i64 q] 42))
      have Ko := Lib.hid (Blk.new wr 42 #[.int .i64 k, .int .i64 id, .int .i64 so, .int .i64 p, .int .i64 q])
      obtain ⟨go, hgo⟩ : ∃ g, wr.heap.size = g := ⟨_, rfl⟩
      obtain ⟨w7, hw7⟩ : ∃ x, wr.alloc (.cells #[.int .i64 k, .int .i64 id, .int .i64 so, .int .i64 p, .int .i64 q] 42) = x := ⟨_, rfl⟩
      rw [hgo, hw7] at M
      rw [hgo, hw7] at Ko
      have o0 := Ko.out.cell 0
      have o1 := Ko.out.cell 1
      have o2 := Ko.out.cell 2
      have o3 := Ko.out.cell 3
      have o4 := Ko.out.cell 4
      simp at o0 o1 o2 o3 o4
      go_upto_block 2 with fail
      (try rw [hgo])
      (try rw [hw7])
      clear hw7 hgo c0 c1 c2 c3 c4
      go_cut [13] (fun s13 wx => ∃ (hs' : List Hq), s13 = .bool true ∧ IdsQ 16 hs' ∧ Both13 w4 (Rng b0 r) b0 r g r (.agg #[.slice an ln cn, .slice ab lb cb]) (.slice sa n sc) S N D hs' hs' wx)
      case first =>
        by_cases h4 : kk = 4
        · subst h4
          as_aux_lemma =>
            go_upto_region 17 with fail
            obtain ⟨⟨c, hs'⟩, hst⟩ : ∃ x, askQ S N D hs ii mE mP = x := ⟨_, rfl⟩
            have INN := Lib.hid (show IdsQ 16 hs' by have := askq_in (S := S) (N := N) (D := D) (id := ii) (E := mE) (P := mP) IDS.out; rw [hst] at this; exact this)
            have HST := Lib.hid hst
            clear hst
            have M := Lib.hid (M.out.next ((Below.refl _ _).drew))
            have Ko := Lib.hid Ko.out.drew
            have KC := Lib.hid (show ∀ w' : World, Blk w' 42 go #[.int .i64 k, .int .i64 id, .int .i64 so, .int .i64 p, .int .i64 q] → w'.cell? ⟨go, 0, none⟩ = some (.int .i64 k) ∧ w'.cell? ⟨go, 1, none⟩ = some (.int .i64 id) ∧ w'.cell? ⟨go, 2, none⟩ = some (.int .i64 so) ∧ w'.cell? ⟨go, 3, none⟩ = some (.int .i64 p) ∧ w'.cell? ⟨go, 4, none⟩ = some (.int .i64 q) from fun _ h => ⟨h.cell 0, h.cell 1, h.cell 2, h.cell 3, h.cell 4⟩)
            clear o0 o1 o2 o3 o4
            go_region_held3 (fun w' => w'.cell? ⟨go, 0, none⟩ = some (.int .i64 k) ∧ w'.cell? ⟨go, 1, none⟩ = some (.int .i64 id) ∧ w'.cell? ⟨go, 2, none⟩ = some (.int .i64 so) ∧ w'.cell? ⟨go, 3, none⟩ = some (.int .i64 p) ∧ w'.cell? ⟨go, 4, none⟩ = some (.int .i64 q))
              (with_reducible exact KC.out _ Ko.out)
              (first
                | (go_at_call 11; (with_reducible refine (weight13_any k id so p q _ mE mP MK.out).mono ?_); rintro e w9 ⟨rfl, hb⟩; have M := Lib.hid (M.out.next hb); have Ko := Lib.hid (Ko.out.below hb); clear hb)
                | (go_at_call 10; (with_reducible refine (p13ask ii mE mP M.out (by have := HLn.out; omega) c hs' HST.out).mono ?_); rintro e w9 ⟨rfl, hm, hh⟩; have M := Lib.hid hm; have Ko := Lib.hid (hh.blk Ko.out (.inr rfl)); clear hm hh)
                | (go_at_call 12; (with_reducible refine (q13ask ii mE mP M.out (RS.out.below M.out.below) G.out (by have := HLn.out; omega) c hs' HST.out).mono ?_); rintro e w10 ⟨rfl, hm, hh⟩; have M := Lib.hid hm; have Ko := Lib.hid (hh.blk Ko.out (.inr rfl)); clear hm hh))
            all_goals
              go_wp2_with fail
              go_meet
              exact ⟨hs', rfl, INN.out, M.out.less (fun _ q => .inl q) (fun _ q => q)⟩
        have h4b : (kk == 4) = false := by simpa using h4
        have h4d : decide (kk = 4) = false := by simpa using h4
        by_cases h5 : kk = 5
        · subst h5
          as_aux_lemma =>
            obtain ⟨⟨c, hs'⟩, hst⟩ : ∃ x, settleQ hs ii = x := ⟨_, rfl⟩
            have INN := Lib.hid (show IdsQ 16 hs' by have := settleq_in IDS.out IB.out; rw [hst] at this; exact this)
            have HST := Lib.hid hst
            clear hst
            go_wp2_with fail
            refine (p13settle ii M.out (by have := HLn.out; omega) c hs' HST.out).mono ?_
            rintro e w9 ⟨rfl, hm, _⟩
            have M := Lib.hid hm
            clear hm
            go_wp2_with fail
            refine (q13settle ii M.out G.out.uniq c hs' HST.out).mono ?_
            rintro e w10 ⟨rfl, hm, _⟩
            have M := Lib.hid hm
            clear hm
            go_wp2_with fail
            go_meet
            exact ⟨hs', rfl, INN.out, M.out.less (fun _ q => .inl q) (fun _ q => q)⟩
        have h5b : (kk == 5) = false := by simpa using h5
        have h5d : decide (kk = 5) = false := by simpa using h5
        by_cases h6 : kk = 6
        · subst h6
          as_aux_lemma =>
            obtain ⟨⟨c, hs'⟩, hst⟩ : ∃ x, freeQ hs ii = x := ⟨_, rfl⟩
            have INN := Lib.hid (show IdsQ 16 hs' by have := freeq_in (id := ii) IDS.out; rw [hst] at this; exact this)
            have HST := Lib.hid hst
            clear hst
            go_wp2_with fail
            refine (p13free ii M.out (by have := HLn.out; omega) c hs' HST.out).mono ?_
            rintro e w9 ⟨rfl, hm, _⟩
            have M := Lib.hid hm
            clear hm
            go_wp2_with fail
            refine (q13free ii M.out G.out.uniq (by have := HLn.out; omega) c hs' HST.out).mono ?_
            rintro e w10 ⟨rfl, hm, _⟩
            have M := Lib.hid hm
            clear hm
            go_wp2_with fail
            go_meet
            exact ⟨hs', rfl, INN.out, M.out.less (fun _ q => .inl q) (fun _ q => q)⟩
        have h6b : (kk == 6) = false := by simpa using h6
        have h6d : decide (kk = 6) = false := by simpa using h6
        by_cases h7 : kk = 7
        · subst h7
          as_aux_lemma =>
            go_wp2_with fail
            refine (p13path s M.out).mono ?_
            rintro e w9 ⟨a1, l1, cp1, rfl, hr1, hb⟩
            have M := Lib.hid (M.out.next hb)
            have R1 := Lib.hid hr1
            clear hr1 hb
            go_wp2_with fail
            refine (q13path s M.out (RS.out.below M.out.below)).mono ?_
            rintro e w10 ⟨a2, l2, cp2, rfl, hr2, hb⟩
            have M := Lib.hid (M.out.next hb)
            have R1 := Lib.hid (R1.out.below hb)
            obtain rfl : l1 = l2 := by have h1 := R1.out.len; have h2 := hr2.len; omega
            have R2 := Lib.hid hr2
            clear hr2 hb
            go_wp2_with fail
            refine (r7same_yes a1 a2 l1 cp1 cp2 _ _ R1.out R2.out).mono ?_
            rintro e w11 ⟨rfl, hb⟩
            have M := Lib.hid (M.out.next hb)
            clear hb
            go_wp2_with fail
            go_meet
            exact ⟨hs, rfl, IDS.out, M.out.less (fun _ q => .inl q) (fun _ q => q)⟩
        have h7b : (kk == 7) = false := by simpa using h7
        have h7d : decide (kk = 7) = false := by simpa using h7
        · skip
          as_aux_lemma =>
            go_upto_region 15 with fail
            obtain ⟨⟨c, hs'⟩, hst⟩ : ∃ x, joinQ S N D hs ii s mE mP = x := ⟨_, rfl⟩
            have INN := Lib.hid (show IdsQ 16 hs' by have := joinq_in (S := S) (N := N) (D := D) (s := s) (E := mE) (P := mP) IDS.out IB.out; rw [hst] at this; exact this)
            have HST := Lib.hid hst
            clear hst
            have M := Lib.hid (M.out.next ((Below.refl _ _).drew))
            have Ko := Lib.hid Ko.out.drew
            have KC := Lib.hid (show ∀ w' : World, Blk w' 42 go #[.int .i64 k, .int .i64 id, .int .i64 so, .int .i64 p, .int .i64 q] → w'.cell? ⟨go, 0, none⟩ = some (.int .i64 k) ∧ w'.cell? ⟨go, 1, none⟩ = some (.int .i64 id) ∧ w'.cell? ⟨go, 2, none⟩ = some (.int .i64 so) ∧ w'.cell? ⟨go, 3, none⟩ = some (.int .i64 p) ∧ w'.cell? ⟨go, 4, none⟩ = some (.int .i64 q) from fun _ h => ⟨h.cell 0, h.cell 1, h.cell 2, h.cell 3, h.cell 4⟩)
            clear o0 o1 o2 o3 o4
            go_region_held3 (fun w' => w'.cell? ⟨go, 0, none⟩ = some (.int .i64 k) ∧ w'.cell? ⟨go, 1, none⟩ = some (.int .i64 id) ∧ w'.cell? ⟨go, 2, none⟩ = some (.int .i64 so) ∧ w'.cell? ⟨go, 3, none⟩ = some (.int .i64 p) ∧ w'.cell? ⟨go, 4, none⟩ = some (.int .i64 q))
              (with_reducible exact KC.out _ Ko.out)
              (first
                | (go_at_call 11; (with_reducible refine (weight13_any k id so p q _ mE mP MK.out).mono ?_); rintro e w9 ⟨rfl, hb⟩; have M := Lib.hid (M.out.next hb); have Ko := Lib.hid (Ko.out.below hb); clear hb)
                | (go_at_call 20; (with_reducible refine (p13join ii s mE mP M.out (by have := HLn.out; omega) c hs' HST.out).mono ?_); rintro e w9 ⟨rfl, hm, hh⟩; have M := Lib.hid hm; have Ko := Lib.hid (hh.blk Ko.out (.inr rfl)); clear hm hh)
                | (go_at_call 21; (with_reducible refine (q13join ii s mE mP M.out (RS.out.below M.out.below) G.out (by have := HLn.out; omega) c hs' HST.out).mono ?_); rintro e w10 ⟨rfl, hm, hh⟩; have M := Lib.hid hm; have Ko := Lib.hid (hh.blk Ko.out (.inr rfl)); clear hm hh))
            all_goals
              go_wp2_with fail
              go_meet
              exact ⟨hs', rfl, INN.out, M.out.less (fun _ q => .inl q) (fun _ q => q)⟩
      case rest =>
        obtain ⟨hs', rfl, hin, hm⟩ := hcut
        have M := Lib.hid hm
        have INN := Lib.hid hin
        have HL2 := Lib.hid (idsq_len 16 hm.good.uniq hin)
        have G2 := Lib.hid hm.good
        clear hm hin o0 o1 o2 o3 o4 Ko G HLn IDS
        as_aux_lemma =>
          obtain ⟨s', hs'0⟩ : ∃ z, serverQ hs' ii = z := ⟨_, rfl⟩
          have SV := Lib.hid hs'0
          clear hs'0
          go_wp2_with fail
          refine (q13at ii M.out).mono ?_
          rintro e w12 ⟨kp, rfl, hk, hw12⟩
          have HK := Lib.hid hk
          subst hw12
          clear hk
          obtain ⟨RX, hrx⟩ := M.out.row
          obtain ⟨_, _, _, _, _, _, _, _, _, uu, ev, es, hbl, hq, _, _⟩ := hrx
          cases ev
          cases es
          obtain ⟨au, cu, rfl, hrow⟩ := hq.row
          have c3 := hbl.cell 3
          simp at c3
          obtain ⟨m, hm⟩ : ∃ m, hs'.length = m := ⟨_, rfl⟩
          rw [hm] at c3
          cases hf : findH (lst hs') ii with
          | none =>
            have ho : serverQ hs' ii = -2 := by unfold serverQ; rw [hf]
            rw [SV.out] at ho
            subst ho
            have kneg : kp < 0 := by
              rcases atq_neg HK.out with ⟨h, _, _⟩ | ⟨_, j, y, _, hj, hy⟩
              · exact h
              · exact absurd hy (findH_none hf y.h (List.mem_map.mpr ⟨y, List.mem_of_getElem? hj, rfl⟩))
            have t1 : decide (0 ≤ kp) = false := decide_eq_false (by omega)
            clear hf hrow hq hbl kneg c3 hm
            go_wp2_with fail
            refine (p13server ii _ M.out SV.out).mono ?_
            rintro e w16 ⟨rfl, rfl⟩
            go_wp2
            go_loopw [16] (fun u wy => ∃ x : Int, u = .int .i64 x ∧ -2 ≤ x ∧ x ≤ (n : Int) + 1 ∧ Both13 w4 (Rng b0 r) b0 r g r (.agg #[.slice an ln cn, .slice ab lb cb]) (.slice sa n sc) S N D hs' hs' wy) (fun u _ => ((n : Int) + 1 - intOf u).toNat)
            case atStart => exact ⟨-2, rfl, by omega, by omega, M.out⟩
            case round =>
              obtain ⟨x, rfl, x0, x1, hm⟩ := hrel
              clear M
              have M := Lib.hid hm
              clear hm
              by_cases hx : x ≤ (n : Int)
              · have t9 : decide (x ≤ (n : Int)) = true := decide_eq_true hx
                obtain ⟨⟨N', D'⟩, hheld⟩ : ∃ z, heldQ S x hs' = z := ⟨_, rfl⟩
                have HH := Lib.hid hheld
                clear hheld
                go_wp2_with fail
                refine (p13held x M.out (by have := HL2.out; omega) N' D' HH.out).mono ?_
                rintro e w13 ⟨vh, nh, dh, rfl, hr, he, hb⟩
                have M := Lib.hid (M.out.next hb)
                have RH := Lib.hid hr
                have EH := Lib.hid he
                clear hr he hb
                go_wp2_with fail
                refine (q13held x M.out (RS.out.below M.out.below) G2.out (by have := HL2.out; omega) N' D' HH.out).mono ?_
                rintro e w14 ⟨vr, rfl, hr, hb⟩
                have M := Lib.hid (M.out.next hb)
                have RH := Lib.hid (RH.out.below hb)
                have RD := Lib.hid hr
                clear hr hb
                go_wp2_with fail
                refine (rcmp_any _ _ nh dh N' D' 0 0 14 14 _ RH.out RD.out (by omega)).mono ?_
                rintro e w15 ⟨rfl, hb⟩
                rw [cmp_same EH.out]
                have M := Lib.hid (M.out.next hb)
                clear hb RH RD EH
                have wx : IntKind.i64.wrap (x + 1) = x + 1 := IntWalk.i64_in _ (by have := N8.out; omega)
                go_wp2
                go_roundw
                case rel => exact ⟨x + 1, by go_num, by omega, by omega, M.out⟩
                case measure => simp [intOf]; omega
              · have t9 : decide (x ≤ (n : Int)) = false := decide_eq_false hx
                have wi : IntKind.i64.wrap ((i : Int) + 1) = (i : Int) + 1 := IntWalk.i64_in _ (by omega)
                go_wp2
                go_roundw
                case rel => exact ⟨i + 1, hs', by go_num, by omega, by omega, INN.out, M.out⟩
                case measure => simp [intOf]; omega
          | some j =>
            obtain ⟨x, hj, hx⟩ := find_lst hf
            have ho : serverQ hs' ii = x.srv := by unfold serverQ; rw [hf]; simp only [hj]
            rw [SV.out] at ho
            subst ho
            have kj : kp = (j : Int) := atq_of HK.out hj hx (uniq_q G2.out.uniq hj hx)
            obtain ⟨bh, oh, rfl, hat⟩ := hrow.at hj
            have y1 := hat.c1
            have jl : j < m := by
              rw [← hm]
              rcases Nat.lt_or_ge j hs'.length with q | q
              · exact q
              · rw [List.getElem?_eq_none q] at hj; cases hj
            have j1 : (j : Int) < (m : Int) := by omega
            have j2 : 0 ≤ (j : Int) := by omega
            subst kj
            have t1 : decide (0 ≤ (j : Int)) = true := decide_eq_true j2
            clear hf hrow hq hbl hat hj hx hm
            go_wp2_with fail
            refine (p13server ii _ M.out SV.out).mono ?_
            rintro e w16 ⟨rfl, rfl⟩
            clear c3 y1 jl j1 j2
            go_wp2
            go_loopw [16] (fun u wy => ∃ x : Int, u = .int .i64 x ∧ -2 ≤ x ∧ x ≤ (n : Int) + 1 ∧ Both13 w4 (Rng b0 r) b0 r g r (.agg #[.slice an ln cn, .slice ab lb cb]) (.slice sa n sc) S N D hs' hs' wy) (fun u _ => ((n : Int) + 1 - intOf u).toNat)
            case atStart => exact ⟨-2, rfl, by omega, by omega, M.out⟩
            case round =>
              obtain ⟨x, rfl, x0, x1, hm⟩ := hrel
              clear M
              have M := Lib.hid hm
              clear hm
              by_cases hx : x ≤ (n : Int)
              · have t9 : decide (x ≤ (n : Int)) = true := decide_eq_true hx
                obtain ⟨⟨N', D'⟩, hheld⟩ : ∃ z, heldQ S x hs' = z := ⟨_, rfl⟩
                have HH := Lib.hid hheld
                clear hheld
                go_wp2_with fail
                refine (p13held x M.out (by have := HL2.out; omega) N' D' HH.out).mono ?_
                rintro e w13 ⟨vh, nh, dh, rfl, hr, he, hb⟩
                have M := Lib.hid (M.out.next hb)
                have RH := Lib.hid hr
                have EH := Lib.hid he
                clear hr he hb
                go_wp2_with fail
                refine (q13held x M.out (RS.out.below M.out.below) G2.out (by have := HL2.out; omega) N' D' HH.out).mono ?_
                rintro e w14 ⟨vr, rfl, hr, hb⟩
                have M := Lib.hid (M.out.next hb)
                have RH := Lib.hid (RH.out.below hb)
                have RD := Lib.hid hr
                clear hr hb
                go_wp2_with fail
                refine (rcmp_any _ _ nh dh N' D' 0 0 14 14 _ RH.out RD.out (by omega)).mono ?_
                rintro e w15 ⟨rfl, hb⟩
                rw [cmp_same EH.out]
                have M := Lib.hid (M.out.next hb)
                clear hb RH RD EH
                have wx : IntKind.i64.wrap (x + 1) = x + 1 := IntWalk.i64_in _ (by have := N8.out; omega)
                go_wp2
                go_roundw
                case rel => exact ⟨x + 1, by go_num, by omega, by omega, M.out⟩
                case measure => simp [intOf]; omega
              · have t9 : decide (x ≤ (n : Int)) = false := decide_eq_false hx
                have wi : IntKind.i64.wrap ((i : Int) + 1) = (i : Int) + 1 := IntWalk.i64_in _ (by omega)
                go_wp2
                go_roundw
                case rel => exact ⟨i + 1, hs', by go_num, by omega, by omega, INN.out, M.out⟩
                case measure => simp [intOf]; omega
    · have HE := Lib.hid d1
      have BE := Lib.hid (below_next B.out M.out.below)
      clear d1
      go_wp2
      all_goals first | (exfalso; have := HE.out; omega) | skip
      all_goals
        go_ret
        exact ⟨rfl, BE.out⟩
end Go.Proofs.YtbonilmlfelmpaaGreat
