/-
  The walk of QuotaNever. (Written by wip/tools/gen/qe4.py.)
-/
import Derived.Test.YtbonilmlfelmpaaGreatQe3
import Derived.Deep.CutBlock
import Derived.Deep.DeepCutAuto
import Derived.BigQuiet
namespace Go.Proofs.YtbonilmlfelmpaaGreat
open Go.RowKit

set_option maxRecDepth 20000 in
set_option maxHeartbeats 16000000 in
theorem qnever_walk (pa : Option Addr) (pl pc : Nat) (zs : List Int) (qa : Option Addr) (ql qc : Nat) (qs : List (Int × Int)) (a b : Int) (ad : Option Addr) (len cap : Nat) (rs : List (List Value)) (w : World) (hp : Row .i64 w pa pl pc zs) (hq : RowP w qa ql qc qs) (hL : RowF w ad len cap 5 rs) (hG : ∀ r ∈ rs, Fit [.int .i64, .int .i64, .int .i64, .int .i64, .int .i64] r) :
    Calls Tryz.prog 4 #[.agg #[.slice pa pl pc, .slice qa ql qc, .int .i64 a, .int .i64 b], .slice ad len cap] w fun e w' => e = .returned (.bool true) ∧ Below w.heap.size w w' := by
  obtain ⟨W1, hW1⟩ : ∃ W1, w.alloc (.cells #[.slice pa pl pc, .slice qa ql qc, .int .i64 a, .int .i64 b] 26) = W1 := ⟨_, rfl⟩
  have B1 := Lib.hid (show Below w.heap.size w W1 by rw [← hW1]; exact wbox _ _)
  have K := Lib.hid (show Blk W1 26 w.heap.size #[.slice pa pl pc, .slice qa ql qc, .int .i64 a, .int .i64 b] by rw [← hW1]; exact Blk.new _ _ _)
  have P := Lib.hid hp
  have Q := Lib.hid hq
  have ZL := Lib.hid (fun (i : Nat) (hi : i < len) => steps5_at hL hG hi)
  have ⟨lc1, lc2⟩ := hL.cap_le
  clear hp hq hL hG
  obtain ⟨n, hn⟩ : ∃ n, min pl 8 = n := ⟨_, rfl⟩
  have HN := Lib.hid hn
  have N8 := Lib.hid (show n ≤ 8 by omega)
  obtain ⟨S, hS⟩ : ∃ S, servV zs qs n = S := ⟨_, rfl⟩
  have GS := Lib.hid (show GoodSv S by rw [← hS]; exact servV_good zs qs (n := n) (by omega))
  have LS := Lib.hid (show S.length = n by rw [← hS]; exact servV_len zs qs n)
  have HS := Lib.hid hS
  obtain ⟨⟨N, D⟩, hall⟩ : ∃ r, allV a b = r := ⟨_, rfl⟩
  have AB := Lib.hid (allV_bd a b)
  rw [hall] at AB
  have HA := Lib.hid hall
  clear hn hall hS
  go_enter Tryz.func4, Tryz.ntmps4
  go_wp2_with fail
  (try rw [hW1])
  clear hW1
  refine (awake13_any _).mono ?_
  rintro e w2 ⟨rfl, hb⟩
  have B := Lib.hid (below_next B1.out hb)
  have K := Lib.hid (K.out.below hb)
  have k0 := K.out.cell 0
  have k1 := K.out.cell 1
  have k2 := K.out.cell 2
  have k3 := K.out.cell 3
  simp at k0 k1 k2 k3
  clear hb B1
  go_wp2_with fail
  refine (servers_any pa pl pc zs qa ql qc qs a b _ (P.out.below B.out) (Q.out.below B.out) n HN.out).mono ?_
  rintro e w3 ⟨sa, sc, rfl, hs, hf, hb⟩
  rw [HS.out] at hs
  have RS := Lib.hid hs
  have K := Lib.hid (K.out.below hb)
  have B := Lib.hid (below_next B.out hb)
  have ⟨cs1, cs2⟩ := RowF.cap_le hs
  clear hb hs hf k0 k1 k2 k3
  have k0 := K.out.cell 0
  have k1 := K.out.cell 1
  have k2 := K.out.cell 2
  have k3 := K.out.cell 3
  simp at k0 k1 k2 k3
  go_wp2_with fail
  refine (all13_any pa pl pc qa ql qc a b _ N D HA.out).mono ?_
  rintro e w4 ⟨v, rfl, hr, hb⟩
  have V := Lib.hid hr
  have RS := Lib.hid (RS.out.below hb)
  have K := Lib.hid (K.out.below hb)
  have B := Lib.hid (below_next B.out hb)
  clear hb hr k0 k1 k2 k3
  go_wp2_with fail
  refine (m13new (G := G0q) v N D 1 _ sa n sc S w4 w4 (Below.refl _ _) V.out (by omega) (by have := AB.out; omega) RS.out GS.out (fun _ q => q.elim) (fun _ q => q.elim)).mono ?_
  rintro e w5 ⟨g, rfl, hm, hb⟩
  have M := Lib.hid hm
  clear hm hb
  have H := Lib.hid (show Blk (w5.alloc (.cells #[.slice none 0 0, .slice none 0 0, .slice none 0 0, .slice none 0 0, .slice none 0 0, .slice none 0 0, .slice none 0 0, .slice none 0 0, .slice none 0 0, .slice none 0 0, .slice none 0 0, .slice none 0 0, .slice none 0 0, .slice none 0 0, .slice none 0 0, .slice none 0 0, .slice none 0 0, .slice none 0 0] 58)) 58 w5.heap.size (had18 f0H) from Blk.new _ _ _)
  have M := Lib.hid ((M.out.own1 (.cells #[.slice none 0 0, .slice none 0 0, .slice none 0 0, .slice none 0 0, .slice none 0 0, .slice none 0 0, .slice none 0 0, .slice none 0 0, .slice none 0 0, .slice none 0 0, .slice none 0 0, .slice none 0 0, .slice none 0 0, .slice none 0 0, .slice none 0 0, .slice none 0 0, .slice none 0 0, .slice none 0 0] 58)).less (G' := fun k => k = w5.heap.size) (fun k q => .inr q))
  obtain ⟨bh, hbh⟩ : ∃ z, w5.heap.size = z := ⟨_, rfl⟩
  obtain ⟨w6, hw6⟩ : ∃ z, w5.alloc (.cells #[.slice none 0 0, .slice none 0 0, .slice none 0 0, .slice none 0 0, .slice none 0 0, .slice none 0 0, .slice none 0 0, .slice none 0 0, .slice none 0 0, .slice none 0 0, .slice none 0 0, .slice none 0 0, .slice none 0 0, .slice none 0 0, .slice none 0 0, .slice none 0 0, .slice none 0 0, .slice none 0 0] 58) = z := ⟨_, rfl⟩
  rw [hbh, hw6] at H M
  go_wp2
  (try rw [hbh]); (try rw [hw6])
  clear hbh hw6 V
  go_loopw [9] (fun u wr => ∃ (i : Nat) (hs : List Hq) (f : Nat → Value), u = .int .i64 (i : Int) ∧ i ≤ len ∧ i ≤ 40 ∧ IdsQ 16 hs ∧ Mine13 w4 (fun k => k = bh) g S N D hs wr ∧ Blk wr 58 bh (had18 f) ∧ Slices f) (fun u _ => len - (intOf u).toNat)
  case atStart => exact ⟨0, [], f0H, rfl, by omega, by omega, IdsQ.nil 16, M.out, H.out, slices0⟩
  case round =>
    obtain ⟨i, hs, f1, rfl, il, i40, hids, hm, hh1, hsl⟩ := hrel
    clear M H
    have M := Lib.hid hm
    have H := Lib.hid hh1
    have SL := Lib.hid hsl
    have IDS := Lib.hid hids
    have HLn := Lib.hid (idsq_len 16 hm.good.uniq hids)
    have G := Lib.hid hm.good
    clear hm hids hh1 hsl
    by_cases d1 : i < len ∧ i < 40
    · have b1 : decide (i < len) = true := by simp; omega
      have b2 : decide ((i : Int) < (len : Int)) = true := by simp; omega
      have b3 : decide ((i : Int) < 40) = true := by simp; omega
      have b3n : decide (i < 40) = true := by simp; omega
      obtain ⟨bl, ol, k, id, so, p, q, rfl, c0, c1, c2, c3, c4, sw⟩ := ZL.out i d1.1
      have bw := below_next B.out M.out.below
      replace c0 := cell_on bw c0; replace c1 := cell_on bw c1; replace c2 := cell_on bw c2; replace c3 := cell_on bw c3; replace c4 := cell_on bw c4
      have i1 : (i : Int) < (len : Int) := by omega
      have i2 : 0 ≤ (i : Int) := by omega
      have k7 := mask7 k
      obtain ⟨kk, hkk⟩ : ∃ k', bits .and .i64 k 7 = k' := ⟨_, rfl⟩
      have i15 := mask15 id
      obtain ⟨ii, hii⟩ : ∃ k', bits .and .i64 id 15 = k' := ⟨_, rfl⟩
      rw [hkk] at k7
      rw [hii] at i15
      have IB := Lib.hid (show 0 ≤ ii ∧ ii < 16 by omega)
      obtain ⟨⟨mE, mP⟩, hmk⟩ : ∃ x, mkM (p, q) = x := ⟨_, rfl⟩
      have MK := Lib.hid hmk
      have hm1 := Int.tmod_lt_of_pos so (show (0 : Int) < 10 by omega)
      have hm2 : -10 < so.tmod 10 := by
        have := Int.tmod_lt_of_pos (-so) (show (0 : Int) < 10 by omega)
        rw [Int.neg_tmod] at this
        omega
      have wq : IntKind.i64.wrap (so.tmod 10 + 10) = so.tmod 10 + 10 := IntWalk.i64_in _ (by omega)
      obtain ⟨s, hs0⟩ : ∃ s, so.tmod 10 % 10 - 2 = s := ⟨_, rfl⟩
      have wp : IntKind.i64.wrap (so.tmod 10 % 10 - 2) = s := by rw [hs0]; exact IntWalk.i64_in _ (by omega)
      have WT := Lib.hid (show IntKind.i64.wrap ((so.tmod 10 + 10).tmod 10 - 2) = s by rw [Int.tmod_eq_emod_of_nonneg (show 0 ≤ so.tmod 10 + 10 by omega), Int.add_emod_right]; exact wp)
      have d2 : i < 40 := d1.2
      have d3 : i < len := d1.1
      clear d1 bw k7 i15 hmk hs0
      have M := Lib.hid (M.out.own1 (.cells #[.int .i64 k, .int .i64 id, .int .i64 so, .int .i64 p, .int .i64 q] 42))
      have Ko := Lib.hid (Blk.new wr 42 #[.int .i64 k, .int .i64 id, .int .i64 so, .int .i64 p, .int .i64 q])
      have BG := Lib.hid (show bh < wr.heap.size from H.out.lt)
      have H := Lib.hid (H.out.alloc (.cells #[.int .i64 k, .int .i64 id, .int .i64 so, .int .i64 p, .int .i64 q] 42))
      obtain ⟨go, hgo⟩ : ∃ g, wr.heap.size = g := ⟨_, rfl⟩
      obtain ⟨w7, hw7⟩ : ∃ x, wr.alloc (.cells #[.int .i64 k, .int .i64 id, .int .i64 so, .int .i64 p, .int .i64 q] 42) = x := ⟨_, rfl⟩
      rw [hgo, hw7] at M
      rw [hgo, hw7] at Ko
      rw [hgo] at BG
      rw [hw7] at H
      have o0 := Ko.out.cell 0
      have o1 := Ko.out.cell 1
      have o2 := Ko.out.cell 2
      have o3 := Ko.out.cell 3
      have o4 := Ko.out.cell 4
      simp at o0 o1 o2 o3 o4
      go_wp2
      (try rw [hgo])
      (try rw [hw7])
      clear hw7 hgo c0 c1 c2 c3 c4 o0 o1 o2 o3 o4
      go_loopw [12] (fun u wy => ∃ (c : Int) (f : Nat → Value), u = .int .i64 c ∧ -1 ≤ c ∧ c ≤ (n : Int) ∧ Mine13 w4 (fun k => k = bh ∨ k = go) g S N D hs wy ∧ Blk wy 42 go #[.int .i64 k, .int .i64 id, .int .i64 so, .int .i64 p, .int .i64 q] ∧ Blk wy 58 bh (had18 f) ∧ Slices f ∧ ∀ j : Nat, j < (c + 1).toNat → HadV wy f S hs j) (fun u _ => ((n : Int) - intOf u).toNat)
      case atStart => exact ⟨-1, f1, rfl, by omega, by omega, M.out, Ko.out, H.out, SL.out, fun j hj => by simp at hj⟩
      case round =>
        obtain ⟨c, f, rfl, cl, cn, hm, hk, hh1, hsl, hhv⟩ := hrel
        clear M Ko H SL
        have M := Lib.hid hm
        have Ko := Lib.hid hk
        have H := Lib.hid hh1
        have SL := Lib.hid hsl
        have HV := Lib.hid hhv
        clear hm hk hh1 hsl hhv
        by_cases hcn : c < (n : Int)
        · have t9 : decide (c < (n : Int)) = true := decide_eq_true hcn
          obtain ⟨k0, hk0⟩ : ∃ z : Nat, (c + 1).toNat = z := ⟨_, rfl⟩
          have n8 := N8.out
          have wc : IntKind.i64.wrap (c + 1) = (k0 : Int) := by rw [IntWalk.i64_in _ (by omega)]; omega
          have g1 : (k0 : Int) < 9 := by omega
          have g2 : 0 ≤ (k0 : Int) := by omega
          obtain ⟨⟨N', D'⟩, hheld⟩ : ∃ z, heldQ S c hs = z := ⟨_, rfl⟩
          have HH := Lib.hid hheld
          rw [hk0] at HV
          have CK := Lib.hid (show c = (k0 : Int) - 1 by omega)
          clear hheld n8
          go_wp2_with fail
          refine (m13held c M.out (by have := HLn.out; omega) N' D' HH.out).mono ?_
          rintro e w8 ⟨v8, n8, d8, rfl, hr, hlo, he, hb⟩
          obtain ⟨a1, l1, q1, z1, a2, l2, q2, z2, rfl, _⟩ := _root_.id hr
          have M := Lib.hid (M.out.next hb)
          have Ko := Lib.hid (Ko.out.below hb)
          have H := Lib.hid (H.out.below hb)
          have HV := Lib.hid (show ∀ j : Nat, j < k0 → HadV w8 f S hs j from fun j hj => (HV.out j hj).nums (NumsKept.below hb))
          have R8 := Lib.hid hr
          have E8 := Lib.hid he
          have ST := Lib.hid (had_store H.out SL.out (show k0 < 9 by omega) (.slice a1 l1 q1) (.slice a2 l2 q2))
          have o0 := H.out.cell (k0 * 2)
          have o1 := H.out.cell (k0 * 2 + 1)
          rw [had_at f (by omega)] at o0 o1
          have x0 := H.out.free (k0 * 2)
          have x1 := H.out.free (k0 * 2 + 1)
          have HV2 := Lib.hid (HadV.put HV.out ST.out.2.1 R8.out (by rw [← CK.out]; exact HH.out) E8.out)
          have M2 := Lib.hid (M.out.wrote (G' := fun k => k = bh ∨ k = go) (ST.out.2.2.more (fun k q => .inl q)) (fun k q => .inl q) (fun k q => Nat.lt_of_lt_of_le (M.out.lies k q) ST.out.2.2.size))
          have Ko2 := Lib.hid (Ko.out.keeps ST.out.2.2 (fun e => by have := BG.out; omega))
          have wc2 : IntKind.i64.wrap (c + 1) = c + 1 := IntWalk.i64_in _ (by omega)
          have CK2 := Lib.hid (show (c + 1 + 1).toNat = k0 + 1 by omega)
          have SL2 := Lib.hid (SL.out.put k0 (a := a1) (l := l1) (c := q1) (b := a2) (m := l2) (d := q2))
          clear hr hlo he hb hk0
          go_wp2
          go_roundw
          case rel => exact ⟨c + 1, _, by rw [← wc2]; first | rfl | (rw [wc]), by omega, by omega, M2.out, Ko2.out, ST.out.1, SL2.out, by rw [CK2.out]; exact HV2.out⟩
          case measure => simp [intOf]; omega
        · have t9 : decide (c < (n : Int)) = false := decide_eq_false hcn
          have HV := Lib.hid (show ∀ j : Nat, j < n + 1 → HadV _ f S hs j from fun j hj => HV.out j (by omega))
          clear hcn cl cn
          obtain ⟨at0, hat⟩ : ∃ z, serverQ hs ii = z := ⟨_, rfl⟩
          have AT := Lib.hid hat
          clear hat
          go_wp2_with fail
          refine (m13server ii M.out at0 AT.out).mono ?_
          rintro e w9 ⟨rfl, rfl⟩
          have o0 := Ko.out.cell 0
          have o1 := Ko.out.cell 1
          have o2 := Ko.out.cell 2
          have o3 := Ko.out.cell 3
          have o4 := Ko.out.cell 4
          simp at o0 o1 o2 o3 o4
          go_upto_block 4 with fail
          go_cut [14] (fun s14 wx => ∃ (c : Int) (hs' : List Hq), s14 = .int .i64 c ∧ (c = 0 ∨ hs' = hs) ∧ IdsQ 16 hs' ∧ Mine13 w4 (fun k => k = bh) g S N D hs' wx ∧ Blk wx 58 bh (had18 f) ∧ ∀ j : Nat, j < n + 1 → HadV wx f S hs j)
          case first =>
            by_cases h4 : kk = 4
            · subst h4
              as_aux_lemma =>
                go_wp2_with fail
                refine (weight13_any k id so p q _ mE mP MK.out).mono ?_
                rintro e wa ⟨rfl, hb⟩
                have M := Lib.hid (M.out.next hb)
                have H := Lib.hid (H.out.below hb)
                have HV := Lib.hid (show ∀ j : Nat, j < n + 1 → HadV _ f S hs j from fun j hj => (HV.out j hj).nums (NumsKept.below hb))
                clear hb
                obtain ⟨⟨c', hs'⟩, hst⟩ : ∃ x, askQ S N D hs ii mE mP = x := ⟨_, rfl⟩
                have INN := Lib.hid (show IdsQ 16 hs' by have := askq_in (S := S) (N := N) (D := D) (id := ii) (E := mE) (P := mP) IDS.out; rw [hst] at this; exact this)
                have REF := Lib.hid (show c' = 0 ∨ hs' = hs by have := askq_refused S N D hs ii mE mP; rw [hst] at this; exact this)
                have HST := Lib.hid hst
                clear hst
                go_wp2_with fail
                refine (m13ask ii mE mP M.out (by have := HLn.out; omega) c' hs' HST.out).mono ?_
                rintro e wb ⟨rfl, hm, hh, hn⟩
                have M := Lib.hid hm
                have H := Lib.hid (hh.blk H.out (.inl rfl))
                have HV := Lib.hid (show ∀ j : Nat, j < n + 1 → HadV _ f S hs j from fun j hj => (HV.out j hj).nums hn)
                clear hm hh hn
                go_wp2_with fail
                go_meet
                exact ⟨c', hs', rfl, REF.out, INN.out, M.out.less (fun _ q => .inl q), H.out, HV.out⟩
            have h4b : (kk == 4) = false := by simpa using h4
            have h4d : decide (kk = 4) = false := by simpa using h4
            by_cases h5 : kk = 5
            · subst h5
              as_aux_lemma =>
                obtain ⟨⟨c', hs'⟩, hst⟩ : ∃ x, settleQ hs ii = x := ⟨_, rfl⟩
                have INN := Lib.hid (show IdsQ 16 hs' by have := settleq_in IDS.out IB.out; rw [hst] at this; exact this)
                have REF := Lib.hid (show c' = 0 ∨ hs' = hs by have := settleq_refused hs ii; rw [hst] at this; exact this)
                have HST := Lib.hid hst
                clear hst
                go_wp2_with fail
                refine (m13settle ii M.out (by have := HLn.out; omega) c' hs' HST.out).mono ?_
                rintro e wb ⟨rfl, hm, hh, hn⟩
                have M := Lib.hid hm
                have H := Lib.hid (hh.blk H.out (.inl rfl))
                have HV := Lib.hid (show ∀ j : Nat, j < n + 1 → HadV _ f S hs j from fun j hj => (HV.out j hj).nums hn)
                clear hm hh hn
                go_wp2_with fail
                go_meet
                exact ⟨c', hs', rfl, REF.out, INN.out, M.out.less (fun _ q => .inl q), H.out, HV.out⟩
            have h5b : (kk == 5) = false := by simpa using h5
            have h5d : decide (kk = 5) = false := by simpa using h5
            by_cases h6 : kk = 6
            · subst h6
              as_aux_lemma =>
                obtain ⟨⟨c', hs'⟩, hst⟩ : ∃ x, freeQ hs ii = x := ⟨_, rfl⟩
                have INN := Lib.hid (show IdsQ 16 hs' by have := freeq_in (id := ii) IDS.out; rw [hst] at this; exact this)
                have REF := Lib.hid (show c' = 0 ∨ hs' = hs by have := freeq_refused hs ii; rw [hst] at this; exact this)
                have HST := Lib.hid hst
                clear hst
                go_wp2_with fail
                refine (m13free ii M.out (by have := HLn.out; omega) c' hs' HST.out).mono ?_
                rintro e wb ⟨rfl, hm, hh, hn⟩
                have M := Lib.hid hm
                have H := Lib.hid (hh.blk H.out (.inl rfl))
                have HV := Lib.hid (show ∀ j : Nat, j < n + 1 → HadV _ f S hs j from fun j hj => (HV.out j hj).nums hn)
                clear hm hh hn
                go_wp2_with fail
                go_meet
                exact ⟨c', hs', rfl, REF.out, INN.out, M.out.less (fun _ q => .inl q), H.out, HV.out⟩
            have h6b : (kk == 6) = false := by simpa using h6
            have h6d : decide (kk = 6) = false := by simpa using h6
            · skip
              as_aux_lemma =>
                go_upto_region 19 with fail
                obtain ⟨⟨c', hs'⟩, hst⟩ : ∃ x, joinQ S N D hs ii s mE mP = x := ⟨_, rfl⟩
                have INN := Lib.hid (show IdsQ 16 hs' by have := joinq_in (S := S) (N := N) (D := D) (s := s) (E := mE) (P := mP) IDS.out IB.out; rw [hst] at this; exact this)
                have REF := Lib.hid (show c' = 0 ∨ hs' = hs by have := joinq_refused S N D hs ii s mE mP; rw [hst] at this; exact this)
                have HST := Lib.hid hst
                clear hst
                have M := Lib.hid (M.out.next ((Below.refl _ _).drew))
                have Ko := Lib.hid (Ko.out.below ((Below.refl _ _).drew))
                have H := Lib.hid (H.out.below ((Below.refl _ _).drew))
                have HV := Lib.hid (show ∀ j : Nat, j < n + 1 → HadV _ f S hs j from fun j hj => (HV.out j hj).nums (NumsKept.below ((Below.refl _ _).drew)))
                have KC := Lib.hid (show ∀ w' : World, Blk w' 42 go #[.int .i64 k, .int .i64 id, .int .i64 so, .int .i64 p, .int .i64 q] → w'.cell? ⟨go, 0, none⟩ = some (.int .i64 k) ∧ w'.cell? ⟨go, 1, none⟩ = some (.int .i64 id) ∧ w'.cell? ⟨go, 2, none⟩ = some (.int .i64 so) ∧ w'.cell? ⟨go, 3, none⟩ = some (.int .i64 p) ∧ w'.cell? ⟨go, 4, none⟩ = some (.int .i64 q) from fun _ h => ⟨h.cell 0, h.cell 1, h.cell 2, h.cell 3, h.cell 4⟩)
                clear o0 o1 o2 o3 o4
                go_region_held3 (fun w' => w'.cell? ⟨go, 0, none⟩ = some (.int .i64 k) ∧ w'.cell? ⟨go, 1, none⟩ = some (.int .i64 id) ∧ w'.cell? ⟨go, 2, none⟩ = some (.int .i64 so) ∧ w'.cell? ⟨go, 3, none⟩ = some (.int .i64 p) ∧ w'.cell? ⟨go, 4, none⟩ = some (.int .i64 q))
                  (with_reducible exact KC.out _ Ko.out)
                  (first
                    | (go_at_call 11; (with_reducible refine (weight13_any k id so p q _ mE mP MK.out).mono ?_); rintro e wa ⟨rfl, hb⟩; have M := Lib.hid (M.out.next hb); have Ko := Lib.hid (Ko.out.below hb); have H := Lib.hid (H.out.below hb); have HV := Lib.hid (show ∀ j : Nat, j < n + 1 → HadV _ f S hs j from fun j hj => (HV.out j hj).nums (NumsKept.below hb)); clear hb)
                    | (go_at_call 20; rw [WT.out]; (with_reducible refine (m13join ii s mE mP M.out (by have := HLn.out; omega) c' hs' HST.out).mono ?_); rintro e wb ⟨rfl, hm, hh, hn⟩; have M := Lib.hid hm; have Ko := Lib.hid (hh.blk Ko.out (.inr rfl)); have H := Lib.hid (hh.blk H.out (.inl rfl)); have HV := Lib.hid (show ∀ j : Nat, j < n + 1 → HadV _ f S hs j from fun j hj => (HV.out j hj).nums hn); clear hm hh hn))
                all_goals
                  go_wp2_with fail
                  go_meet
                  exact ⟨c', hs', rfl, REF.out, INN.out, M.out.less (fun _ q => .inl q), H.out, HV.out⟩
          case rest =>
            obtain ⟨c', hs', rfl, hc, hin, hm, hh1, hhv⟩ := hcut
            have M := Lib.hid hm
            have H := Lib.hid hh1
            have HV := Lib.hid hhv
            have INN := Lib.hid hin
            have HL2 := Lib.hid (idsq_len 16 hm.good.uniq hin)
            have G2 := Lib.hid hm.good
            clear hm hin hh1 hhv o0 o1 o2 o3 o4 Ko G HLn IDS
            by_cases c0 : c' = 0
            · subst c0
              clear hc
              as_aux_lemma =>
                go_wp2
                go_loopw [15] (fun u wy => ∃ x : Int, u = .int .i64 x ∧ -1 ≤ x ∧ x ≤ (n : Int) ∧ Mine13 w4 (fun k => k = bh) g S N D hs' wy ∧ Blk wy 58 bh (had18 f) ∧ ∀ j : Nat, j < n + 1 → HadV wy f S hs j) (fun u _ => ((n : Int) - intOf u).toNat)
                case atStart => exact ⟨-1, rfl, by omega, by omega, M.out, H.out, HV.out⟩
                case round =>
                  obtain ⟨x, rfl, x0, x1, hm, hh1, hhv⟩ := hrel
                  clear M H HV
                  have M := Lib.hid hm
                  have H := Lib.hid hh1
                  have HV := Lib.hid hhv
                  clear hm hh1 hhv
                  by_cases hx : x < (n : Int)
                  · have t9 : decide (x < (n : Int)) = true := decide_eq_true hx
                    have n8 := N8.out
                    obtain ⟨k0, hk0⟩ : ∃ z : Nat, (x + 1).toNat = z := ⟨_, rfl⟩
                    have wc : IntKind.i64.wrap (x + 1) = (k0 : Int) := by rw [IntWalk.i64_in _ (by omega)]; omega
                    have HX := Lib.hid (show (k0 : Int) = x + 1 by omega)
                    have g1 : (k0 : Int) < 9 := by omega
                    have g2 : 0 ≤ (k0 : Int) := by omega
                    obtain ⟨⟨N', D'⟩, hheld⟩ : ∃ z, heldQ S x hs' = z := ⟨_, rfl⟩
                    have HH := Lib.hid hheld
                    have DP := Lib.hid (show 0 < D' by have := (heldQ_bd G2.out (by have := HL2.out; omega) x).2.2.1; rw [hheld] at this; exact this)
                    have FA := Lib.hid (fit_at G2.out (x := x) (by have := LS.out; omega) hheld)
                    clear hheld
                    have K4 := Lib.hid (K.out.below M.out.below)
                    have kq0 := K4.out.cell 0
                    have kq1 := K4.out.cell 1
                    have kq2 := K4.out.cell 2
                    have kq3 := K4.out.cell 3
                    simp at kq0 kq1 kq2 kq3
                    go_wp2_with fail
                    refine (all13_any pa pl pc qa ql qc a b _ N D HA.out).mono ?_
                    rintro e wv ⟨v, rfl, hr, hb⟩
                    obtain ⟨m1, l1, q1, z1, m2, l2, q2, z2, rfl, _⟩ := _root_.id hr
                    obtain ⟨wz, hwz⟩ : ∃ z, wv.alloc (.cells #[.slice m1 l1 q1, .slice m2 l2 q2] 35) = z := ⟨_, rfl⟩
                    obtain ⟨bm, hbm⟩ : ∃ z, wv.heap.size = z := ⟨_, rfl⟩
                    have B2 := Lib.hid (below_next hb (wbox wv (.cells #[.slice m1 l1 q1, .slice m2 l2 q2] 35)))
                    have BM := Lib.hid (show bh < bm by rw [← hbm]; exact Nat.lt_of_lt_of_le H.out.lt hb.size)
                    have M := Lib.hid ((M.out.next hb).own1 (.cells #[.slice m1 l1 q1, .slice m2 l2 q2] 35))
                    have KM := Lib.hid (Blk.new wv 35 #[.slice m1 l1 q1, .slice m2 l2 q2])
                    have RM := Lib.hid (hr.below (wbox wv (.cells #[.slice m1 l1 q1, .slice m2 l2 q2] 35)))
                    have H := Lib.hid (H.out.below B2.out)
                    have HV := Lib.hid (show ∀ j : Nat, j < n + 1 → HadV _ f S hs j from fun j hj => (HV.out j hj).nums (NumsKept.below B2.out))
                    rw [hwz] at M KM RM H HV
                    rw [hbm] at M KM
                    clear hb hr B2 K4 kq0 kq1 kq2 kq3
                    by_cases hx0 : x < 0
                    · have d0 : decide (0 ≤ x) = false := decide_eq_false (by omega)
                      have FT := Lib.hid (show N' * D ≤ N * D' by have := FA.out; rw [qN_neg S N hx0, qD_neg S D hx0] at this; exact this)
                      obtain ⟨mN, hmN⟩ : ∃ z, N = z := ⟨_, rfl⟩
                      obtain ⟨mD, hmD⟩ : ∃ z, D = z := ⟨_, rfl⟩
                      rw [hmN, hmD] at FT RM
                      clear hx0 FA hmN hmD
                      go_upto_region 34 with fail
                      (try rw [hbm]); (try rw [hwz])
                      clear hwz hbm
                      have b0 := KM.out.cell 0
                      have b1 := KM.out.cell 1
                      simp at b0 b1
                      have KEPT := Lib.hid (show ∀ w' : World, Below wz.heap.size wz w' → w'.cell? ⟨bm, 0, none⟩ = some (.slice m1 l1 q1) ∧ w'.cell? ⟨bm, 1, none⟩ = some (.slice m2 l2 q2) from fun w' h => ⟨cell_on h b0, cell_on h b1⟩)
                      have BL := Lib.hid (show Below wz.heap.size wz wz.drew from (Below.refl wz.heap.size wz).drew)
                      clear b0 b1
                      refine wp_region_noPanic ?_
                      refine wp_region_held_drew (S := fun w' => w'.cell? ⟨bm, 0, none⟩ = some (.slice m1 l1 q1) ∧ w'.cell? ⟨bm, 1, none⟩ = some (.slice m2 l2 q2)) (by kernel_rfl) (KEPT.out _ BL.out) (fun hHeld => ?_)
                      refine' takeY (i := 0) (oi := _) (v := _) ?hin0 (by kernel_rfl) (by kernel_rfl) (by kernel_rfl) (fun _ _ _ h => h) ?hwn0 ?hyn0 hHeld ?restn0
                      case hin0 => (simp only [List.getElem?_toArray, List.getElem?_cons_zero]; rfl)
                      case hwn0 => rfl
                      case hyn0 => (intro w hSw; (try dsimp only at hSw); go_simp; try with_reducible rfl)
                      try simp only [Act.put, List.setIfInBounds_toArray, List.set_cons_zero, List.set_cons_succ]
                      refine' takeY (i := 1) (oi := _) (v := _) ?hin1 (by kernel_rfl) (by kernel_rfl) (by kernel_rfl) (fun _ _ _ h => h) ?hwn1 ?hyn1 hHeld ?restn1
                      case hin1 => (simp only [List.getElem?_toArray, List.getElem?_cons_succ, List.getElem?_cons_zero]; rfl)
                      case hwn1 => rfl
                      case hyn1 => (intro w hSw; (try dsimp only at hSw); go_simp; try with_reducible rfl)
                      try simp only [Act.put, List.setIfInBounds_toArray, List.set_cons_zero, List.set_cons_succ]
                      refine' takeY (i := 3) (oi := _) (v := _) ?hin2 (by kernel_rfl) (by kernel_rfl) (by kernel_rfl) (fun _ _ _ h => h) ?hwn2 ?hyn2 hHeld ?restn2
                      case hin2 => (simp only [List.getElem?_toArray, List.getElem?_cons_succ, List.getElem?_cons_zero]; rfl)
                      case hwn2 => rfl
                      case hyn2 => (intro w hSw; (try dsimp only at hSw); go_simp; try with_reducible rfl)
                      try simp only [Act.put, List.setIfInBounds_toArray, List.set_cons_zero, List.set_cons_succ]
                      refine wpAnyH_ready (rs := [2]) (by kernel_rfl) (by simp) ?_
                      refine' AllReadyH.cons (o := _) ?hin3 (fun K hK => ?stepn3) AllReadyH.nil
                      case hin3 => (simp only [List.getElem?_toArray, List.getElem?_cons_succ, List.getElem?_cons_zero]; rfl)
                      go_simp
                      ((with_reducible refine (m13held x (M.out.next BL.out) (by have := HL2.out; omega) N' D' HH.out).mono ?_); rintro e wh ⟨vh, nh, dh, rfl, hr, hlo, he, hb⟩; have RH := Lib.hid hr; have DH := Lib.hid hlo.2.1; have EH := Lib.hid he; clear hr hlo he; have BL := Lib.hid (below_next BL.out hb); clear hb)
                      go_wp2_with fail
                      clear hHeld
                      refine hK.out _ _ (KEPT.out _ BL.out) (fun hHeld => ?_)
                      clear hK K
                      try simp only [Act.put, List.setIfInBounds_toArray, List.set_cons_zero, List.set_cons_succ]
                      refine wpAnyH_ready (rs := [4]) (by kernel_rfl) (by simp) ?_
                      refine' AllReadyH.cons (o := _) ?hin4 (fun K hK => ?stepn4) AllReadyH.nil
                      case hin4 => (simp only [List.getElem?_toArray, List.getElem?_cons_succ, List.getElem?_cons_zero]; rfl)
                      go_simp
                      ((with_reducible refine (rcmp_any _ _ nh dh mN mD 0 _ 14 1 _ RH.out (RM.out.below BL.out) (by omega)).mono ?_); rintro e wc1 ⟨rfl, hb⟩; have t1 := cmp_within (held_within DP.out DH.out EH.out FT.out); obtain ⟨kc, hkc⟩ : ∃ k, cmpI (nh * mD) (mN * dh) = k := ⟨_, rfl⟩; rw [hkc] at t1 ⊢; clear hkc; have BL := Lib.hid (below_next BL.out hb); clear hb)
                      go_wp2_with fail
                      clear hHeld
                      refine hK.out _ _ (KEPT.out _ BL.out) (fun hHeld => ?_)
                      clear hK K
                      try simp only [Act.put, List.setIfInBounds_toArray, List.set_cons_zero, List.set_cons_succ]
                      refine' takeY (i := 5) (oi := _) (v := _) ?hin5 (by kernel_rfl) (by kernel_rfl) (by kernel_rfl) (fun _ _ _ h => h) ?hwn5 ?hyn5 hHeld ?restn5
                      case hin5 => (simp only [List.getElem?_toArray, List.getElem?_cons_succ, List.getElem?_cons_zero]; rfl)
                      case hwn5 => rfl
                      case hyn5 => (intro w hSw; (try dsimp only at hSw); go_simp; try with_reducible rfl)
                      try simp only [Act.put, List.setIfInBounds_toArray, List.set_cons_zero, List.set_cons_succ]
                      refine' takeY (i := 6) (oi := _) (v := _) ?hin6 (by kernel_rfl) (by kernel_rfl) (by kernel_rfl) (fun _ _ _ h => h) ?hwn6 ?hyn6 hHeld ?restn6
                      case hin6 => (simp only [List.getElem?_toArray, List.getElem?_cons_succ, List.getElem?_cons_zero]; rfl)
                      case hwn6 => rfl
                      case hyn6 => (intro w hSw; (try dsimp only at hSw); go_simp; try with_reducible rfl)
                      try simp only [Act.put, List.setIfInBounds_toArray, List.set_cons_zero, List.set_cons_succ]
                      refine' takeY (i := 7) (oi := _) (v := _) ?hin7 (by kernel_rfl) (by kernel_rfl) (by kernel_rfl) (fun _ _ _ h => h) ?hwn7 ?hyn7 hHeld ?restn7
                      case hin7 => (simp only [List.getElem?_toArray, List.getElem?_cons_succ, List.getElem?_cons_zero]; rfl)
                      case hwn7 => rfl
                      case hyn7 => (intro w hSw; (try dsimp only at hSw); go_simp; try with_reducible rfl)
                      try simp only [Act.put, List.setIfInBounds_toArray, List.set_cons_zero, List.set_cons_succ]
                      refine' takeY (i := 8) (oi := _) (v := _) ?hin8 (by kernel_rfl) (by kernel_rfl) (by kernel_rfl) (fun _ _ _ h => h) ?hwn8 ?hyn8 hHeld ?restn8
                      case hin8 => (simp only [List.getElem?_toArray, List.getElem?_cons_succ, List.getElem?_cons_zero]; rfl)
                      case hwn8 => rfl
                      case hyn8 => (intro w hSw; (try dsimp only at hSw); go_simp; try with_reducible rfl)
                      try simp only [Act.put, List.setIfInBounds_toArray, List.set_cons_zero, List.set_cons_succ]
                      refine' takeY (i := 9) (oi := _) (v := _) ?hin9 (by kernel_rfl) (by kernel_rfl) (by kernel_rfl) (fun _ _ _ h => h) ?hwn9 ?hyn9 hHeld ?restn9
                      case hin9 => (simp only [List.getElem?_toArray, List.getElem?_cons_succ, List.getElem?_cons_zero]; rfl)
                      case hwn9 => rfl
                      case hyn9 => (intro w hSw; (try dsimp only at hSw); go_simp; try with_reducible rfl)
                      try simp only [Act.put, List.setIfInBounds_toArray, List.set_cons_zero, List.set_cons_succ]
                      refine' takeN (i := 10) (oi := _) ?hin10 (by kernel_rfl) (by kernel_rfl) (by kernel_rfl) (fun _ _ _ h => h) ?hwn10 hHeld ?restn10
                      case hin10 => (simp only [List.getElem?_toArray, List.getElem?_cons_succ, List.getElem?_cons_zero]; rfl)
                      case hwn10 => rfl
                      try simp only [Act.put, List.setIfInBounds_toArray, List.set_cons_zero, List.set_cons_succ]
                      refine' takeN (i := 11) (oi := _) ?hin11 (by kernel_rfl) (by kernel_rfl) (by kernel_rfl) (fun _ _ _ h => h) ?hwn11 hHeld ?restn11
                      case hin11 => (simp only [List.getElem?_toArray, List.getElem?_cons_succ, List.getElem?_cons_zero]; rfl)
                      case hwn11 => rfl
                      try simp only [Act.put, List.setIfInBounds_toArray, List.set_cons_zero, List.set_cons_succ]
                      refine' takeN (i := 12) (oi := _) ?hin12 (by kernel_rfl) (by kernel_rfl) (by kernel_rfl) (fun _ _ _ h => h) ?hwn12 hHeld ?restn12
                      case hin12 => (simp only [List.getElem?_toArray, List.getElem?_cons_succ, List.getElem?_cons_zero]; rfl)
                      case hwn12 => rfl
                      try simp only [Act.put, List.setIfInBounds_toArray, List.set_cons_zero, List.set_cons_succ]
                      refine' takeN (i := 13) (oi := _) ?hin13 (by kernel_rfl) (by kernel_rfl) (by kernel_rfl) (fun _ _ _ h => h) ?hwn13 hHeld ?restn13
                      case hin13 => (simp only [List.getElem?_toArray, List.getElem?_cons_succ, List.getElem?_cons_zero]; rfl)
                      case hwn13 => rfl
                      try simp only [Act.put, List.setIfInBounds_toArray, List.set_cons_zero, List.set_cons_succ]
                      refine' takeN (i := 14) (oi := _) ?hin14 (by kernel_rfl) (by kernel_rfl) (by kernel_rfl) (fun _ _ _ h => h) ?hwn14 hHeld ?restn14
                      case hin14 => (simp only [List.getElem?_toArray, List.getElem?_cons_succ, List.getElem?_cons_zero]; rfl)
                      case hwn14 => rfl
                      try simp only [Act.put, List.setIfInBounds_toArray, List.set_cons_zero, List.set_cons_succ]
                      refine' takeN (i := 15) (oi := _) ?hin15 (by kernel_rfl) (by kernel_rfl) (by kernel_rfl) (fun _ _ _ h => h) ?hwn15 hHeld ?restn15
                      case hin15 => (simp only [List.getElem?_toArray, List.getElem?_cons_succ, List.getElem?_cons_zero]; rfl)
                      case hwn15 => rfl
                      try simp only [Act.put, List.setIfInBounds_toArray, List.set_cons_zero, List.set_cons_succ]
                      refine' takeN (i := 16) (oi := _) ?hin16 (by kernel_rfl) (by kernel_rfl) (by kernel_rfl) (fun _ _ _ h => h) ?hwn16 hHeld ?restn16
                      case hin16 => (simp only [List.getElem?_toArray, List.getElem?_cons_succ, List.getElem?_cons_zero]; rfl)
                      case hwn16 => rfl
                      try simp only [Act.put, List.setIfInBounds_toArray, List.set_cons_zero, List.set_cons_succ]
                      refine' takeN (i := 17) (oi := _) ?hin17 (by kernel_rfl) (by kernel_rfl) (by kernel_rfl) (fun _ _ _ h => h) ?hwn17 hHeld ?restn17
                      case hin17 => (simp only [List.getElem?_toArray, List.getElem?_cons_succ, List.getElem?_cons_zero]; rfl)
                      case hwn17 => rfl
                      try simp only [Act.put, List.setIfInBounds_toArray, List.set_cons_zero, List.set_cons_succ]
                      refine' takeN (i := 18) (oi := _) ?hin18 (by kernel_rfl) (by kernel_rfl) (by kernel_rfl) (fun _ _ _ h => h) ?hwn18 hHeld ?restn18
                      case hin18 => (simp only [List.getElem?_toArray, List.getElem?_cons_succ, List.getElem?_cons_zero]; rfl)
                      case hwn18 => rfl
                      try simp only [Act.put, List.setIfInBounds_toArray, List.set_cons_zero, List.set_cons_succ]
                      refine' takeY (i := 19) (oi := _) (v := _) ?hin19 (by kernel_rfl) (by kernel_rfl) (by kernel_rfl) (fun _ _ _ h => h) ?hwn19 ?hyn19 hHeld ?restn19
                      case hin19 => (simp only [List.getElem?_toArray, List.getElem?_cons_succ, List.getElem?_cons_zero]; rfl)
                      case hwn19 => rfl
                      case hyn19 => (intro w hSw; (try dsimp only at hSw); go_simp; try with_reducible rfl)
                      try simp only [Act.put, List.setIfInBounds_toArray, List.set_cons_zero, List.set_cons_succ]
                      refine' takeY (i := 20) (oi := _) (v := _) ?hin20 (by kernel_rfl) (by kernel_rfl) (by kernel_rfl) (fun _ _ _ h => h) ?hwn20 ?hyn20 hHeld ?restn20
                      case hin20 => (simp only [List.getElem?_toArray, List.getElem?_cons_succ, List.getElem?_cons_zero]; rfl)
                      case hwn20 => rfl
                      case hyn20 => (intro w hSw; (try dsimp only at hSw); go_simp; try with_reducible rfl)
                      try simp only [Act.put, List.setIfInBounds_toArray, List.set_cons_zero, List.set_cons_succ]
                      refine wpAnyH_done (by kernel_rfl) ?_ _
                      refine NoPanic.normal ?_
                      ·
                        go_wp2
                        have wx := HX.out
                        go_roundw
                        case rel => exact ⟨x + 1, by go_num, by omega, by omega, (M.out.next BL.out).less (fun _ q => .inl q), H.out.below BL.out, fun j hj => (HV.out j hj).nums (NumsKept.below BL.out)⟩
                        case measure => simp [intOf]; omega
                    · have d0 : decide (0 ≤ x) = true := decide_eq_true (by omega)
                      obtain ⟨j0, rfl⟩ : ∃ j0 : Nat, x = (j0 : Int) := ⟨x.toNat, by omega⟩
                      have jl : j0 < S.length := by have := LS.out; omega
                      obtain ⟨⟨par, mN, mD⟩, hsv⟩ : ∃ sv, S[j0]? = some sv := ⟨_, List.getElem?_eq_getElem jl⟩
                      have FT := Lib.hid (show N' * mD ≤ mN * D' by have := FA.out; unfold qN qD at this; rw [if_neg hx0, if_neg hx0, Int.toNat_natCast, hsv] at this; exact this)
                      have ge := G2.out.sv.each j0 _ hsv
                      obtain ⟨bs, os, hsa, hat⟩ := (RS.out.below (M.out.below)).at hsv
                      subst hsa
                      have y1 := hat.c1
                      have y2 := hat.c2
                      have E0 := Lib.hid (show (0 ≤ mN ∧ mN < 4294967296) ∧ 0 ≤ mD ∧ mD < 4294967296 by have h := ge.2.2; simp only at h; omega)
                      have j1 : (j0 : Int) < (n : Int) := hx
                      have j2 : 0 ≤ (j0 : Int) := by omega
                      simp only at y1 y2
                      have b0 := KM.out.cell 0
                      have b1 := KM.out.cell 1
                      simp at b0 b1
                      clear hsv ge hat FA hx0
                      go_wp2_with fail
                      (try rw [hbm]); (try rw [hwz])
                      clear hwz hbm
                      refine (rof_any mN mD _ E0.out.1.1 E0.out.1.2 E0.out.2.1 E0.out.2.2).mono ?_
                      rintro e wo ⟨v, rfl, hr, hb⟩
                      obtain ⟨m3, l3, q3, z3, m4, l4, q4, z4, rfl, _⟩ := _root_.id hr
                      have KM := Lib.hid (KM.out.below hb)
                      have M := Lib.hid (M.out.next hb)
                      have H := Lib.hid (H.out.below hb)
                      have ST := Lib.hid (box_store KM.out (.slice m3 l3 q3) (.slice m4 l4 q4))
                      have RM := Lib.hid (ST.out.2.1 _ _ _ _ _ hr)
                      have HV := Lib.hid (show ∀ j : Nat, j < n + 1 → HadV _ f S hs j from fun j hj => ((HV.out j hj).nums (NumsKept.below hb)).nums ST.out.2.1)
                      have M := Lib.hid (M.out.wrote (G' := fun k => k = bh ∨ k = bm) (ST.out.2.2.more (fun k q => .inr q)) (fun k q => .inl q) (fun k q => Nat.lt_of_lt_of_le (M.out.lies k q) ST.out.2.2.size))
                      have H := Lib.hid (H.out.keeps ST.out.2.2 (fun e => by have := BM.out; omega))
                      have b0 := KM.out.cell 0
                      have b1 := KM.out.cell 1
                      simp at b0 b1
                      have b2 := KM.out.free 0
                      have b3 := KM.out.free 1
                      have KM := Lib.hid ST.out.1
                      clear hb hr y1 y2 ST
                      go_upto_region 34 with fail
                      clear b0 b1 b2 b3
                      obtain ⟨wz, hwz⟩ : ∃ z, (wo.setCell ⟨bm, 0, none⟩ (.slice m3 l3 q3)).setCell ⟨bm, 1, none⟩ (.slice m4 l4 q4) = z := ⟨_, rfl⟩
                      rw [hwz] at M KM RM H HV
                      (try rw [hwz])
                      clear hwz
                      have b0 := KM.out.cell 0
                      have b1 := KM.out.cell 1
                      simp at b0 b1
                      have KEPT := Lib.hid (show ∀ w' : World, Below wz.heap.size wz w' → w'.cell? ⟨bm, 0, none⟩ = some (.slice m3 l3 q3) ∧ w'.cell? ⟨bm, 1, none⟩ = some (.slice m4 l4 q4) from fun w' h => ⟨cell_on h b0, cell_on h b1⟩)
                      have BL := Lib.hid (show Below wz.heap.size wz wz.drew from (Below.refl wz.heap.size wz).drew)
                      clear b0 b1
                      refine wp_region_noPanic ?_
                      refine wp_region_held_drew (S := fun w' => w'.cell? ⟨bm, 0, none⟩ = some (.slice m3 l3 q3) ∧ w'.cell? ⟨bm, 1, none⟩ = some (.slice m4 l4 q4)) (by kernel_rfl) (KEPT.out _ BL.out) (fun hHeld => ?_)
                      refine' takeY (i := 0) (oi := _) (v := _) ?hip0 (by kernel_rfl) (by kernel_rfl) (by kernel_rfl) (fun _ _ _ h => h) ?hwp0 ?hyp0 hHeld ?restp0
                      case hip0 => (simp only [List.getElem?_toArray, List.getElem?_cons_zero]; rfl)
                      case hwp0 => rfl
                      case hyp0 => (intro w hSw; (try dsimp only at hSw); go_simp; try with_reducible rfl)
                      try simp only [Act.put, List.setIfInBounds_toArray, List.set_cons_zero, List.set_cons_succ]
                      refine' takeY (i := 1) (oi := _) (v := _) ?hip1 (by kernel_rfl) (by kernel_rfl) (by kernel_rfl) (fun _ _ _ h => h) ?hwp1 ?hyp1 hHeld ?restp1
                      case hip1 => (simp only [List.getElem?_toArray, List.getElem?_cons_succ, List.getElem?_cons_zero]; rfl)
                      case hwp1 => rfl
                      case hyp1 => (intro w hSw; (try dsimp only at hSw); go_simp; try with_reducible rfl)
                      try simp only [Act.put, List.setIfInBounds_toArray, List.set_cons_zero, List.set_cons_succ]
                      refine' takeY (i := 3) (oi := _) (v := _) ?hip2 (by kernel_rfl) (by kernel_rfl) (by kernel_rfl) (fun _ _ _ h => h) ?hwp2 ?hyp2 hHeld ?restp2
                      case hip2 => (simp only [List.getElem?_toArray, List.getElem?_cons_succ, List.getElem?_cons_zero]; rfl)
                      case hwp2 => rfl
                      case hyp2 => (intro w hSw; (try dsimp only at hSw); go_simp; try with_reducible rfl)
                      try simp only [Act.put, List.setIfInBounds_toArray, List.set_cons_zero, List.set_cons_succ]
                      refine wpAnyH_ready (rs := [2]) (by kernel_rfl) (by simp) ?_
                      refine' AllReadyH.cons (o := _) ?hip3 (fun K hK => ?stepp3) AllReadyH.nil
                      case hip3 => (simp only [List.getElem?_toArray, List.getElem?_cons_succ, List.getElem?_cons_zero]; rfl)
                      go_simp
                      ((with_reducible refine (m13held (j0 : Int) (M.out.next BL.out) (by have := HL2.out; omega) N' D' HH.out).mono ?_); rintro e wh ⟨vh, nh, dh, rfl, hr, hlo, he, hb⟩; have RH := Lib.hid hr; have DH := Lib.hid hlo.2.1; have EH := Lib.hid he; clear hr hlo he; have BL := Lib.hid (below_next BL.out hb); clear hb)
                      go_wp2_with fail
                      clear hHeld
                      refine hK.out _ _ (KEPT.out _ BL.out) (fun hHeld => ?_)
                      clear hK K
                      try simp only [Act.put, List.setIfInBounds_toArray, List.set_cons_zero, List.set_cons_succ]
                      refine wpAnyH_ready (rs := [4]) (by kernel_rfl) (by simp) ?_
                      refine' AllReadyH.cons (o := _) ?hip4 (fun K hK => ?stepp4) AllReadyH.nil
                      case hip4 => (simp only [List.getElem?_toArray, List.getElem?_cons_succ, List.getElem?_cons_zero]; rfl)
                      go_simp
                      ((with_reducible refine (rcmp_any _ _ nh dh mN mD 0 _ 14 1 _ RH.out (RM.out.below BL.out) (by omega)).mono ?_); rintro e wc1 ⟨rfl, hb⟩; have t1 := cmp_within (held_within DP.out DH.out EH.out FT.out); obtain ⟨kc, hkc⟩ : ∃ k, cmpI (nh * mD) (mN * dh) = k := ⟨_, rfl⟩; rw [hkc] at t1 ⊢; clear hkc; have BL := Lib.hid (below_next BL.out hb); clear hb)
                      go_wp2_with fail
                      clear hHeld
                      refine hK.out _ _ (KEPT.out _ BL.out) (fun hHeld => ?_)
                      clear hK K
                      try simp only [Act.put, List.setIfInBounds_toArray, List.set_cons_zero, List.set_cons_succ]
                      refine' takeY (i := 5) (oi := _) (v := _) ?hip5 (by kernel_rfl) (by kernel_rfl) (by kernel_rfl) (fun _ _ _ h => h) ?hwp5 ?hyp5 hHeld ?restp5
                      case hip5 => (simp only [List.getElem?_toArray, List.getElem?_cons_succ, List.getElem?_cons_zero]; rfl)
                      case hwp5 => rfl
                      case hyp5 => (intro w hSw; (try dsimp only at hSw); go_simp; try with_reducible rfl)
                      try simp only [Act.put, List.setIfInBounds_toArray, List.set_cons_zero, List.set_cons_succ]
                      refine' takeY (i := 6) (oi := _) (v := _) ?hip6 (by kernel_rfl) (by kernel_rfl) (by kernel_rfl) (fun _ _ _ h => h) ?hwp6 ?hyp6 hHeld ?restp6
                      case hip6 => (simp only [List.getElem?_toArray, List.getElem?_cons_succ, List.getElem?_cons_zero]; rfl)
                      case hwp6 => rfl
                      case hyp6 => (intro w hSw; (try dsimp only at hSw); go_simp; try with_reducible rfl)
                      try simp only [Act.put, List.setIfInBounds_toArray, List.set_cons_zero, List.set_cons_succ]
                      refine' takeY (i := 7) (oi := _) (v := _) ?hip7 (by kernel_rfl) (by kernel_rfl) (by kernel_rfl) (fun _ _ _ h => h) ?hwp7 ?hyp7 hHeld ?restp7
                      case hip7 => (simp only [List.getElem?_toArray, List.getElem?_cons_succ, List.getElem?_cons_zero]; rfl)
                      case hwp7 => rfl
                      case hyp7 => (intro w hSw; (try dsimp only at hSw); go_simp; try with_reducible rfl)
                      try simp only [Act.put, List.setIfInBounds_toArray, List.set_cons_zero, List.set_cons_succ]
                      refine' takeY (i := 8) (oi := _) (v := _) ?hip8 (by kernel_rfl) (by kernel_rfl) (by kernel_rfl) (fun _ _ _ h => h) ?hwp8 ?hyp8 hHeld ?restp8
                      case hip8 => (simp only [List.getElem?_toArray, List.getElem?_cons_succ, List.getElem?_cons_zero]; rfl)
                      case hwp8 => rfl
                      case hyp8 => (intro w hSw; (try dsimp only at hSw); go_simp; try with_reducible rfl)
                      try simp only [Act.put, List.setIfInBounds_toArray, List.set_cons_zero, List.set_cons_succ]
                      refine' takeY (i := 9) (oi := _) (v := _) ?hip9 (by kernel_rfl) (by kernel_rfl) (by kernel_rfl) (fun _ _ _ h => h) ?hwp9 ?hyp9 hHeld ?restp9
                      case hip9 => (simp only [List.getElem?_toArray, List.getElem?_cons_succ, List.getElem?_cons_zero]; rfl)
                      case hwp9 => rfl
                      case hyp9 => (intro w hSw; (try dsimp only at hSw); go_simp; try with_reducible rfl)
                      try simp only [Act.put, List.setIfInBounds_toArray, List.set_cons_zero, List.set_cons_succ]
                      refine' takeN (i := 10) (oi := _) ?hip10 (by kernel_rfl) (by kernel_rfl) (by kernel_rfl) (fun _ _ _ h => h) ?hwp10 hHeld ?restp10
                      case hip10 => (simp only [List.getElem?_toArray, List.getElem?_cons_succ, List.getElem?_cons_zero]; rfl)
                      case hwp10 => rfl
                      try simp only [Act.put, List.setIfInBounds_toArray, List.set_cons_zero, List.set_cons_succ]
                      refine' takeN (i := 11) (oi := _) ?hip11 (by kernel_rfl) (by kernel_rfl) (by kernel_rfl) (fun _ _ _ h => h) ?hwp11 hHeld ?restp11
                      case hip11 => (simp only [List.getElem?_toArray, List.getElem?_cons_succ, List.getElem?_cons_zero]; rfl)
                      case hwp11 => rfl
                      try simp only [Act.put, List.setIfInBounds_toArray, List.set_cons_zero, List.set_cons_succ]
                      refine' takeN (i := 12) (oi := _) ?hip12 (by kernel_rfl) (by kernel_rfl) (by kernel_rfl) (fun _ _ _ h => h) ?hwp12 hHeld ?restp12
                      case hip12 => (simp only [List.getElem?_toArray, List.getElem?_cons_succ, List.getElem?_cons_zero]; rfl)
                      case hwp12 => rfl
                      try simp only [Act.put, List.setIfInBounds_toArray, List.set_cons_zero, List.set_cons_succ]
                      refine' takeN (i := 13) (oi := _) ?hip13 (by kernel_rfl) (by kernel_rfl) (by kernel_rfl) (fun _ _ _ h => h) ?hwp13 hHeld ?restp13
                      case hip13 => (simp only [List.getElem?_toArray, List.getElem?_cons_succ, List.getElem?_cons_zero]; rfl)
                      case hwp13 => rfl
                      try simp only [Act.put, List.setIfInBounds_toArray, List.set_cons_zero, List.set_cons_succ]
                      refine' takeN (i := 14) (oi := _) ?hip14 (by kernel_rfl) (by kernel_rfl) (by kernel_rfl) (fun _ _ _ h => h) ?hwp14 hHeld ?restp14
                      case hip14 => (simp only [List.getElem?_toArray, List.getElem?_cons_succ, List.getElem?_cons_zero]; rfl)
                      case hwp14 => rfl
                      try simp only [Act.put, List.setIfInBounds_toArray, List.set_cons_zero, List.set_cons_succ]
                      refine' takeN (i := 15) (oi := _) ?hip15 (by kernel_rfl) (by kernel_rfl) (by kernel_rfl) (fun _ _ _ h => h) ?hwp15 hHeld ?restp15
                      case hip15 => (simp only [List.getElem?_toArray, List.getElem?_cons_succ, List.getElem?_cons_zero]; rfl)
                      case hwp15 => rfl
                      try simp only [Act.put, List.setIfInBounds_toArray, List.set_cons_zero, List.set_cons_succ]
                      refine' takeN (i := 16) (oi := _) ?hip16 (by kernel_rfl) (by kernel_rfl) (by kernel_rfl) (fun _ _ _ h => h) ?hwp16 hHeld ?restp16
                      case hip16 => (simp only [List.getElem?_toArray, List.getElem?_cons_succ, List.getElem?_cons_zero]; rfl)
                      case hwp16 => rfl
                      try simp only [Act.put, List.setIfInBounds_toArray, List.set_cons_zero, List.set_cons_succ]
                      refine' takeN (i := 17) (oi := _) ?hip17 (by kernel_rfl) (by kernel_rfl) (by kernel_rfl) (fun _ _ _ h => h) ?hwp17 hHeld ?restp17
                      case hip17 => (simp only [List.getElem?_toArray, List.getElem?_cons_succ, List.getElem?_cons_zero]; rfl)
                      case hwp17 => rfl
                      try simp only [Act.put, List.setIfInBounds_toArray, List.set_cons_zero, List.set_cons_succ]
                      refine' takeN (i := 18) (oi := _) ?hip18 (by kernel_rfl) (by kernel_rfl) (by kernel_rfl) (fun _ _ _ h => h) ?hwp18 hHeld ?restp18
                      case hip18 => (simp only [List.getElem?_toArray, List.getElem?_cons_succ, List.getElem?_cons_zero]; rfl)
                      case hwp18 => rfl
                      try simp only [Act.put, List.setIfInBounds_toArray, List.set_cons_zero, List.set_cons_succ]
                      refine' takeY (i := 19) (oi := _) (v := _) ?hip19 (by kernel_rfl) (by kernel_rfl) (by kernel_rfl) (fun _ _ _ h => h) ?hwp19 ?hyp19 hHeld ?restp19
                      case hip19 => (simp only [List.getElem?_toArray, List.getElem?_cons_succ, List.getElem?_cons_zero]; rfl)
                      case hwp19 => rfl
                      case hyp19 => (intro w hSw; (try dsimp only at hSw); go_simp; try with_reducible rfl)
                      try simp only [Act.put, List.setIfInBounds_toArray, List.set_cons_zero, List.set_cons_succ]
                      refine' takeY (i := 20) (oi := _) (v := _) ?hip20 (by kernel_rfl) (by kernel_rfl) (by kernel_rfl) (fun _ _ _ h => h) ?hwp20 ?hyp20 hHeld ?restp20
                      case hip20 => (simp only [List.getElem?_toArray, List.getElem?_cons_succ, List.getElem?_cons_zero]; rfl)
                      case hwp20 => rfl
                      case hyp20 => (intro w hSw; (try dsimp only at hSw); go_simp; try with_reducible rfl)
                      try simp only [Act.put, List.setIfInBounds_toArray, List.set_cons_zero, List.set_cons_succ]
                      refine wpAnyH_done (by kernel_rfl) ?_ _
                      refine NoPanic.normal ?_
                      ·
                        go_wp2
                        have wx := HX.out
                        go_roundw
                        case rel => exact ⟨(j0 : Int) + 1, by go_num, by omega, by omega, (M.out.next BL.out).less (fun _ q => .inl q), H.out.below BL.out, fun j hj => (HV.out j hj).nums (NumsKept.below BL.out)⟩
                        case measure => simp [intOf]; omega
                  · have t9 : decide (x < (n : Int)) = false := decide_eq_false hx
                    have wi : IntKind.i64.wrap ((i : Int) + 1) = (i : Int) + 1 := IntWalk.i64_in _ (by omega)
                    go_wp2
                    go_roundw
                    case rel => exact ⟨i + 1, hs', f, by go_num, by omega, by omega, INN.out, M.out, H.out, SL.out⟩
                    case measure => simp [intOf]; omega
            · have hsame : hs' = hs := by rcases hc with h | h; exact absurd h c0; exact h
              rw [hsame] at M INN HL2 G2
              have c0b : (c' == 0) = false := by simpa using c0
              have c0d : decide (c' = 0) = false := by simpa using c0
              have c0n : (c' != 0) = true := by simpa using c0
              clear hc hsame
              as_aux_lemma =>
                go_wp2_with fail
                refine (m13server ii M.out at0 AT.out).mono ?_
                rintro e w9 ⟨rfl, rfl⟩
                go_wp2
                go_loopw [15] (fun u wy => ∃ x : Int, u = .int .i64 x ∧ -1 ≤ x ∧ x ≤ (n : Int) ∧ Mine13 w4 (fun k => k = bh) g S N D hs wy ∧ Blk wy 58 bh (had18 f) ∧ ∀ j : Nat, j < n + 1 → HadV wy f S hs j) (fun u _ => ((n : Int) - intOf u).toNat)
                case atStart => exact ⟨-1, rfl, by omega, by omega, M.out, H.out, HV.out⟩
                case round =>
                  obtain ⟨x, rfl, x0, x1, hm, hh1, hhv⟩ := hrel
                  clear M H HV
                  have M := Lib.hid hm
                  have H := Lib.hid hh1
                  have HV := Lib.hid hhv
                  clear hm hh1 hhv
                  by_cases hx : x < (n : Int)
                  · have t9 : decide (x < (n : Int)) = true := decide_eq_true hx
                    have n8 := N8.out
                    obtain ⟨k0, hk0⟩ : ∃ z : Nat, (x + 1).toNat = z := ⟨_, rfl⟩
                    have wc : IntKind.i64.wrap (x + 1) = (k0 : Int) := by rw [IntWalk.i64_in _ (by omega)]; omega
                    have HX := Lib.hid (show (k0 : Int) = x + 1 by omega)
                    have g1 : (k0 : Int) < 9 := by omega
                    have g2 : 0 ≤ (k0 : Int) := by omega
                    obtain ⟨⟨N', D'⟩, hheld⟩ : ∃ z, heldQ S x hs = z := ⟨_, rfl⟩
                    have HH := Lib.hid hheld
                    have DP := Lib.hid (show 0 < D' by have := (heldQ_bd G2.out (by have := HL2.out; omega) x).2.2.1; rw [hheld] at this; exact this)
                    have FA := Lib.hid (fit_at G2.out (x := x) (by have := LS.out; omega) hheld)
                    obtain ⟨an, ln, cn, ab, lb, cb, nk, dk, hf0, hf1, hrk, hek⟩ := HV.out k0 (by omega)
                    rw [show (k0 : Int) - 1 = x by omega, hheld] at hek
                    have F0 := Lib.hid hf0
                    have F1 := Lib.hid hf1
                    have RK := Lib.hid hrk
                    have EK := Lib.hid hek
                    clear hf0 hf1 hrk hek
                    clear hheld
                    have K4 := Lib.hid (K.out.below M.out.below)
                    have kq0 := K4.out.cell 0
                    have kq1 := K4.out.cell 1
                    have kq2 := K4.out.cell 2
                    have kq3 := K4.out.cell 3
                    simp at kq0 kq1 kq2 kq3
                    go_wp2_with fail
                    refine (all13_any pa pl pc qa ql qc a b _ N D HA.out).mono ?_
                    rintro e wv ⟨v, rfl, hr, hb⟩
                    obtain ⟨m1, l1, q1, z1, m2, l2, q2, z2, rfl, _⟩ := _root_.id hr
                    obtain ⟨wz, hwz⟩ : ∃ z, wv.alloc (.cells #[.slice m1 l1 q1, .slice m2 l2 q2] 35) = z := ⟨_, rfl⟩
                    obtain ⟨bm, hbm⟩ : ∃ z, wv.heap.size = z := ⟨_, rfl⟩
                    have B2 := Lib.hid (below_next hb (wbox wv (.cells #[.slice m1 l1 q1, .slice m2 l2 q2] 35)))
                    have BM := Lib.hid (show bh < bm by rw [← hbm]; exact Nat.lt_of_lt_of_le H.out.lt hb.size)
                    have M := Lib.hid ((M.out.next hb).own1 (.cells #[.slice m1 l1 q1, .slice m2 l2 q2] 35))
                    have KM := Lib.hid (Blk.new wv 35 #[.slice m1 l1 q1, .slice m2 l2 q2])
                    have RM := Lib.hid (hr.below (wbox wv (.cells #[.slice m1 l1 q1, .slice m2 l2 q2] 35)))
                    have H := Lib.hid (H.out.below B2.out)
                    have HV := Lib.hid (show ∀ j : Nat, j < n + 1 → HadV _ f S hs j from fun j hj => (HV.out j hj).nums (NumsKept.below B2.out))
                    have RK := Lib.hid (RK.out.below B2.out)
                    rw [hwz] at M KM RM H HV RK
                    rw [hbm] at M KM
                    clear hb hr B2 K4 kq0 kq1 kq2 kq3
                    by_cases hx0 : x < 0
                    · have d0 : decide (0 ≤ x) = false := decide_eq_false (by omega)
                      have FT := Lib.hid (show N' * D ≤ N * D' by have := FA.out; rw [qN_neg S N hx0, qD_neg S D hx0] at this; exact this)
                      obtain ⟨mN, hmN⟩ : ∃ z, N = z := ⟨_, rfl⟩
                      obtain ⟨mD, hmD⟩ : ∃ z, D = z := ⟨_, rfl⟩
                      rw [hmN, hmD] at FT RM
                      clear hx0 FA hmN hmD
                      go_upto_region 34 with fail
                      (try rw [hbm]); (try rw [hwz])
                      clear hwz hbm
                      have b0 := KM.out.cell 0
                      have b1 := KM.out.cell 1
                      simp at b0 b1
                      have e0 := H.out.cell (k0 * 2)
                      have e1 := H.out.cell (k0 * 2 + 1)
                      rw [had_at f (by omega), F0.out] at e0
                      rw [had_at f (by omega), F1.out] at e1
                      have KEPT := Lib.hid (show ∀ w' : World, Below wz.heap.size wz w' → w'.cell? ⟨bm, 0, none⟩ = some (.slice m1 l1 q1) ∧ w'.cell? ⟨bm, 1, none⟩ = some (.slice m2 l2 q2) ∧ w'.cell? ⟨bh, k0 * 2, none⟩ = some (.slice an ln cn) ∧ w'.cell? ⟨bh, k0 * 2 + 1, none⟩ = some (.slice ab lb cb) from fun w' h => ⟨cell_on h b0, cell_on h b1, cell_on h e0, cell_on h e1⟩)
                      have BL := Lib.hid (show Below wz.heap.size wz wz.drew from (Below.refl wz.heap.size wz).drew)
                      clear b0 b1 e0 e1
                      go_region_held3 (fun w' => w'.cell? ⟨bm, 0, none⟩ = some (.slice m1 l1 q1) ∧ w'.cell? ⟨bm, 1, none⟩ = some (.slice m2 l2 q2) ∧ w'.cell? ⟨bh, k0 * 2, none⟩ = some (.slice an ln cn) ∧ w'.cell? ⟨bh, k0 * 2 + 1, none⟩ = some (.slice ab lb cb))
                        (with_reducible exact KEPT.out _ BL.out)
                        (first
                          | (go_at_call 25; (with_reducible refine (m13held x (M.out.next BL.out) (by have := HL2.out; omega) N' D' HH.out).mono ?_); rintro e wh ⟨vh, nh, dh, rfl, hr, hlo, he, hb⟩; have RH := Lib.hid hr; have DH := Lib.hid hlo.2.1; have EH := Lib.hid he; clear hr hlo he; have BL := Lib.hid (below_next BL.out hb); clear hb)
                          | (go_at_call 24; (with_reducible refine (rcmp_any _ _ nh dh mN mD 0 _ 14 1 _ RH.out (RM.out.below BL.out) (by omega)).mono ?_); rintro e wc1 ⟨rfl, hb⟩; have t1 := cmp_within (held_within DP.out DH.out EH.out FT.out); obtain ⟨kc, hkc⟩ : ∃ k, cmpI (nh * mD) (mN * dh) = k := ⟨_, rfl⟩; rw [hkc] at t1 ⊢; clear hkc; have BL := Lib.hid (below_next BL.out hb); clear hb)
                          | (go_at_call 24; (with_reducible refine (rcmp_any _ _ nh dh nk dk 0 0 14 14 _ RH.out (RK.out.below BL.out) (by omega)).mono ?_); rintro e wc2 ⟨rfl, hb⟩; rw [cmp_same (held_same DP.out EH.out EK.out)]; have BL := Lib.hid (below_next BL.out hb); clear hb))
                      all_goals
                        go_wp2
                        have wx := HX.out
                        go_roundw
                        case rel => exact ⟨x + 1, by go_num, by omega, by omega, (M.out.next BL.out).less (fun _ q => .inl q), H.out.below BL.out, fun j hj => (HV.out j hj).nums (NumsKept.below BL.out)⟩
                        case measure => simp [intOf]; omega
                    · have d0 : decide (0 ≤ x) = true := decide_eq_true (by omega)
                      obtain ⟨j0, rfl⟩ : ∃ j0 : Nat, x = (j0 : Int) := ⟨x.toNat, by omega⟩
                      have jl : j0 < S.length := by have := LS.out; omega
                      obtain ⟨⟨par, mN, mD⟩, hsv⟩ : ∃ sv, S[j0]? = some sv := ⟨_, List.getElem?_eq_getElem jl⟩
                      have FT := Lib.hid (show N' * mD ≤ mN * D' by have := FA.out; unfold qN qD at this; rw [if_neg hx0, if_neg hx0, Int.toNat_natCast, hsv] at this; exact this)
                      have ge := G2.out.sv.each j0 _ hsv
                      obtain ⟨bs, os, hsa, hat⟩ := (RS.out.below (M.out.below)).at hsv
                      subst hsa
                      have y1 := hat.c1
                      have y2 := hat.c2
                      have E0 := Lib.hid (show (0 ≤ mN ∧ mN < 4294967296) ∧ 0 ≤ mD ∧ mD < 4294967296 by have h := ge.2.2; simp only at h; omega)
                      have j1 : (j0 : Int) < (n : Int) := hx
                      have j2 : 0 ≤ (j0 : Int) := by omega
                      simp only at y1 y2
                      have b0 := KM.out.cell 0
                      have b1 := KM.out.cell 1
                      simp at b0 b1
                      clear hsv ge hat FA hx0
                      go_wp2_with fail
                      (try rw [hbm]); (try rw [hwz])
                      clear hwz hbm
                      refine (rof_any mN mD _ E0.out.1.1 E0.out.1.2 E0.out.2.1 E0.out.2.2).mono ?_
                      rintro e wo ⟨v, rfl, hr, hb⟩
                      obtain ⟨m3, l3, q3, z3, m4, l4, q4, z4, rfl, _⟩ := _root_.id hr
                      have KM := Lib.hid (KM.out.below hb)
                      have M := Lib.hid (M.out.next hb)
                      have H := Lib.hid (H.out.below hb)
                      have ST := Lib.hid (box_store KM.out (.slice m3 l3 q3) (.slice m4 l4 q4))
                      have RM := Lib.hid (ST.out.2.1 _ _ _ _ _ hr)
                      have HV := Lib.hid (show ∀ j : Nat, j < n + 1 → HadV _ f S hs j from fun j hj => ((HV.out j hj).nums (NumsKept.below hb)).nums ST.out.2.1)
                      have RK := Lib.hid (ST.out.2.1 _ _ _ _ _ (RK.out.below hb))
                      have M := Lib.hid (M.out.wrote (G' := fun k => k = bh ∨ k = bm) (ST.out.2.2.more (fun k q => .inr q)) (fun k q => .inl q) (fun k q => Nat.lt_of_lt_of_le (M.out.lies k q) ST.out.2.2.size))
                      have H := Lib.hid (H.out.keeps ST.out.2.2 (fun e => by have := BM.out; omega))
                      have b0 := KM.out.cell 0
                      have b1 := KM.out.cell 1
                      simp at b0 b1
                      have b2 := KM.out.free 0
                      have b3 := KM.out.free 1
                      have KM := Lib.hid ST.out.1
                      clear hb hr y1 y2 ST
                      go_upto_region 34 with fail
                      clear b0 b1 b2 b3
                      obtain ⟨wz, hwz⟩ : ∃ z, (wo.setCell ⟨bm, 0, none⟩ (.slice m3 l3 q3)).setCell ⟨bm, 1, none⟩ (.slice m4 l4 q4) = z := ⟨_, rfl⟩
                      rw [hwz] at M KM RM H HV RK
                      (try rw [hwz])
                      clear hwz
                      have b0 := KM.out.cell 0
                      have b1 := KM.out.cell 1
                      simp at b0 b1
                      have e0 := H.out.cell (k0 * 2)
                      have e1 := H.out.cell (k0 * 2 + 1)
                      rw [had_at f (by omega), F0.out] at e0
                      rw [had_at f (by omega), F1.out] at e1
                      have KEPT := Lib.hid (show ∀ w' : World, Below wz.heap.size wz w' → w'.cell? ⟨bm, 0, none⟩ = some (.slice m3 l3 q3) ∧ w'.cell? ⟨bm, 1, none⟩ = some (.slice m4 l4 q4) ∧ w'.cell? ⟨bh, k0 * 2, none⟩ = some (.slice an ln cn) ∧ w'.cell? ⟨bh, k0 * 2 + 1, none⟩ = some (.slice ab lb cb) from fun w' h => ⟨cell_on h b0, cell_on h b1, cell_on h e0, cell_on h e1⟩)
                      have BL := Lib.hid (show Below wz.heap.size wz wz.drew from (Below.refl wz.heap.size wz).drew)
                      clear b0 b1 e0 e1
                      go_region_held3 (fun w' => w'.cell? ⟨bm, 0, none⟩ = some (.slice m3 l3 q3) ∧ w'.cell? ⟨bm, 1, none⟩ = some (.slice m4 l4 q4) ∧ w'.cell? ⟨bh, k0 * 2, none⟩ = some (.slice an ln cn) ∧ w'.cell? ⟨bh, k0 * 2 + 1, none⟩ = some (.slice ab lb cb))
                        (with_reducible exact KEPT.out _ BL.out)
                        (first
                          | (go_at_call 25; (with_reducible refine (m13held (j0 : Int) (M.out.next BL.out) (by have := HL2.out; omega) N' D' HH.out).mono ?_); rintro e wh ⟨vh, nh, dh, rfl, hr, hlo, he, hb⟩; have RH := Lib.hid hr; have DH := Lib.hid hlo.2.1; have EH := Lib.hid he; clear hr hlo he; have BL := Lib.hid (below_next BL.out hb); clear hb)
                          | (go_at_call 24; (with_reducible refine (rcmp_any _ _ nh dh mN mD 0 _ 14 1 _ RH.out (RM.out.below BL.out) (by omega)).mono ?_); rintro e wc1 ⟨rfl, hb⟩; have t1 := cmp_within (held_within DP.out DH.out EH.out FT.out); obtain ⟨kc, hkc⟩ : ∃ k, cmpI (nh * mD) (mN * dh) = k := ⟨_, rfl⟩; rw [hkc] at t1 ⊢; clear hkc; have BL := Lib.hid (below_next BL.out hb); clear hb)
                          | (go_at_call 24; (with_reducible refine (rcmp_any _ _ nh dh nk dk 0 0 14 14 _ RH.out (RK.out.below BL.out) (by omega)).mono ?_); rintro e wc2 ⟨rfl, hb⟩; rw [cmp_same (held_same DP.out EH.out EK.out)]; have BL := Lib.hid (below_next BL.out hb); clear hb))
                      all_goals
                        go_wp2
                        have wx := HX.out
                        go_roundw
                        case rel => exact ⟨(j0 : Int) + 1, by go_num, by omega, by omega, (M.out.next BL.out).less (fun _ q => .inl q), H.out.below BL.out, fun j hj => (HV.out j hj).nums (NumsKept.below BL.out)⟩
                        case measure => simp [intOf]; omega
                  · have t9 : decide (x < (n : Int)) = false := decide_eq_false hx
                    have wi : IntKind.i64.wrap ((i : Int) + 1) = (i : Int) + 1 := IntWalk.i64_in _ (by omega)
                    go_wp2
                    go_roundw
                    case rel => exact ⟨i + 1, hs, f, by go_num, by omega, by omega, INN.out, M.out, H.out, SL.out⟩
                    case measure => simp [intOf]; omega
    · have HE := Lib.hid d1
      have BE := Lib.hid (below_next B.out M.out.below)
      clear d1
      go_wp2
      all_goals first | (exfalso; have := HE.out; omega) | skip
      all_goals
        go_ret
        exact ⟨rfl, BE.out⟩
end Go.Proofs.YtbonilmlfelmpaaGreat
