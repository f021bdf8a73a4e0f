/-
  The walk of QuotaBack. (Written by wip/tools/gen/qe6.py.)
-/
import Derived.Test.YtbonilmlfelmpaaGreatQe5
import Derived.Deep.CutBlock
import Derived.Deep.DeepCutAuto
import Derived.BigQuiet
namespace Go.Proofs.YtbonilmlfelmpaaGreat
open Go.RowKit

set_option maxRecDepth 20000 in
set_option maxHeartbeats 16000000 in
theorem qback_walk (pa : Option Addr) (pl pc : Nat) (zs : List Int) (qa : Option Addr) (ql qc : Nat) (qs : List (Int × Int)) (a b : Int) (ad : Option Addr) (len cap : Nat) (rs : List (List Value)) (y1 y2 so2 y4 y5 : Int) (w : World) (hp : Row .i64 w pa pl pc zs) (hq : RowP w qa ql qc qs) (hL : RowF w ad len cap 5 rs) (hG : ∀ r ∈ rs, Fit [.int .i64, .int .i64, .int .i64, .int .i64, .int .i64] r) :
    Calls Tryz.prog 5 #[.agg #[.slice pa pl pc, .slice qa ql qc, .int .i64 a, .int .i64 b], .slice ad len cap, .agg #[.int .i64 y1, .int .i64 y2, .int .i64 so2, .int .i64 y4, .int .i64 y5]] w fun e w' => e = .returned (.bool true) ∧ Below w.heap.size w w' := by
  obtain ⟨W1, hW1⟩ : ∃ W1, (w.alloc (.cells #[.slice pa pl pc, .slice qa ql qc, .int .i64 a, .int .i64 b] 26)).alloc (.cells #[.int .i64 y1, .int .i64 y2, .int .i64 so2, .int .i64 y4, .int .i64 y5] 42) = W1 := ⟨_, rfl⟩
  obtain ⟨gp, hgp⟩ : ∃ z, w.heap.size + 1 = z := ⟨_, rfl⟩
  have B1 := Lib.hid (show Below w.heap.size w W1 by rw [← hW1]; exact wbox2 _ _ _)
  have K := Lib.hid (show Blk W1 26 w.heap.size #[.slice pa pl pc, .slice qa ql qc, .int .i64 a, .int .i64 b] by rw [← hW1]; exact (Blk.new _ _ _).alloc _)
  have KO := Lib.hid (show Blk W1 42 gp #[.int .i64 y1, .int .i64 y2, .int .i64 so2, .int .i64 y4, .int .i64 y5] by rw [← hW1, ← hgp]; exact Blk.new2 _ _ _ _)
  have P := Lib.hid hp
  have Q := Lib.hid hq
  have ZL := Lib.hid (fun (i : Nat) (hi : i < len) => steps5_at hL hG hi)
  have ⟨lc1, lc2⟩ := hL.cap_le
  clear hp hq hL hG
  obtain ⟨n, hn⟩ : ∃ n, min pl 8 = n := ⟨_, rfl⟩
  have HN := Lib.hid hn
  have N8 := Lib.hid (show n ≤ 8 by omega)
  obtain ⟨S, hS⟩ : ∃ S, servV zs qs n = S := ⟨_, rfl⟩
  have GS := Lib.hid (show GoodSv S by rw [← hS]; exact servV_good zs qs (n := n) (by omega))
  have LS := Lib.hid (show S.length = n by rw [← hS]; exact servV_len zs qs n)
  have HS := Lib.hid hS
  obtain ⟨⟨N, D⟩, hall⟩ : ∃ r, allV a b = r := ⟨_, rfl⟩
  have AB := Lib.hid (allV_bd a b)
  rw [hall] at AB
  have HA := Lib.hid hall
  clear hn hall hS
  go_enter Tryz.func5, Tryz.ntmps5
  go_wp2_with fail
  (try rw [hgp])
  (try rw [hW1])
  clear hW1 hgp
  refine (awake13_any _).mono ?_
  rintro e w2 ⟨rfl, hb⟩
  have B := Lib.hid (below_next B1.out hb)
  have K := Lib.hid (K.out.below hb)
  have KO := Lib.hid (KO.out.below hb)
  have k0 := K.out.cell 0
  have k1 := K.out.cell 1
  have k2 := K.out.cell 2
  have k3 := K.out.cell 3
  simp at k0 k1 k2 k3
  clear hb B1
  go_wp2_with fail
  refine (servers_any pa pl pc zs qa ql qc qs a b _ (P.out.below B.out) (Q.out.below B.out) n HN.out).mono ?_
  rintro e w3 ⟨sa, sc, rfl, hs, hf, hb⟩
  rw [HS.out] at hs
  have RS := Lib.hid hs
  have K := Lib.hid (K.out.below hb)
  have KO := Lib.hid (KO.out.below hb)
  have B := Lib.hid (below_next B.out hb)
  have ⟨cs1, cs2⟩ := RowF.cap_le hs
  clear hb hs hf k0 k1 k2 k3
  have k0 := K.out.cell 0
  have k1 := K.out.cell 1
  have k2 := K.out.cell 2
  have k3 := K.out.cell 3
  simp at k0 k1 k2 k3
  go_wp2_with fail
  refine (all13_any pa pl pc qa ql qc a b _ N D HA.out).mono ?_
  rintro e w4 ⟨v, rfl, hr, hb⟩
  have V := Lib.hid hr
  have RS := Lib.hid (RS.out.below hb)
  have KO := Lib.hid (KO.out.below hb)
  have B := Lib.hid (below_next B.out hb)
  clear hb hr k0 k1 k2 k3 K
  go_wp2_with fail
  refine (m13new (G := G0q) v N D 1 _ sa n sc S w4 w4 (Below.refl _ _) V.out (by omega) (by have := AB.out; omega) RS.out GS.out (fun _ q => q.elim) (fun _ q => q.elim)).mono ?_
  rintro e w5 ⟨g, rfl, hm, hb⟩
  have M := Lib.hid hm
  clear hm hb V
  go_upto_block 0 with fail
  go_cut [10] (fun s10 wx => ∃ (i : Nat) (hs : List Hq), s10 = .int .i64 (i : Int) ∧ IdsQ 16 hs ∧ Mine13 w4 G0q g S N D hs wx)
  case first =>
    as_aux_lemma =>
      go_wp2
      go_loopw [10] (fun u wr => ∃ (i : Nat) (hs : List Hq), u = .int .i64 (i : Int) ∧ i ≤ len ∧ i ≤ 20 ∧ IdsQ 16 hs ∧ Mine13 w4 G0q g S N D hs wr) (fun u _ => len - (intOf u).toNat)
      case atStart => exact ⟨0, [], rfl, by omega, by omega, IdsQ.nil 16, M.out⟩
      case round =>
        obtain ⟨i, hs, rfl, il, i20, hids, hm⟩ := hrel
        clear M
        have M := Lib.hid hm
        have IDS := Lib.hid hids
        have HLn := Lib.hid (idsq_len 16 hm.good.uniq hids)
        clear hm hids
        by_cases d1 : i < len ∧ i < 20
        · have b1 : decide (i < len) = true := by simp; omega
          have b2 : decide ((i : Int) < (len : Int)) = true := by simp; omega
          have b3 : decide ((i : Int) < 20) = true := by simp; omega
          have b3n : decide (i < 20) = true := by simp; omega
          obtain ⟨bl, ol, k, id, so, p, q, rfl, c0, c1, c2, c3, c4, sw⟩ := ZL.out i d1.1
          have bw := below_next B.out M.out.below
          replace c0 := cell_on bw c0; replace c1 := cell_on bw c1; replace c2 := cell_on bw c2; replace c3 := cell_on bw c3; replace c4 := cell_on bw c4
          have i1 : (i : Int) < (len : Int) := by omega
          have i2 : 0 ≤ (i : Int) := by omega
          have i15 := mask15 id
          obtain ⟨ii, hii⟩ : ∃ k', bits .and .i64 id 15 = k' := ⟨_, rfl⟩
          rw [hii] at i15
          have HI := Lib.hid hii
          have IB := Lib.hid (show 0 ≤ ii ∧ ii < 16 by omega)
          obtain ⟨⟨mE, mP⟩, hmk⟩ : ∃ x, mkM (p, q) = x := ⟨_, rfl⟩
          have MK := Lib.hid hmk
          have hm1 := Int.tmod_lt_of_pos so (show (0 : Int) < 10 by omega)
          have hm2 : -10 < so.tmod 10 := by
            have := Int.tmod_lt_of_pos (-so) (show (0 : Int) < 10 by omega)
            rw [Int.neg_tmod] at this
            omega
          have wq : IntKind.i64.wrap (so.tmod 10 + 10) = so.tmod 10 + 10 := IntWalk.i64_in _ (by omega)
          obtain ⟨s, hs0⟩ : ∃ s, so.tmod 10 % 10 - 2 = s := ⟨_, rfl⟩
          have wp : IntKind.i64.wrap (so.tmod 10 % 10 - 2) = s := by rw [hs0]; exact IntWalk.i64_in _ (by omega)
          have WT := Lib.hid (show IntKind.i64.wrap ((so.tmod 10 + 10).tmod 10 - 2) = s by rw [Int.tmod_eq_emod_of_nonneg (show 0 ≤ so.tmod 10 + 10 by omega), Int.add_emod_right]; exact wp)
          have d2 : i < 20 := d1.2
          have d3 : i < len := d1.1
          clear d1 bw i15 hmk hs0
          have M := Lib.hid ((M.out.own1 (.cells #[.int .i64 k, .int .i64 id, .int .i64 so, .int .i64 p, .int .i64 q] 42)).less (G' := fun k => k = wr.heap.size) (fun k q => .inr q))
          have Ko := Lib.hid (Blk.new wr 42 #[.int .i64 k, .int .i64 id, .int .i64 so, .int .i64 p, .int .i64 q])
          obtain ⟨go, hgo⟩ : ∃ g, wr.heap.size = g := ⟨_, rfl⟩
          obtain ⟨w7, hw7⟩ : ∃ x, wr.alloc (.cells #[.int .i64 k, .int .i64 id, .int .i64 so, .int .i64 p, .int .i64 q] 42) = x := ⟨_, rfl⟩
          rw [hgo, hw7] at M
          rw [hgo, hw7] at Ko
          have o0 := Ko.out.cell 0
          have o1 := Ko.out.cell 1
          have o2 := Ko.out.cell 2
          have o3 := Ko.out.cell 3
          have o4 := Ko.out.cell 4
          simp at o0 o1 o2 o3 o4
          go_upto_region 10 with fail
          (try rw [hgo])
          (try rw [hw7])
          clear hw7 hgo c0 c1 c2 c3 c4 o0 o1 o2 o3 o4
          obtain ⟨⟨c', hs'⟩, hst⟩ : ∃ x, joinQ S N D hs ii s mE mP = x := ⟨_, rfl⟩
          have INN := Lib.hid (show IdsQ 16 hs' by have := joinq_in (S := S) (N := N) (D := D) (s := s) (E := mE) (P := mP) IDS.out IB.out; rw [hst] at this; exact this)
          have HST := Lib.hid hst
          clear hst
          have M := Lib.hid (M.out.next ((Below.refl _ _).drew))
          have Ko := Lib.hid (Ko.out.below ((Below.refl _ _).drew))
          have KC := Lib.hid (show ∀ w' : World, Blk w' 42 go #[.int .i64 k, .int .i64 id, .int .i64 so, .int .i64 p, .int .i64 q] → w'.cell? ⟨go, 0, none⟩ = some (.int .i64 k) ∧ w'.cell? ⟨go, 1, none⟩ = some (.int .i64 id) ∧ w'.cell? ⟨go, 2, none⟩ = some (.int .i64 so) ∧ w'.cell? ⟨go, 3, none⟩ = some (.int .i64 p) ∧ w'.cell? ⟨go, 4, none⟩ = some (.int .i64 q) from fun _ h => ⟨h.cell 0, h.cell 1, h.cell 2, h.cell 3, h.cell 4⟩)
          go_region_held3 (fun w' => w'.cell? ⟨go, 0, none⟩ = some (.int .i64 k) ∧ w'.cell? ⟨go, 1, none⟩ = some (.int .i64 id) ∧ w'.cell? ⟨go, 2, none⟩ = some (.int .i64 so) ∧ w'.cell? ⟨go, 3, none⟩ = some (.int .i64 p) ∧ w'.cell? ⟨go, 4, none⟩ = some (.int .i64 q))
            (with_reducible exact KC.out _ Ko.out)
            (first
              | (go_at_call 11; (with_reducible refine (weight13_any k id so p q _ mE mP MK.out).mono ?_); rintro e wa ⟨rfl, hb⟩; have M := Lib.hid (M.out.next hb); have Ko := Lib.hid (Ko.out.below hb); clear hb)
              | (go_at_call 20; rw [WT.out]; (try rw [HI.out]); (with_reducible refine (m13join ii s mE mP M.out (by have := HLn.out; omega) c' hs' HST.out).mono ?_); rintro e wb ⟨rfl, hm, hh, hn⟩; have M := Lib.hid hm; have Ko := Lib.hid (hh.blk Ko.out rfl); clear hm hh hn))
          all_goals
            have wi : IntKind.i64.wrap ((i : Int) + 1) = (i : Int) + 1 := IntWalk.i64_in _ (by omega)
            go_wp2
            go_roundw
            case rel => exact ⟨i + 1, hs', by go_num, by omega, by omega, INN.out, M.out.less (fun _ q => q.elim)⟩
            case measure => simp [intOf]; omega
        · have HE := Lib.hid d1
          clear d1
          go_wp2
          all_goals first | (exfalso; have := HE.out; omega) | skip
          all_goals
            go_meet
            exact ⟨i, hs, rfl, IDS.out, M.out⟩
  case rest =>
    obtain ⟨i, hs, rfl, hids, hm⟩ := hcut
    clear M
    have IDS := Lib.hid hids
    have HLn := Lib.hid (idsq_len 16 hm.good.uniq hids)
    have H := Lib.hid (show Blk (wc.alloc (.cells #[.slice none 0 0, .slice none 0 0, .slice none 0 0, .slice none 0 0, .slice none 0 0, .slice none 0 0, .slice none 0 0, .slice none 0 0, .slice none 0 0, .slice none 0 0, .slice none 0 0, .slice none 0 0, .slice none 0 0, .slice none 0 0, .slice none 0 0, .slice none 0 0, .slice none 0 0, .slice none 0 0] 58)) 58 wc.heap.size (had18 f0H) from Blk.new _ _ _)
    have M := Lib.hid ((hm.own1 (.cells #[.slice none 0 0, .slice none 0 0, .slice none 0 0, .slice none 0 0, .slice none 0 0, .slice none 0 0, .slice none 0 0, .slice none 0 0, .slice none 0 0, .slice none 0 0, .slice none 0 0, .slice none 0 0, .slice none 0 0, .slice none 0 0, .slice none 0 0, .slice none 0 0, .slice none 0 0, .slice none 0 0] 58)).less (G' := fun k => k = wc.heap.size) (fun k q => .inr q))
    clear hm hids ZL
    obtain ⟨bh, hbh⟩ : ∃ z, wc.heap.size = z := ⟨_, rfl⟩
    obtain ⟨w7, hw7⟩ : ∃ z, wc.alloc (.cells #[.slice none 0 0, .slice none 0 0, .slice none 0 0, .slice none 0 0, .slice none 0 0, .slice none 0 0, .slice none 0 0, .slice none 0 0, .slice none 0 0, .slice none 0 0, .slice none 0 0, .slice none 0 0, .slice none 0 0, .slice none 0 0, .slice none 0 0, .slice none 0 0, .slice none 0 0, .slice none 0 0] 58) = z := ⟨_, rfl⟩
    rw [hbh, hw7] at H M
    go_wp2
    (try rw [hbh]); (try rw [hw7])
    clear hbh hw7
    go_loopw [13] (fun u wy => ∃ (c : Int) (f : Nat → Value), u = .int .i64 c ∧ -1 ≤ c ∧ c ≤ (n : Int) ∧ Mine13 w4 (fun k => k = bh) g S N D hs wy ∧ Blk wy 58 bh (had18 f) ∧ Slices f ∧ ∀ j : Nat, j < (c + 1).toNat → HadV wy f S hs j) (fun u _ => ((n : Int) - intOf u).toNat)
    case atStart => exact ⟨-1, f0H, rfl, by omega, by omega, M.out, H.out, slices0, fun j hj => by simp at hj⟩
    case round =>
      obtain ⟨c, f, rfl, cl, cn, hm, hh1, hsl, hhv⟩ := hrel
      clear M H
      have M := Lib.hid hm
      have H := Lib.hid hh1
      have SL := Lib.hid hsl
      have HV := Lib.hid hhv
      clear hm hh1 hsl hhv
      by_cases hcn : c < (n : Int)
      · have t9 : decide (c < (n : Int)) = true := decide_eq_true hcn
        obtain ⟨k0, hk0⟩ : ∃ z : Nat, (c + 1).toNat = z := ⟨_, rfl⟩
        have n8 := N8.out
        have wc : IntKind.i64.wrap (c + 1) = (k0 : Int) := by rw [IntWalk.i64_in _ (by omega)]; omega
        have g1 : (k0 : Int) < 9 := by omega
        have g2 : 0 ≤ (k0 : Int) := by omega
        obtain ⟨⟨N', D'⟩, hheld⟩ : ∃ z, heldQ S c hs = z := ⟨_, rfl⟩
        have HH := Lib.hid hheld
        rw [hk0] at HV
        have CK := Lib.hid (show c = (k0 : Int) - 1 by omega)
        clear hheld n8
        go_wp2_with fail
        refine (m13held c M.out (by have := HLn.out; omega) N' D' HH.out).mono ?_
        rintro e w8 ⟨v8, n8, d8, rfl, hr, hlo, he, hb⟩
        obtain ⟨a1, l1, q1, z1, a2, l2, q2, z2, rfl, _⟩ := _root_.id hr
        have M := Lib.hid (M.out.next hb)
        have H := Lib.hid (H.out.below hb)
        have HV := Lib.hid (show ∀ j : Nat, j < k0 → HadV w8 f S hs j from fun j hj => (HV.out j hj).nums (NumsKept.below hb))
        have R8 := Lib.hid hr
        have E8 := Lib.hid he
        have ST := Lib.hid (had_store H.out SL.out (show k0 < 9 by omega) (.slice a1 l1 q1) (.slice a2 l2 q2))
        have o0 := H.out.cell (k0 * 2)
        have o1 := H.out.cell (k0 * 2 + 1)
        rw [had_at f (by omega)] at o0 o1
        have x0 := H.out.free (k0 * 2)
        have x1 := H.out.free (k0 * 2 + 1)
        have HV2 := Lib.hid (HadV.put HV.out ST.out.2.1 R8.out (by rw [← CK.out]; exact HH.out) E8.out)
        have M2 := Lib.hid (M.out.wrote (G' := fun k => k = bh) ST.out.2.2 (fun k q => .inl q) (fun k q => Nat.lt_of_lt_of_le (M.out.lies k q) ST.out.2.2.size))
        have wc2 : IntKind.i64.wrap (c + 1) = c + 1 := IntWalk.i64_in _ (by omega)
        have CK2 := Lib.hid (show (c + 1 + 1).toNat = k0 + 1 by omega)
        have SL2 := Lib.hid (SL.out.put k0 (a := a1) (l := l1) (c := q1) (b := a2) (m := l2) (d := q2))
        clear hr hlo he hb hk0
        go_wp2
        go_roundw
        case rel => exact ⟨c + 1, _, by rw [← wc2]; first | rfl | (rw [wc]), by omega, by omega, M2.out, ST.out.1, SL2.out, by rw [CK2.out]; exact HV2.out⟩
        case measure => simp [intOf]; omega
      · have t9 : decide (c < (n : Int)) = false := decide_eq_false hcn
        have HV := Lib.hid (show ∀ j : Nat, j < n + 1 → HadV _ f S hs j from fun j hj => HV.out j (by omega))
        clear hcn cl cn
        have KO := Lib.hid (KO.out.below M.out.below)
        have o0 := KO.out.cell 0
        have o1 := KO.out.cell 1
        have o2 := KO.out.cell 2
        have o3 := KO.out.cell 3
        have o4 := KO.out.cell 4
        simp at o0 o1 o2 o3 o4
        have hm1 := Int.tmod_lt_of_pos so2 (show (0 : Int) < 10 by omega)
        have hm2 : -10 < so2.tmod 10 := by
          have := Int.tmod_lt_of_pos (-so2) (show (0 : Int) < 10 by omega)
          rw [Int.neg_tmod] at this
          omega
        have wq : IntKind.i64.wrap (so2.tmod 10 + 10) = so2.tmod 10 + 10 := IntWalk.i64_in _ (by omega)
        obtain ⟨s, hs0⟩ : ∃ s, so2.tmod 10 % 10 - 2 = s := ⟨_, rfl⟩
        have wp : IntKind.i64.wrap (so2.tmod 10 % 10 - 2) = s := by rw [hs0]; exact IntWalk.i64_in _ (by omega)
        clear hs0
        go_wp2_with fail
        refine (m13path s M.out).mono ?_
        rintro e w6 ⟨pp, plen, pcap, rfl, hr, hfr, hb⟩
        have ⟨cp1, cp2⟩ := hr.cap_le
        obtain ⟨bq, hbq⟩ : ∃ z, wr.heap.size = z := ⟨_, rfl⟩
        rw [hbq] at hfr
        have M := Lib.hid (M.out.wrote (Keeps.of hb) (G' := fun k => k = bh ∨ Rng bq w6.heap.size k) (fun k q => q.elim .inl (fun z => .inr (by have := z.1; omega))) (fun k q => q.elim (fun z => Nat.lt_of_lt_of_le (M.out.lies k z) hb.size) (fun z => z.2)))
        have H := Lib.hid (H.out.below hb)
        have HV := Lib.hid (show ∀ j : Nat, j < n + 1 → HadV _ f S hs j from fun j hj => (HV.out j hj).nums (NumsKept.below hb))
        have PR0 := Lib.hid (show ∀ W : World, Holds (Rng bq w6.heap.size) w6 W → Row .i64 W pp plen pcap (pathQ S s) from fun W h => hr.rng hfr (Nat.le_refl _) h)
        have HX := Lib.hid (Holds.refl (Rng bq w6.heap.size) w6)
        have PLEN := Lib.hid hr.len
        clear hb hr hfr hbq hm1 hm2 o0 o1 o2 o3 o4 wp wq
        obtain ⟨⟨c', hs1⟩, hst⟩ : ∃ x, joinQ S N D hs 77 s 1 4 = x := ⟨_, rfl⟩
        have HST := Lib.hid hst
        have REF := Lib.hid (show c' = 0 ∨ hs1 = hs by have := joinq_refused S N D hs 77 s 1 4; rw [hst] at this; exact this)
        clear hst
        go_wp2_with fail
        refine (m13join 77 s 1 4 M.out (by have := HLn.out; omega) c' hs1 HST.out).mono ?_
        rintro e wb ⟨rfl, hm, hh, hnk⟩
        have M := Lib.hid hm
        have H := Lib.hid (hh.blk H.out (.inl rfl))
        have HV := Lib.hid (show ∀ j : Nat, j < n + 1 → HadV _ f S hs j from fun j hj => (HV.out j hj).nums hnk)
        have HX := Lib.hid (HX.out.trans (hh.less (fun _ q => .inr q)))
        clear hm hh hnk
        by_cases c0 : c' = 0
        · obtain ⟨hhb, rfl, hfp⟩ := joinq_ok IDS.out HST.out c0
          have HB := Lib.hid (has_is.mp hhb)
          have FP := Lib.hid hfp
          subst c0
          clear REF HST hhb hfp
          go_wp2_with fail
          refine (m13ask 77 1 8 M.out (by have := HLn.out; simp; omega) 0 _ (askq_ok M.out.good.uniq FP.out)).mono ?_
          rintro e wq1 ⟨rfl, hm, hh, hnk⟩
          have M := Lib.hid hm
          have H := Lib.hid (hh.blk H.out (.inl rfl))
          have HV := Lib.hid (show ∀ j : Nat, j < n + 1 → HadV _ f S hs j from fun j hj => (HV.out j hj).nums hnk)
          have HX := Lib.hid (HX.out.trans (hh.less (fun _ q => .inr q)))
          clear hm hh hnk
          go_wp2_with fail
          refine (m13settle 77 M.out (by have := HLn.out; simp; omega) 0 _ (settleq_ok M.out.good.uniq)).mono ?_
          rintro e wq2 ⟨rfl, hm, hh, hnk⟩
          have M := Lib.hid hm
          have H := Lib.hid (hh.blk H.out (.inl rfl))
          have HV := Lib.hid (show ∀ j : Nat, j < n + 1 → HadV _ f S hs j from fun j hj => (HV.out j hj).nums hnk)
          have HX := Lib.hid (HX.out.trans (hh.less (fun _ q => .inr q)))
          clear hm hh hnk
          have PQ := Lib.hid (show pathQ S s = pathV S s from if_pos (has_is.mpr HB.out))
          have BDS := Lib.hid (path_bd GS.out s HB.out.1 HB.out.2)
          rw [PQ.out] at PR0 PLEN
          obtain ⟨pv, hpv⟩ : ∃ z, pathV S s = z := ⟨_, rfl⟩
          have PV := Lib.hid hpv
          rw [hpv] at PR0 PLEN BDS
          clear hpv
          go_wp2
          go_loopw [19] (fun u wy => ∃ i : Nat, u = .int .i64 (i : Int) ∧ i ≤ plen ∧ Mine13 w4 (fun k => k = bh ∨ Rng bq w6.heap.size k) g S N D (hs ++ [newQ s 77 1 8]) wy ∧ Blk wy 58 bh (had18 f) ∧ (∀ j : Nat, j < n + 1 → HadV wy f S hs j) ∧ Holds (Rng bq w6.heap.size) w6 wy) (fun u _ => plen - (intOf u).toNat)
          case atStart => exact ⟨0, rfl, by omega, M.out, H.out, HV.out, HX.out⟩
          case round =>
            obtain ⟨i, rfl, il, hm, hh1, hhv, hhx⟩ := hrel
            clear M H HV HX
            have M := Lib.hid hm
            have H := Lib.hid hh1
            have HV := Lib.hid hhv
            have HX := Lib.hid hhx
            clear hm hh1 hhv hhx
            by_cases hi : i < plen
            · have t1 : decide (i < plen) = true := decide_eq_true hi
              have t2 : decide ((i : Int) < (plen : Int)) = true := decide_eq_true (by omega)
              obtain ⟨bp, op, hpp, hcell⟩ := (PR0.out _ HX.out).cell hi
              subst hpp
              obtain ⟨x, hx⟩ : ∃ x, pv.getD i 0 = x := ⟨_, rfl⟩
              rw [hx] at hcell
              have xm : x ∈ pv := by rw [← hx, List.getD_eq_getElem?_getD, List.getElem?_eq_getElem (by rw [PLEN.out]; exact hi)]; exact List.getElem_mem _
              have xb := BDS.out x xm
              have n8 := N8.out
              have ls := LS.out
              obtain ⟨k0, hk0⟩ : ∃ z : Nat, (x + 1).toNat = z := ⟨_, rfl⟩
              have wc : IntKind.i64.wrap (x + 1) = (k0 : Int) := by rw [IntWalk.i64_in _ (by omega)]; omega
              have HK := Lib.hid (show (k0 : Int) - 1 = x by omega)
              have g1 : (k0 : Int) < 9 := by omega
              have g2 : 0 ≤ (k0 : Int) := by omega
              have g3 : (i : Int) < (plen : Int) := by omega
              have g4 : 0 ≤ (i : Int) := by omega
              obtain ⟨an, ln, cn, ab, lb, cb, nk, dk, hf0, hf1, hrk, hek⟩ := HV.out k0 (by omega)
              obtain ⟨⟨N', D'⟩, hheld⟩ : ∃ z, heldQ S x hs = z := ⟨_, rfl⟩
              have DP := Lib.hid (show 0 < D' by
                have h := (sumH_frac (show ∀ y ∈ listAt S x hs, GoodH y from fun y hy => by obtain ⟨q, hq, rfl⟩ := listAt_sub S x hs y hy; exact M.out.good.each q (List.mem_append_left _ hq))).2
                unfold heldQ at hheld
                rw [if_pos (has_is.mpr ⟨xb.1, xb.2.2⟩)] at hheld
                rw [hheld] at h
                exact h)
              rw [HK.out, hheld] at hek
              have HH := Lib.hid (held_more (s := s) (by rw [PV.out]; exact xm) (has_is.mpr ⟨xb.1, xb.2.2⟩) hheld)
              have F0 := Lib.hid hf0
              have F1 := Lib.hid hf1
              have RK := Lib.hid hrk
              have EK := Lib.hid hek
              have e0 := H.out.cell (k0 * 2)
              have e1 := H.out.cell (k0 * 2 + 1)
              rw [had_at f (by omega), F0.out] at e0
              rw [had_at f (by omega), F1.out] at e1
              have C0 := Lib.hid hcell; have C1 := Lib.hid e0; have C2 := Lib.hid e1
              have KEPT := Lib.hid (show ∀ w' : World, Below wr.heap.size wr w' → w'.cell? ⟨bp, op + i, none⟩ = some (.int .i64 x) ∧ w'.cell? ⟨bh, k0 * 2, none⟩ = some (.slice an ln cn) ∧ w'.cell? ⟨bh, k0 * 2 + 1, none⟩ = some (.slice ab lb cb) from fun w' h => ⟨cell_on h C0.out, cell_on h C1.out, cell_on h C2.out⟩)
              have BB := Lib.hid (show Below wr.heap.size wr wr.drew from (Below.refl wr.heap.size wr).drew)
              have BX := Lib.hid (show Below wr.heap.size wr (wr.alloc (.cells #[.slice none 0 0, .slice none 0 0] 35)).drew from (wbox _ _).drew)
              have PA1 := Lib.hid (show Blk (wr.alloc (.cells #[.slice none 0 0, .slice none 0 0] 35)).drew 35 wr.heap.size #[.slice none 0 0, .slice none 0 0] from (Blk.new wr _ _).drew)
              clear hf0 hf1 hrk hek hheld hx xm xb n8 ls hk0 hcell e0 e1
              go_upto_region 26 with fail
              go_cut [20] (fun s20 wx => ∃ (bw : Nat) (m1 : Option Addr) (r1 p1 : Nat) (m2 : Option Addr) (r2 p2 : Nat), s20 = .pointer (some ⟨bw, 0, none⟩) ∧ Blk wx 35 bw #[.slice m1 r1 p1, .slice m2 r2 p2] ∧ Rat wx 0 16 (.agg #[.slice m1 r1 p1, .slice m2 r2 p2]) (nk * 8 + 1 * dk) (dk * 8) ∧ Below wr.heap.size wr wx)
              case first =>
                go_region_held3 (fun w' => w'.cell? ⟨bp, op + i, none⟩ = some (.int .i64 x) ∧ w'.cell? ⟨bh, k0 * 2, none⟩ = some (.slice an ln cn) ∧ w'.cell? ⟨bh, k0 * 2 + 1, none⟩ = some (.slice ab lb cb))
                  (first | (refine KEPT.out _ ?_; repeat (first | with_reducible exact BB.out | with_reducible exact BX.out | with_reducible exact below_next BB.out (wbox _ _) | (with_reducible refine Below.setCell ?_ ?_ _) | with_reducible exact Nat.le_refl _ | with_reducible exact BB.out.size | with_reducible exact LE.out)))
                  (first
                    | (go_at_call 29; (first
                        | ((with_reducible refine (one_from BB.out (by omega) (by omega) (by omega) (by omega)).mono ?_); rintro e wo ⟨vo, rfl, hro, hb0, hbo⟩; have RO := Lib.hid hro; have PA := Lib.hid PA1; have BB := Lib.hid hb0; clear hro hb0 hbo)
                        | ((with_reducible refine (one_from BX.out (by omega) (by omega) (by omega) (by omega)).mono ?_); rintro e wo ⟨vo, rfl, hro, hb0, hbo⟩; have RO := Lib.hid hro; have PA := Lib.hid (PA1.out.below hbo); have pa0 := PA.out.cell 0; have pa1 := PA.out.cell 1; have paf := PA.out.free; simp at pa0 pa1; have BB := Lib.hid hb0; clear hro hb0 hbo)))
                    | (go_at_call 28; (first
                        | ((with_reducible refine (plus_from BB.out (RK.out.below BB.out) RO.out).mono ?_); rintro e wp ⟨m1, r1, p1, m2, r2, p2, rfl, hrp, hb0, hbp⟩; have RP := Lib.hid hrp; (try (have PA := Lib.hid (PA.out.below hbp); have pa0 := PA.out.cell 0; have pa1 := PA.out.cell 1; have paf := PA.out.free; simp at pa0 pa1)); have qa0 := (Blk.new wp 35 #[.slice none 0 0, .slice none 0 0]).cell 0; have qa1 := (Blk.new wp 35 #[.slice none 0 0, .slice none 0 0]).cell 1; have qaf := (Blk.new wp 35 #[.slice none 0 0, .slice none 0 0]).free; simp at qa0 qa1; have BB := Lib.hid hb0; clear hrp hb0 hbp)
                        | ((with_reducible refine (plus_from (below_next BB.out (wbox wo (.cells #[.slice none 0 0, .slice none 0 0] 35))) (RK.out.below (below_next BB.out (wbox wo (.cells #[.slice none 0 0, .slice none 0 0] 35)))) (RO.out.below (wbox wo (.cells #[.slice none 0 0, .slice none 0 0] 35)))).mono ?_); rintro e wp ⟨m1, r1, p1, m2, r2, p2, rfl, hrp, hb0, hbp⟩; have RP := Lib.hid hrp; have PA := Lib.hid ((Blk.new wo 35 #[.slice none 0 0, .slice none 0 0]).below hbp); have pa0 := PA.out.cell 0; have pa1 := PA.out.cell 1; have paf := PA.out.free; simp at pa0 pa1; have LE := Lib.hid BB.out.size; have BB := Lib.hid hb0; clear hrp hb0 hbp))))
                all_goals
                  go_wp2_with fail
                  go_meet
                  first
                    | with_reducible exact ⟨wr.heap.size, m1, r1, p1, m2, r2, p2, rfl, (box_store PA.out _ _).1, (box_store PA.out _ _).2.1.rat RP.out, box_below BB.out (Nat.le_refl _)⟩
                    | with_reducible exact ⟨wo.heap.size, m1, r1, p1, m2, r2, p2, rfl, (box_store PA.out _ _).1, (box_store PA.out _ _).2.1.rat RP.out, box_below BB.out LE.out⟩
                    | with_reducible exact ⟨wp.heap.size, m1, r1, p1, m2, r2, p2, rfl, Blk.new wp _ _, RP.out.below (wbox wp _), below_next BB.out (wbox wp _)⟩
                    | with_reducible exact ⟨wp.heap.size, m1, r1, p1, m2, r2, p2, rfl, (box_store (Blk.new wp _ _) _ _).1, (box_store (Blk.new wp _ _) _ _).2.1.rat (RP.out.below (wbox wp _)), box_below (below_next BB.out (wbox wp _)) BB.out.size⟩
              case rest =>
                obtain ⟨bw, m1, r1, p1, m2, r2, p2, rfl, hbk, hrw, hbel⟩ := hcut
                have M := Lib.hid (M.out.next hbel)
                have H := Lib.hid (H.out.below hbel)
                have HV := Lib.hid (show ∀ j : Nat, j < n + 1 → HadV _ f S hs j from fun j hj => (HV.out j hj).nums (NumsKept.below hbel))
                have HX := Lib.hid (rng_next HX.out hbel)
                have RW := Lib.hid hrw
                have C0 := Lib.hid (cell_on hbel C0.out)
                have K0 := Lib.hid (hbk.cell 0)
                have K1 := Lib.hid (hbk.cell 1)
                have c0 := C0.out
                have k0' := K0.out
                have k1' := K1.out
                simp at k0' k1'
                have KEPT := Lib.hid (show ∀ w' : World, Below wc.heap.size wc w' → w'.cell? ⟨bp, op + i, none⟩ = some (.int .i64 x) ∧ w'.cell? ⟨bw, 0, none⟩ = some (.slice m1 r1 p1) ∧ w'.cell? ⟨bw, 1, none⟩ = some (.slice m2 r2 p2) from fun w' h => ⟨cell_on h C0.out, cell_on h K0.out, cell_on h K1.out⟩)
                have BL := Lib.hid (show Below wc.heap.size wc wc.drew from (Below.refl wc.heap.size wc).drew)
                clear hbk hrw hbel BB BX PA1
                go_upto_region 27 with fail
                clear c0 k0' k1'
                go_region_held3 (fun w' => w'.cell? ⟨bp, op + i, none⟩ = some (.int .i64 x) ∧ w'.cell? ⟨bw, 0, none⟩ = some (.slice m1 r1 p1) ∧ w'.cell? ⟨bw, 1, none⟩ = some (.slice m2 r2 p2))
                  (with_reducible exact KEPT.out _ BL.out)
                  (first
                    | (go_at_call 25; (with_reducible refine (m13held x (M.out.next BL.out) (by have := HLn.out; simp; omega) (N' * 8 + 1 * D') (D' * 8) HH.out).mono ?_); rintro e wh ⟨vh, nh, dh, rfl, hr, hlo, he, hb⟩; have RH := Lib.hid hr; have EH := Lib.hid he; clear hr hlo he; have BL := Lib.hid (below_next BL.out hb); clear hb)
                    | (go_at_call 24; (with_reducible refine (rcmp_any _ _ nh dh (nk * 8 + 1 * dk) (dk * 8) 0 0 14 16 _ RH.out (RW.out.below BL.out) (by omega)).mono ?_); rintro e wz ⟨rfl, hb⟩; rw [cmp_same (cmp_back DP.out EK.out EH.out)]; have BL := Lib.hid (below_next BL.out hb); clear hb))
                all_goals
                  have wi : IntKind.i64.wrap ((i : Int) + 1) = (i : Int) + 1 := IntWalk.i64_in _ (by omega)
                  go_wp2
                  go_roundw
                  case rel => exact ⟨i + 1, by go_num, by omega, M.out.next BL.out, H.out.below BL.out, fun j hj => (HV.out j hj).nums (NumsKept.below BL.out), rng_next HX.out BL.out⟩
                  case measure => simp [intOf]; omega
            · have t1 : decide (i < plen) = false := decide_eq_false hi
              have t2 : decide ((i : Int) < (plen : Int)) = false := decide_eq_false (by omega)
              clear hi il
              go_wp2_with fail
              refine (m13free 77 M.out (by have := HLn.out; simp; omega) 0 _ (freeq_ok M.out.good.uniq)).mono ?_
              rintro e wf ⟨rfl, hm, hh, hnk⟩
              have M := Lib.hid hm
              have H := Lib.hid (hh.blk H.out (.inl rfl))
              have HV := Lib.hid (show ∀ j : Nat, j < n + 1 → HadV _ f S hs j from fun j hj => (HV.out j hj).nums hnk)
              clear hm hh hnk HX
              go_wp2
              go_loopw [22] (fun u wy => ∃ x : Int, u = .int .i64 x ∧ -1 ≤ x ∧ x ≤ (n : Int) ∧ Mine13 w4 (fun k => k = bh ∨ Rng bq w6.heap.size k) g S N D hs wy ∧ Blk wy 58 bh (had18 f) ∧ (∀ j : Nat, j < n + 1 → HadV wy f S hs j)) (fun u _ => ((n : Int) - intOf u).toNat)
              case atStart => exact ⟨-1, rfl, by omega, by omega, M.out, H.out, HV.out⟩
              case round =>
                obtain ⟨x, rfl, x0, x1, hm, hh1, hhv⟩ := hrel
                clear M H HV
                have M := Lib.hid hm
                have H := Lib.hid hh1
                have HV := Lib.hid hhv
                have G2 := Lib.hid hm.good
                clear hm hh1 hhv
                by_cases hx : x < (n : Int)
                · have t9 : decide (x < (n : Int)) = true := decide_eq_true hx
                  have n8 := N8.out
                  obtain ⟨k0, hk0⟩ : ∃ z : Nat, (x + 1).toNat = z := ⟨_, rfl⟩
                  have wc : IntKind.i64.wrap (x + 1) = (k0 : Int) := by rw [IntWalk.i64_in _ (by omega)]; omega
                  have HXK := Lib.hid (show (k0 : Int) = x + 1 by omega)
                  have g1 : (k0 : Int) < 9 := by omega
                  have g2 : 0 ≤ (k0 : Int) := by omega
                  obtain ⟨⟨N', D'⟩, hheld⟩ : ∃ z, heldQ S x hs = z := ⟨_, rfl⟩
                  have HH := Lib.hid hheld
                  have DP := Lib.hid (show 0 < D' by have := (heldQ_bd G2.out (by have := HLn.out; omega) x).2.2.1; rw [hheld] at this; exact this)
                  obtain ⟨an, ln, cn, ab, lb, cb, nk, dk, hf0, hf1, hrk, hek⟩ := HV.out k0 (by omega)
                  rw [show (k0 : Int) - 1 = x by omega, hheld] at hek
                  have F0 := Lib.hid hf0
                  have F1 := Lib.hid hf1
                  have RK := Lib.hid hrk
                  have EK := Lib.hid hek
                  have e0 := H.out.cell (k0 * 2)
                  have e1 := H.out.cell (k0 * 2 + 1)
                  rw [had_at f (by omega), F0.out] at e0
                  rw [had_at f (by omega), F1.out] at e1
                  have C1 := Lib.hid e0; have C2 := Lib.hid e1
                  have KEPT := Lib.hid (show ∀ w' : World, Below wr.heap.size wr w' → w'.cell? ⟨bh, k0 * 2, none⟩ = some (.slice an ln cn) ∧ w'.cell? ⟨bh, k0 * 2 + 1, none⟩ = some (.slice ab lb cb) from fun w' h => ⟨cell_on h C1.out, cell_on h C2.out⟩)
                  have BL := Lib.hid (show Below wr.heap.size wr wr.drew from (Below.refl wr.heap.size wr).drew)
                  clear hf0 hf1 hrk hek hheld hk0 e0 e1 n8
                  go_upto_region 33 with fail
                  go_region_held3 (fun w' => w'.cell? ⟨bh, k0 * 2, none⟩ = some (.slice an ln cn) ∧ w'.cell? ⟨bh, k0 * 2 + 1, none⟩ = some (.slice ab lb cb))
                    (with_reducible exact KEPT.out _ BL.out)
                    (first
                      | (go_at_call 25; (with_reducible refine (m13held x (M.out.next BL.out) (by have := HLn.out; omega) N' D' HH.out).mono ?_); rintro e wh ⟨vh, nh, dh, rfl, hr, hlo, he, hb⟩; have RH := Lib.hid hr; have EH := Lib.hid he; clear hr hlo he; have BL := Lib.hid (below_next BL.out hb); clear hb)
                      | (go_at_call 24; (with_reducible refine (rcmp_any _ _ nh dh nk dk 0 0 14 14 _ RH.out (RK.out.below BL.out) (by omega)).mono ?_); rintro e wz ⟨rfl, hb⟩; rw [cmp_same (held_same DP.out EH.out EK.out)]; have BL := Lib.hid (below_next BL.out hb); clear hb))
                  all_goals
                    go_wp2
                    have wx := HXK.out
                    go_roundw
                    case rel => exact ⟨x + 1, by go_num, by omega, by omega, M.out.next BL.out, H.out.below BL.out, fun j hj => (HV.out j hj).nums (NumsKept.below BL.out)⟩
                    case measure => simp [intOf]; omega
                · have t9 : decide (x < (n : Int)) = false := decide_eq_false hx
                  go_wp2_with fail
                  refine (m13settle 77 M.out (by have := HLn.out; omega) 12 _ (settleq_none IDS.out)).mono ?_
                  rintro e wf ⟨rfl, hm, hh, hnk⟩
                  have BE := Lib.hid (below_next B.out hm.below)
                  clear hm hh hnk
                  go_wp2
                  go_ret
                  exact ⟨rfl, BE.out⟩
        · have hsame : hs1 = hs := by rcases REF.out with h | h; exact absurd h c0; exact h
          rw [hsame] at M
          have c0b : (c' == 0) = false := by simpa using c0
          have c0d : decide (c' = 0) = false := by simpa using c0
          have c0n : (c' != 0) = true := by simpa using c0
          clear HST REF hsame
          go_wp2_with fail
          refine (m13server 77 M.out (-2) (server77 IDS.out)).mono ?_
          rintro e w9 ⟨rfl, rfl⟩
          go_wp2
          go_ret
          exact ⟨rfl, below_next B.out M.out.below⟩
end Go.Proofs.YtbonilmlfelmpaaGreat
