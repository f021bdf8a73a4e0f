/-
  The walk of HoldNever, for a package hold that is as P12.1 to P12.3 say. (Written by wip/tools/gen_hv1.py.)
-/
import Derived.Test.YtphlkpkbdnddlaaHv0
import Derived.Deep.CutBlock
namespace Go.Proofs.Ytphlkpkbdnddlaa
open Go.RowKit

theorem cell_on {w w2 : World} {p : Addr} {v : Value} (hb : Below w.heap.size w w2) (h : w.cell? p = some v) : w2.cell? p = some v := (hb.cell (World.block_lt_of_cell? _ _ h)).trans h
theorem two_a {W : World} {T : TypeId} {a b : Nat} {x1 x2 x3 x4 : Value} (h1 : Blk W T a #[.int .i64 0, .int .i64 0]) (_ : Blk W T b #[.int .i64 0, .int .i64 0]) (hne : a ≠ b) : Blk ((((W.setCell ⟨a, 0, none⟩ x1).setCell ⟨a, 1, none⟩ x2).setCell ⟨b, 0, none⟩ x3).setCell ⟨b, 1, none⟩ x4) T a #[x1, x2] := by
  have h : Blk ((W.setCell ⟨a, 0, none⟩ x1).setCell ⟨a, 1, none⟩ x2) T a #[x1, x2] := by simpa using (Blk.setH (Blk.setH h1 0 x1) 1 x2)
  exact h.keeps (((Keeps.refl (fun k => k = b) _).set (.inl rfl) 0 _).set (.inl rfl) 1 _) hne
theorem two_b {W : World} {T : TypeId} {a b : Nat} {x1 x2 x3 x4 : Value} (_ : Blk W T a #[.int .i64 0, .int .i64 0]) (h2 : Blk W T b #[.int .i64 0, .int .i64 0]) (hne : a ≠ b) : Blk ((((W.setCell ⟨a, 0, none⟩ x1).setCell ⟨a, 1, none⟩ x2).setCell ⟨b, 0, none⟩ x3).setCell ⟨b, 1, none⟩ x4) T b #[x3, x4] := by
  have h : Blk ((W.setCell ⟨a, 0, none⟩ x1).setCell ⟨a, 1, none⟩ x2) T b #[.int .i64 0, .int .i64 0] := h2.keeps (((Keeps.refl (fun k => k = a) _).set (.inl rfl) 0 _).set (.inl rfl) 1 _) (fun e => hne e.symm)
  simpa using (Blk.setH (Blk.setH h 0 x3) 1 x4)
section
variable {Hp : World → Nat → (Nat → Prop) → (Nat → Prop) → Int → Int → List Hd → Prop}
theorem Mine12.own2 (ok : HoldOk Hp) {w wr w' : World} {G : Nat → Prop} {g b1 b2 : Nat} {N D : Int} {hs : List Hd} (h : Mine12 Hp w G g N D hs wr) (hb : Below wr.heap.size wr w') (h1 : wr.heap.size ≤ b1) (l1 : b1 < w'.heap.size) (h2 : wr.heap.size ≤ b2) (l2 : b2 < w'.heap.size) : Mine12 Hp w (fun k => (G k ∨ k = b1) ∨ k = b2) g N D hs w' :=
  h.wrote ok (Keeps.of hb) (fun k q => by
    rcases q with (q | q) | q
    · exact .inl q
    · exact .inr (by omega)
    · exact .inr (by omega)) (fun k q => by
    rcases q with (q | q) | q
    · exact Nat.lt_of_lt_of_le (h.lies k q) hb.size
    · omega
    · omega)
theorem hof_at (ok : HoldOk Hp) {w wr : World} {G : Nat → Prop} {N D : Int} (g : Nat) (hs : List Hd) (id : Int) (h : Mine12 Hp w G g N D hs wr) (hl : hs.length ≤ 20) (x1 x2 x3 x4 : Int) (b : Bool) (hv : ofH hs id = ((x1, x2), (x3, x4), b)) : Calls Try.prog 21 #[.pointer (some ⟨g, 0, none⟩), .int .i64 id] wr fun z w' => z = .returned (.tuple #[.agg #[.int .i64 x1, .int .i64 x2], .agg #[.int .i64 x3, .int .i64 x4], .bool b]) ∧ Below wr.heap.size wr w' := by
  have := hof ok g hs id h hl
  rw [hv] at this
  exact this
set_option maxRecDepth 20000 in
set_option maxHeartbeats 8000000 in
theorem hnever_walk (ok : HoldOk Hp) (qa qb : Int) (ad : Option Addr) (len cap : Nat) (rs : List (List Value)) (w : World) (hL : RowF w ad len cap 6 rs) (hG : ∀ r ∈ rs, Fit [.int .i64, .int .i64, .int .i64, .int .i64, .int .i64, .int .i64] r) : Calls Try.prog 4 #[.agg #[.int .i64 qa, .int .i64 qb], .slice ad len cap] w fun e w' => e = .returned (.bool true) ∧ Below w.heap.size w w' := by
  have OK := Lib.hid ok
  have ZL := Lib.hid (fun (i : Nat) (hi : i < len) => steps_at hL hG hi)
  have ⟨lc1, lc2⟩ := hL.cap_le
  clear ok hL hG
  have n7 := mask7 qa
  obtain ⟨N, hN⟩ : ∃ k, bits .and .i64 qa 7 = k := ⟨_, rfl⟩
  rw [hN] at n7
  have m3 := mask3 qb
  obtain ⟨k3, hk3⟩ : ∃ k, bits .and .i64 qb 3 = k := ⟨_, rfl⟩
  rw [hk3] at m3
  obtain ⟨D, hD⟩ : ∃ k, 1 + k3 = k := ⟨_, rfl⟩
  have dw : IntKind.i64.wrap (1 + k3) = D := by rw [IntWalk.i64_in _ (by omega)]; exact hD
  have nu : IntKind.u64.wrap N = N := IntWalk.u64_in _ (by omega)
  have du : IntKind.u64.wrap D = D := IntWalk.u64_in _ (by omega)
  have NB := Lib.hid (show 0 ≤ N ∧ N ≤ 7 ∧ 1 ≤ D ∧ D ≤ 4 by omega)
  clear n7 m3 hD
  have Q := Lib.hid (Blk.new w 22 #[.int .i64 qa, .int .i64 qb])
  have B0 := Lib.hid (wbox w (.cells #[.int .i64 qa, .int .i64 qb] 22))
  go_enter Try.func4, Try.ntmps4
  go_wp2_with fail
  refine (awake12_any OK.out _).mono ?_
  rintro e w1 ⟨rfl, hb⟩
  have Q := Lib.hid (Q.out.below hb)
  have B1 := Lib.hid (below_next B0.out hb)
  clear hb B0
  have q0 := Q.out.cell 0
  have q1 := Q.out.cell 1
  simp at q0 q1
  go_wp2_with fail
  refine (one_any N D _ (by have := NB.out; omega) (by have := NB.out; omega) (by have := NB.out; omega) (by have := NB.out; omega)).mono ?_
  rintro e w2 ⟨v, rfl, hr, hb⟩
  obtain ⟨aa, la, ca, za, ab, lb, cb, zb, rfl, _⟩ := id hr
  obtain ⟨w3, hw3⟩ : ∃ w3, w2.alloc (.cells #[.slice aa la ca, .slice ab lb cb] 27) = w3 := ⟨_, rfl⟩
  obtain ⟨ga, hga⟩ : ∃ g, w2.heap.size = g := ⟨_, rfl⟩
  have B23 := Lib.hid (show Below w2.heap.size w2 w3 by rw [← hw3]; exact wbox _ _)
  have B3 := Lib.hid (below_next (below_next B1.out hb) B23.out)
  have RA := Lib.hid (hr.below B23.out)
  have KA := Lib.hid (show Blk w3 27 ga #[.slice aa la ca, .slice ab lb cb] by rw [← hw3, ← hga]; exact Blk.new _ _ _)
  clear hb hr B1 B23 q0 q1 Q
  have x0 := KA.out.cell 0
  have x1 := KA.out.cell 1
  simp at x0 x1
  go_wp2_with fail
  (try rw [hw3]); (try rw [hga])
  refine (hnew OK.out _ N D 1 _ w3 RA.out (by omega) (by have := NB.out; omega)).mono ?_
  rintro e w4 ⟨g, rfl, hm⟩
  have M := Lib.hid hm
  clear hm hw3 hga x0 x1 nu du dw
  go_wp2
  go_loopw [8] (fun u wr => ∃ (i : Nat) (hs : List Hd), u = .int .i64 (i : Int) ∧ i ≤ len ∧ i ≤ 50 ∧ IdsIn 16 hs ∧ Mine12 Hp w3 G0 g N D hs wr) (fun u _ => len - (intOf u).toNat)
  case atStart => exact ⟨0, [], rfl, by omega, by omega, IdsIn.nil 16, M.out⟩
  case round =>
    obtain ⟨i, hs, rfl, il, i50, hids, hm⟩ := hrel
    clear M
    have M := Lib.hid hm
    have IDS := Lib.hid hids
    have HLn := Lib.hid (ids_len 16 hs (hm.good OK.out).uniq hids)
    have G := Lib.hid (hm.good OK.out)
    clear hm hids
    by_cases d1 : i < len ∧ i < 50
    · have b1 : decide (i < len) = true := by simp; omega
      have b2 : decide ((i : Int) < (len : Int)) = true := by simp; omega
      have b3 : decide ((i : Int) < 50) = true := by simp; omega
      have b3n : decide (i < 50) = true := by simp; omega
      obtain ⟨bl, ol, k, id, p, q, u, v, rfl, c0, c1, c2, c3, c4, c5⟩ := ZL.out i d1.1
      have bw := below_next B3.out M.out.below
      replace c0 := cell_on bw c0; replace c1 := cell_on bw c1; replace c2 := cell_on bw c2; replace c3 := cell_on bw c3; replace c4 := cell_on bw c4; replace c5 := cell_on bw c5
      have i1 : (i : Int) < (len : Int) := by omega
      have i2 : 0 ≤ (i : Int) := by omega
      have k7 := mask7 k
      obtain ⟨kk, hkk⟩ : ∃ k', bits .and .i64 k 7 = k' := ⟨_, rfl⟩
      have i15 := mask15 id
      obtain ⟨ii, hii⟩ : ∃ k', bits .and .i64 id 15 = k' := ⟨_, rfl⟩
      rw [hkk] at k7
      rw [hii] at i15
      have IB := Lib.hid (show 0 ≤ ii ∧ ii < 16 by omega)
      obtain ⟨⟨mE, mP⟩, hmk⟩ : ∃ x, mkM (p, q) = x := ⟨_, rfl⟩
      have MK := Lib.hid hmk
      obtain ⟨⟨⟨x1, x2⟩, ⟨x3, x4⟩, xb⟩, hof1⟩ : ∃ x, ofH hs ii = x := ⟨_, rfl⟩
      have OF1 := Lib.hid hof1
      have d2 : i < 50 := d1.2
      have d3 : i < len := d1.1
      clear d1 bw k7 i15 hmk hof1
      have M := Lib.hid (M.out.own1 OK.out (.cells #[.int .i64 k, .int .i64 id, .int .i64 p, .int .i64 q, .int .i64 u, .int .i64 v] 37))
      have Ko := Lib.hid (Blk.new wr 37 #[.int .i64 k, .int .i64 id, .int .i64 p, .int .i64 q, .int .i64 u, .int .i64 v])
      obtain ⟨go, hgo⟩ : ∃ g, wr.heap.size = g := ⟨_, rfl⟩
      rw [hgo] at Ko M
      go_wp2_with fail
      (try rw [hgo])
      refine (hheld OK.out g hs M.out (by have := HLn.out; omega)).mono ?_
      intro e w6 hq
      obtain ⟨v6, n6, d6, rfl, hr, hlo, he, hb⟩ := held_tight hq G.out.each (by have := HLn.out; omega)
      obtain ⟨a6, l6, q6, z6, b6, k6, r6, y6, rfl, _⟩ := _root_.id hr
      have R6 := Lib.hid hr
      have E6 := Lib.hid he
      have D6 := Lib.hid hlo.2.1
      have Ko := Lib.hid (Ko.out.below hb)
      have M := Lib.hid (M.out.next OK.out hb)
      clear hq hr hlo he hb c0 c1 c2 c3 c4 c5 hgo
      have Ko := Lib.hid (Ko.out.alloc (.cells #[.slice a6 l6 q6, .slice b6 k6 r6] 27))
      have R6 := Lib.hid (R6.out.below (wbox _ (.cells #[.slice a6 l6 q6, .slice b6 k6 r6] 27)))
      have M := Lib.hid (M.out.own1 OK.out (.cells #[.slice a6 l6 q6, .slice b6 k6 r6] 27))
      have K11 := Lib.hid (Blk.new w6 27 #[.slice a6 l6 q6, .slice b6 k6 r6])
      obtain ⟨g11, hg11⟩ : ∃ g, w6.heap.size = g := ⟨_, rfl⟩
      rw [hg11] at K11 M
      go_wp2_with fail
      (try rw [hg11])
      refine (hof_at OK.out g hs ii M.out (by have := HLn.out; omega) x1 x2 x3 x4 xb OF1.out).mono ?_
      rintro e w7 ⟨rfl, hb⟩
      have Ko := Lib.hid (Ko.out.below hb)
      have K11 := Lib.hid (K11.out.below hb)
      have R6 := Lib.hid (R6.out.below hb)
      have M := Lib.hid (M.out.next OK.out hb)
      clear hb hg11
      obtain ⟨wz, hwz⟩ : ∃ x, ((w7.alloc (.cells #[.int .i64 0, .int .i64 0] 39)).alloc (.cells #[.int .i64 0, .int .i64 0] 39)) = x := ⟨_, rfl⟩
      obtain ⟨g12, hg12⟩ : ∃ g, w7.heap.size = g := ⟨_, rfl⟩
      obtain ⟨g13, hg13⟩ : ∃ g, g12 + 1 = g := ⟨_, rfl⟩
      have KZ1 := Lib.hid (show Blk wz 39 g12 #[.int .i64 0, .int .i64 0] by rw [← hwz, ← hg12]; exact (Blk.new w7 _ _).alloc _)
      have KZ2 := Lib.hid (show Blk wz 39 g13 #[.int .i64 0, .int .i64 0] by rw [← hwz, ← hg13, ← hg12]; exact Blk.new2 w7 _ _ _)
      have BZ := Lib.hid (show Below w7.heap.size w7 wz by rw [← hwz]; exact wbox2 _ _ _)
      have GG := Lib.hid (show w7.heap.size = g12 ∧ g12 + 1 = g13 from ⟨hg12, hg13⟩)
      have ne1 : ¬ g12 = g13 := by omega
      have ne2 : ¬ g13 = g12 := by omega
      have za0 := KZ1.out.cell 0; have za1 := KZ1.out.cell 1; have zb0 := KZ2.out.cell 0; have zb1 := KZ2.out.cell 1
      have fa0 := KZ1.out.free 0; have fa1 := KZ1.out.free 1; have fb0 := KZ2.out.free 0; have fb1 := KZ2.out.free 1
      simp at za0 za1 zb0 zb1
      go_wp2_with fail
      clear za0 za1 zb0 zb1 fa0 fa1 fb0 fb1 ne1 ne2
      obtain ⟨wx, hwx⟩ : ∃ x, (((wz.setCell ⟨g12, 0, none⟩ (.int .i64 x1)).setCell ⟨g12, 1, none⟩ (.int .i64 x2)).setCell ⟨g13, 0, none⟩ (.int .i64 x3)).setCell ⟨g13, 1, none⟩ (.int .i64 x4) = x := ⟨_, rfl⟩
      have hb : Below w7.heap.size w7 wx := by rw [← hwx]; have hz := GG.out; exact (((BZ.out.setCell (show w7.heap.size ≤ g12 by omega) _).setCell (show w7.heap.size ≤ g12 by omega) _).setCell (show w7.heap.size ≤ g13 by omega) _).setCell (show w7.heap.size ≤ g13 by omega) _
      have K12 := Lib.hid (show Blk wx 39 g12 #[.int .i64 x1, .int .i64 x2] by rw [← hwx]; exact two_a KZ1.out KZ2.out (by have hz := GG.out; omega))
      have K13 := Lib.hid (show Blk wx 39 g13 #[.int .i64 x3, .int .i64 x4] by rw [← hwx]; exact two_b KZ1.out KZ2.out (by have hz := GG.out; omega))
      have Ko := Lib.hid (Ko.out.below hb)
      have K11 := Lib.hid (K11.out.below hb)
      have R6 := Lib.hid (R6.out.below hb)
      have M := Lib.hid (M.out.own2 OK.out hb (b1 := g12) (b2 := g13) (by have hz := GG.out; omega) K12.out.lt (by have hz := GG.out; omega) K13.out.lt)
      (try rw [hwz]); (try rw [hg12]); (try rw [hg13])
      (try rw [hwx])
      clear hb hwx hwz hg12 hg13 KZ1 KZ2 BZ GG
      refine (hlen OK.out g hs M.out (by have := HLn.out; omega)).mono ?_
      rintro e w8 ⟨rfl, hb⟩
      have Ko := Lib.hid (Ko.out.below hb)
      have K11 := Lib.hid (K11.out.below hb)
      have K12 := Lib.hid (K12.out.below hb)
      have K13 := Lib.hid (K13.out.below hb)
      have R6 := Lib.hid (R6.out.below hb)
      have M := Lib.hid (M.out.next OK.out hb)
      clear hb
      have o0 := Ko.out.cell 0
      have o1 := Ko.out.cell 1
      have o2 := Ko.out.cell 2
      have o3 := Ko.out.cell 3
      have o4 := Ko.out.cell 4
      have o5 := Ko.out.cell 5
      simp at o0 o1 o2 o3 o4 o5
      go_upto_block 2 with fail
      go_cut [16] (fun s16 wx => ∃ (c : Int) (hs' : List Hd), s16 = .int .i64 c ∧ (c = 0 ∨ hs' = hs) ∧ IdsIn 16 hs' ∧ Mine12 Hp w3 (fun k => (k = g11 ∨ k = g12) ∨ k = g13) g N D hs' wx ∧ Blk wx 27 g11 #[.slice a6 l6 q6, .slice b6 k6 r6] ∧ Blk wx 39 g12 #[.int .i64 x1, .int .i64 x2] ∧ Blk wx 39 g13 #[.int .i64 x3, .int .i64 x4] ∧ Rat wx 0 14 (.agg #[.slice a6 l6 q6, .slice b6 k6 r6]) n6 d6)
      case first =>
        by_cases h3 : kk = 3
        · subst h3
          go_wp2_with fail
          refine (made12_any p q _ mE mP MK.out).mono ?_
          rintro e w9 ⟨rfl, hb⟩
          have K11 := Lib.hid (K11.out.below hb)
          have K12 := Lib.hid (K12.out.below hb)
          have K13 := Lib.hid (K13.out.below hb)
          have R6 := Lib.hid (R6.out.below hb)
          have M := Lib.hid (M.out.next OK.out hb)
          clear hb
          obtain ⟨⟨c, hs'⟩, hst⟩ : ∃ x, askV N D hs ii mE mP = x := ⟨_, rfl⟩
          have REF := Lib.hid (show c = 0 ∨ hs' = hs by have := ask_refused N D hs ii mE mP; rw [hst] at this; exact this)
          have INN := Lib.hid (show IdsIn 16 hs' by have := ask_in (N := N) (D := D) (id := ii) (E := mE) (P := mP) IDS.out; rw [hst] at this; exact this)
          have HST := Lib.hid hst
          clear hst
          go_wp2_with fail
          refine (hask OK.out g hs ii mE mP M.out (by have := HLn.out; omega) c hs' HST.out).mono ?_
          rintro e w10 ⟨rfl, hm, hh, hn⟩
          have M := Lib.hid hm
          have K11 := Lib.hid (hh.blk K11.out (.inl (.inl (.inr rfl))))
          have K12 := Lib.hid (hh.blk K12.out (.inl (.inr rfl)))
          have K13 := Lib.hid (hh.blk K13.out (.inr rfl))
          have R6 := Lib.hid (hn _ _ _ _ _ R6.out)
          clear hm hh hn
          go_wp2_with fail
          go_meet
          exact ⟨c, hs', rfl, REF.out, INN.out, M.out.less OK.out (fun k h => h.elim (fun h => h.elim (fun h => .inl (.inl (.inr h))) (fun h => .inl (.inr h))) .inr), K11.out, K12.out, K13.out, R6.out⟩
        have h3b : (kk == 3) = false := by simpa using h3
        have h3d : decide (kk = 3) = false := by simpa using h3
        by_cases h4 : kk = 4
        · subst h4
          obtain ⟨⟨c, hs'⟩, hst⟩ : ∃ x, settleV hs ii = x := ⟨_, rfl⟩
          have REF := Lib.hid (show c = 0 ∨ hs' = hs by have := settle_refused hs ii; rw [hst] at this; exact this)
          have INN := Lib.hid (show IdsIn 16 hs' by have := settle_in IDS.out IB.out; rw [hst] at this; exact this)
          have HST := Lib.hid hst
          clear hst
          go_wp2_with fail
          refine (hsettle OK.out g hs ii M.out (by have := HLn.out; omega) c hs' HST.out).mono ?_
          rintro e w10 ⟨rfl, hm, hh, hn⟩
          have M := Lib.hid hm
          have K11 := Lib.hid (hh.blk K11.out (.inl (.inl (.inr rfl))))
          have K12 := Lib.hid (hh.blk K12.out (.inl (.inr rfl)))
          have K13 := Lib.hid (hh.blk K13.out (.inr rfl))
          have R6 := Lib.hid (hn _ _ _ _ _ R6.out)
          clear hm hh hn
          go_wp2_with fail
          go_meet
          exact ⟨c, hs', rfl, REF.out, INN.out, M.out.less OK.out (fun k h => h.elim (fun h => h.elim (fun h => .inl (.inl (.inr h))) (fun h => .inl (.inr h))) .inr), K11.out, K12.out, K13.out, R6.out⟩
        have h4b : (kk == 4) = false := by simpa using h4
        have h4d : decide (kk = 4) = false := by simpa using h4
        by_cases h5 : kk = 5
        · subst h5
          obtain ⟨⟨c, hs'⟩, hst⟩ : ∃ x, freeV hs ii = x := ⟨_, rfl⟩
          have REF := Lib.hid (show c = 0 ∨ hs' = hs by have := free_refused hs ii; rw [hst] at this; exact this)
          have INN := Lib.hid (show IdsIn 16 hs' by have := free_in (id := ii) IDS.out; rw [hst] at this; exact this)
          have HST := Lib.hid hst
          clear hst
          go_wp2_with fail
          refine (hfree OK.out g hs ii M.out (by have := HLn.out; omega) c hs' HST.out).mono ?_
          rintro e w10 ⟨rfl, hm, hh, hn⟩
          have M := Lib.hid hm
          have K11 := Lib.hid (hh.blk K11.out (.inl (.inl (.inr rfl))))
          have K12 := Lib.hid (hh.blk K12.out (.inl (.inr rfl)))
          have K13 := Lib.hid (hh.blk K13.out (.inr rfl))
          have R6 := Lib.hid (hn _ _ _ _ _ R6.out)
          clear hm hh hn
          go_wp2_with fail
          go_meet
          exact ⟨c, hs', rfl, REF.out, INN.out, M.out.less OK.out (fun k h => h.elim (fun h => h.elim (fun h => .inl (.inl (.inr h))) (fun h => .inl (.inr h))) .inr), K11.out, K12.out, K13.out, R6.out⟩
        have h5b : (kk == 5) = false := by simpa using h5
        have h5d : decide (kk = 5) = false := by simpa using h5
        · skip
          go_wp2_with fail
          refine (made12_any p q _ mE mP MK.out).mono ?_
          rintro e w9 ⟨rfl, hb⟩
          have K11 := Lib.hid (K11.out.below hb)
          have K12 := Lib.hid (K12.out.below hb)
          have K13 := Lib.hid (K13.out.below hb)
          have R6 := Lib.hid (R6.out.below hb)
          have M := Lib.hid (M.out.next OK.out hb)
          clear hb
          obtain ⟨⟨c, hs'⟩, hst⟩ : ∃ x, joinV N D hs ii mE mP = x := ⟨_, rfl⟩
          have REF := Lib.hid (show c = 0 ∨ hs' = hs by have := join_refused N D hs ii mE mP; rw [hst] at this; exact this)
          have INN := Lib.hid (show IdsIn 16 hs' by have := join_in (N := N) (D := D) (E := mE) (P := mP) IDS.out IB.out; rw [hst] at this; exact this)
          have HST := Lib.hid hst
          clear hst
          go_wp2_with fail
          refine (hjoin OK.out g hs ii mE mP M.out (by have := HLn.out; omega) c hs' HST.out).mono ?_
          rintro e w10 ⟨rfl, hm, hh, hn⟩
          have M := Lib.hid hm
          have K11 := Lib.hid (hh.blk K11.out (.inl (.inl (.inr rfl))))
          have K12 := Lib.hid (hh.blk K12.out (.inl (.inr rfl)))
          have K13 := Lib.hid (hh.blk K13.out (.inr rfl))
          have R6 := Lib.hid (hn _ _ _ _ _ R6.out)
          clear hm hh hn
          go_wp2_with fail
          go_meet
          exact ⟨c, hs', rfl, REF.out, INN.out, M.out.less OK.out (fun k h => h.elim (fun h => h.elim (fun h => .inl (.inl (.inr h))) (fun h => .inl (.inr h))) .inr), K11.out, K12.out, K13.out, R6.out⟩
      case rest =>
        obtain ⟨c, hs', rfl, hc, hin, hm, hk11, hk12, hk13, hr6⟩ := hcut
        have M := Lib.hid hm
        have K11 := Lib.hid hk11
        have K12 := Lib.hid hk12
        have K13 := Lib.hid hk13
        have R6 := Lib.hid hr6
        have INN := Lib.hid hin
        have HL2 := Lib.hid (ids_len 16 hs' (hm.good OK.out).uniq hin)
        have G2 := Lib.hid (hm.good OK.out)
        clear hm hk11 hk12 hk13 hr6 hin o0 o1 o2 o3 o4 o5 Ko
        by_cases c0 : c = 0
        · subst c0
          clear hc
          obtain ⟨⟨⟨y1, y2⟩, ⟨y3, y4⟩, yb⟩, hof2⟩ : ∃ x, ofH hs' ii = x := ⟨_, rfl⟩
          have OF2 := Lib.hid hof2
          clear hof2
          go_wp2_with fail
          refine (hof_at OK.out g hs' ii M.out (by have := HL2.out; omega) y1 y2 y3 y4 yb OF2.out).mono ?_
          rintro e w11 ⟨rfl, hb⟩
          have K11 := Lib.hid (K11.out.below hb)
          have K12 := Lib.hid (K12.out.below hb)
          have K13 := Lib.hid (K13.out.below hb)
          have R6 := Lib.hid (R6.out.below hb)
          have M := Lib.hid (M.out.next OK.out hb)
          clear hb
          obtain ⟨wy, hwy⟩ : ∃ x, ((w11.alloc (.cells #[.int .i64 0, .int .i64 0] 39)).alloc (.cells #[.int .i64 0, .int .i64 0] 39)) = x := ⟨_, rfl⟩
          obtain ⟨g17, hg17⟩ : ∃ g, w11.heap.size = g := ⟨_, rfl⟩
          obtain ⟨g18, hg18⟩ : ∃ g, g17 + 1 = g := ⟨_, rfl⟩
          have KZ1 := Lib.hid (show Blk wy 39 g17 #[.int .i64 0, .int .i64 0] by rw [← hwy, ← hg17]; exact (Blk.new w11 _ _).alloc _)
          have KZ2 := Lib.hid (show Blk wy 39 g18 #[.int .i64 0, .int .i64 0] by rw [← hwy, ← hg18, ← hg17]; exact Blk.new2 w11 _ _ _)
          have BZ := Lib.hid (show Below w11.heap.size w11 wy by rw [← hwy]; exact wbox2 _ _ _)
          have GG := Lib.hid (show w11.heap.size = g17 ∧ g17 + 1 = g18 from ⟨hg17, hg18⟩)
          have ne1 : ¬ g17 = g18 := by omega
          have ne2 : ¬ g18 = g17 := by omega
          have za0 := KZ1.out.cell 0; have za1 := KZ1.out.cell 1; have zb0 := KZ2.out.cell 0; have zb1 := KZ2.out.cell 1
          have fa0 := KZ1.out.free 0; have fa1 := KZ1.out.free 1; have fb0 := KZ2.out.free 0; have fb1 := KZ2.out.free 1
          simp at za0 za1 zb0 zb1
          go_upto_region 24 with fail
          clear za0 za1 zb0 zb1 fa0 fa1 fb0 fb1 ne1 ne2
          obtain ⟨w12, hw12⟩ : ∃ x, (((wy.setCell ⟨g17, 0, none⟩ (.int .i64 y1)).setCell ⟨g17, 1, none⟩ (.int .i64 y2)).setCell ⟨g18, 0, none⟩ (.int .i64 y3)).setCell ⟨g18, 1, none⟩ (.int .i64 y4) = x := ⟨_, rfl⟩
          have hb : Below w11.heap.size w11 w12 := by rw [← hw12]; have hz := GG.out; exact (((BZ.out.setCell (show w11.heap.size ≤ g17 by omega) _).setCell (show w11.heap.size ≤ g17 by omega) _).setCell (show w11.heap.size ≤ g18 by omega) _).setCell (show w11.heap.size ≤ g18 by omega) _
          have K17 := Lib.hid (show Blk w12 39 g17 #[.int .i64 y1, .int .i64 y2] by rw [← hw12]; exact two_a KZ1.out KZ2.out (by have hz := GG.out; omega))
          have K18 := Lib.hid (show Blk w12 39 g18 #[.int .i64 y3, .int .i64 y4] by rw [← hw12]; exact two_b KZ1.out KZ2.out (by have hz := GG.out; omega))
          have K11 := Lib.hid (K11.out.below hb)
          have K12 := Lib.hid (K12.out.below hb)
          have K13 := Lib.hid (K13.out.below hb)
          have R6 := Lib.hid (R6.out.below hb)
          have M := Lib.hid (M.out.own2 OK.out hb (b1 := g17) (b2 := g18) (by have hz := GG.out; omega) K17.out.lt (by have hz := GG.out; omega) K18.out.lt)
          (try rw [hwy]); (try rw [hg17]); (try rw [hg18])
          (try rw [hw12])
          clear hb hw12 hwy hg17 hg18 KZ1 KZ2 BZ GG
          have KA2 := Lib.hid (KA.out.below M.out.below)
          have RA2 := Lib.hid (RA.out.below M.out.below)
          have KEPT := Lib.hid (show ∀ w' : World, Below w12.heap.size w12 w' → w'.cell? ⟨ga, 0, none⟩ = some (.slice aa la ca) ∧ w'.cell? ⟨ga, 1, none⟩ = some (.slice ab lb cb) ∧ w'.cell? ⟨g11, 0, none⟩ = some (.slice a6 l6 q6) ∧ w'.cell? ⟨g11, 1, none⟩ = some (.slice b6 k6 r6) ∧ w'.cell? ⟨g12, 0, none⟩ = some (.int .i64 x1) ∧ w'.cell? ⟨g12, 1, none⟩ = some (.int .i64 x2) ∧ w'.cell? ⟨g13, 0, none⟩ = some (.int .i64 x3) ∧ w'.cell? ⟨g13, 1, none⟩ = some (.int .i64 x4) ∧ w'.cell? ⟨g17, 0, none⟩ = some (.int .i64 y1) ∧ w'.cell? ⟨g17, 1, none⟩ = some (.int .i64 y2) ∧ w'.cell? ⟨g18, 0, none⟩ = some (.int .i64 y3) ∧ w'.cell? ⟨g18, 1, none⟩ = some (.int .i64 y4) from fun w' h => ⟨(KA2.out.below h).cell 0, (KA2.out.below h).cell 1, (K11.out.below h).cell 0, (K11.out.below h).cell 1, (K12.out.below h).cell 0, (K12.out.below h).cell 1, (K13.out.below h).cell 0, (K13.out.below h).cell 1, (K17.out.below h).cell 0, (K17.out.below h).cell 1, (K18.out.below h).cell 0, (K18.out.below h).cell 1⟩)
          have BL := Lib.hid (show Below w12.heap.size w12 w12.drew from (Below.refl w12.heap.size w12).drew)
          refine wp_region_noPanic ?_
          refine wp_region_held_drew (S := fun w' => w'.cell? ⟨ga, 0, none⟩ = some (.slice aa la ca) ∧ w'.cell? ⟨ga, 1, none⟩ = some (.slice ab lb cb) ∧ w'.cell? ⟨g11, 0, none⟩ = some (.slice a6 l6 q6) ∧ w'.cell? ⟨g11, 1, none⟩ = some (.slice b6 k6 r6) ∧ w'.cell? ⟨g12, 0, none⟩ = some (.int .i64 x1) ∧ w'.cell? ⟨g12, 1, none⟩ = some (.int .i64 x2) ∧ w'.cell? ⟨g13, 0, none⟩ = some (.int .i64 x3) ∧ w'.cell? ⟨g13, 1, none⟩ = some (.int .i64 x4) ∧ w'.cell? ⟨g17, 0, none⟩ = some (.int .i64 y1) ∧ w'.cell? ⟨g17, 1, none⟩ = some (.int .i64 y2) ∧ w'.cell? ⟨g18, 0, none⟩ = some (.int .i64 y3) ∧ w'.cell? ⟨g18, 1, none⟩ = some (.int .i64 y4)) (by kernel_rfl) (KEPT.out _ BL.out) (fun hHeld => ?_)
          refine' takeY (i := 0) (oi := _) (v := _) ?hin0 (by kernel_rfl) (by kernel_rfl) (by kernel_rfl) (fun _ _ _ h => h) ?hwn0 ?hyn0 hHeld ?restn0
          case hin0 => (simp only [List.getElem?_toArray, List.getElem?_cons_zero]; rfl)
          case hwn0 => rfl
          case hyn0 => (intro w hSw; (try dsimp only at hSw); go_simp; try with_reducible rfl)
          try simp only [Act.put, List.setIfInBounds_toArray, List.set_cons_zero, List.set_cons_succ]
          refine' takeY (i := 2) (oi := _) (v := _) ?hin1 (by kernel_rfl) (by kernel_rfl) (by kernel_rfl) (fun _ _ _ h => h) ?hwn1 ?hyn1 hHeld ?restn1
          case hin1 => (simp only [List.getElem?_toArray, List.getElem?_cons_succ, List.getElem?_cons_zero]; rfl)
          case hwn1 => rfl
          case hyn1 => (intro w hSw; (try dsimp only at hSw); go_simp; try with_reducible rfl)
          try simp only [Act.put, List.setIfInBounds_toArray, List.set_cons_zero, List.set_cons_succ]
          refine wpAnyH_ready (rs := [1]) (by kernel_rfl) (by simp) ?_
          refine' AllReadyH.cons (o := _) ?hin2 (fun K hK => ?stepn2) AllReadyH.nil
          case hin2 => (simp only [List.getElem?_toArray, List.getElem?_cons_succ, List.getElem?_cons_zero]; rfl)
          go_simp
          ((with_reducible refine (hheld OK.out g hs' (M.out.next OK.out BL.out) (by have := HL2.out; omega)).mono ?_); intro e wh hq; obtain ⟨vh, nh, dh, rfl, hr, hlo, he, hb⟩ := held_tight hq G2.out.each (by have := HL2.out; omega); have RH := Lib.hid hr; have DH := Lib.hid hlo.2.1; have EH := Lib.hid he; clear hq hr hlo he; have BL := Lib.hid (below_next BL.out hb); clear hb)
          go_wp2_with fail
          clear hHeld
          refine hK.out _ _ (KEPT.out _ BL.out) (fun hHeld => ?_)
          clear hK K
          try simp only [Act.put, List.setIfInBounds_toArray, List.set_cons_zero, List.set_cons_succ]
          refine wpAnyH_ready (rs := [3]) (by kernel_rfl) (by simp) ?_
          refine' AllReadyH.cons (o := _) ?hin3 (fun K hK => ?stepn3) AllReadyH.nil
          case hin3 => (simp only [List.getElem?_toArray, List.getElem?_cons_succ, List.getElem?_cons_zero]; rfl)
          go_simp
          ((with_reducible refine (rcmp_any _ _ nh dh N D 0 _ 14 1 _ RH.out (RA2.out.below BL.out) (by omega)).mono ?_); rintro e wc1 ⟨rfl, hb⟩; have t1 := cmp_within (held_within (sumH_frac G2.out.each).2 DH.out EH.out (fit_le.mp G2.out.fit)); obtain ⟨kc, hkc⟩ : ∃ k, cmpI (nh * D) (N * dh) = k := ⟨_, rfl⟩; rw [hkc] at t1 ⊢; clear hkc; have BL := Lib.hid (below_next BL.out hb); clear hb)
          go_wp2_with fail
          clear hHeld
          refine hK.out _ _ (KEPT.out _ BL.out) (fun hHeld => ?_)
          clear hK K
          try simp only [Act.put, List.setIfInBounds_toArray, List.set_cons_zero, List.set_cons_succ]
          refine' takeY (i := 4) (oi := _) (v := _) ?hin4 (by kernel_rfl) (by kernel_rfl) (by kernel_rfl) (fun _ _ _ h => h) ?hwn4 ?hyn4 hHeld ?restn4
          case hin4 => (simp only [List.getElem?_toArray, List.getElem?_cons_succ, List.getElem?_cons_zero]; rfl)
          case hwn4 => rfl
          case hyn4 => (intro w hSw; (try dsimp only at hSw); go_simp; try with_reducible rfl)
          try simp only [Act.put, List.setIfInBounds_toArray, List.set_cons_zero, List.set_cons_succ]
          refine' takeY (i := 5) (oi := _) (v := _) ?hin5 (by kernel_rfl) (by kernel_rfl) (by kernel_rfl) (fun _ _ _ h => h) ?hwn5 ?hyn5 hHeld ?restn5
          case hin5 => (simp only [List.getElem?_toArray, List.getElem?_cons_succ, List.getElem?_cons_zero]; rfl)
          case hwn5 => rfl
          case hyn5 => (intro w hSw; (try dsimp only at hSw); go_simp; try with_reducible rfl)
          try simp only [Act.put, List.setIfInBounds_toArray, List.set_cons_zero, List.set_cons_succ]
          refine' takeY (i := 6) (oi := _) (v := _) ?hin6 (by kernel_rfl) (by kernel_rfl) (by kernel_rfl) (fun _ _ _ h => h) ?hwn6 ?hyn6 hHeld ?restn6
          case hin6 => (simp only [List.getElem?_toArray, List.getElem?_cons_succ, List.getElem?_cons_zero]; rfl)
          case hwn6 => rfl
          case hyn6 => (intro w hSw; (try dsimp only at hSw); go_simp; try with_reducible rfl)
          try simp only [Act.put, List.setIfInBounds_toArray, List.set_cons_zero, List.set_cons_succ]
          refine' takeY (i := 7) (oi := _) (v := _) ?hin7 (by kernel_rfl) (by kernel_rfl) (by kernel_rfl) (fun _ _ _ h => h) ?hwn7 ?hyn7 hHeld ?restn7
          case hin7 => (simp only [List.getElem?_toArray, List.getElem?_cons_succ, List.getElem?_cons_zero]; rfl)
          case hwn7 => rfl
          case hyn7 => (intro w hSw; (try dsimp only at hSw); go_simp; try with_reducible rfl)
          try simp only [Act.put, List.setIfInBounds_toArray, List.set_cons_zero, List.set_cons_succ]
          refine' takeY (i := 8) (oi := _) (v := _) ?hin8 (by kernel_rfl) (by kernel_rfl) (by kernel_rfl) (fun _ _ _ h => h) ?hwn8 ?hyn8 hHeld ?restn8
          case hin8 => (simp only [List.getElem?_toArray, List.getElem?_cons_succ, List.getElem?_cons_zero]; rfl)
          case hwn8 => rfl
          case hyn8 => (intro w hSw; (try dsimp only at hSw); go_simp; try with_reducible rfl)
          try simp only [Act.put, List.setIfInBounds_toArray, List.set_cons_zero, List.set_cons_succ]
          refine' takeN (i := 9) (oi := _) ?hin9 (by kernel_rfl) (by kernel_rfl) (by kernel_rfl) (fun _ _ _ h => h) ?hwn9 hHeld ?restn9
          case hin9 => (simp only [List.getElem?_toArray, List.getElem?_cons_succ, List.getElem?_cons_zero]; rfl)
          case hwn9 => rfl
          try simp only [Act.put, List.setIfInBounds_toArray, List.set_cons_zero, List.set_cons_succ]
          refine' takeN (i := 10) (oi := _) ?hin10 (by kernel_rfl) (by kernel_rfl) (by kernel_rfl) (fun _ _ _ h => h) ?hwn10 hHeld ?restn10
          case hin10 => (simp only [List.getElem?_toArray, List.getElem?_cons_succ, List.getElem?_cons_zero]; rfl)
          case hwn10 => rfl
          try simp only [Act.put, List.setIfInBounds_toArray, List.set_cons_zero, List.set_cons_succ]
          refine' takeN (i := 11) (oi := _) ?hin11 (by kernel_rfl) (by kernel_rfl) (by kernel_rfl) (fun _ _ _ h => h) ?hwn11 hHeld ?restn11
          case hin11 => (simp only [List.getElem?_toArray, List.getElem?_cons_succ, List.getElem?_cons_zero]; rfl)
          case hwn11 => rfl
          try simp only [Act.put, List.setIfInBounds_toArray, List.set_cons_zero, List.set_cons_succ]
          refine' takeN (i := 12) (oi := _) ?hin12 (by kernel_rfl) (by kernel_rfl) (by kernel_rfl) (fun _ _ _ h => h) ?hwn12 hHeld ?restn12
          case hin12 => (simp only [List.getElem?_toArray, List.getElem?_cons_succ, List.getElem?_cons_zero]; rfl)
          case hwn12 => rfl
          try simp only [Act.put, List.setIfInBounds_toArray, List.set_cons_zero, List.set_cons_succ]
          refine' takeN (i := 13) (oi := _) ?hin13 (by kernel_rfl) (by kernel_rfl) (by kernel_rfl) (fun _ _ _ h => h) ?hwn13 hHeld ?restn13
          case hin13 => (simp only [List.getElem?_toArray, List.getElem?_cons_succ, List.getElem?_cons_zero]; rfl)
          case hwn13 => rfl
          try simp only [Act.put, List.setIfInBounds_toArray, List.set_cons_zero, List.set_cons_succ]
          refine' takeN (i := 14) (oi := _) ?hin14 (by kernel_rfl) (by kernel_rfl) (by kernel_rfl) (fun _ _ _ h => h) ?hwn14 hHeld ?restn14
          case hin14 => (simp only [List.getElem?_toArray, List.getElem?_cons_succ, List.getElem?_cons_zero]; rfl)
          case hwn14 => rfl
          try simp only [Act.put, List.setIfInBounds_toArray, List.set_cons_zero, List.set_cons_succ]
          refine' takeN (i := 15) (oi := _) ?hin15 (by kernel_rfl) (by kernel_rfl) (by kernel_rfl) (fun _ _ _ h => h) ?hwn15 hHeld ?restn15
          case hin15 => (simp only [List.getElem?_toArray, List.getElem?_cons_succ, List.getElem?_cons_zero]; rfl)
          case hwn15 => rfl
          try simp only [Act.put, List.setIfInBounds_toArray, List.set_cons_zero, List.set_cons_succ]
          refine' takeN (i := 16) (oi := _) ?hin16 (by kernel_rfl) (by kernel_rfl) (by kernel_rfl) (fun _ _ _ h => h) ?hwn16 hHeld ?restn16
          case hin16 => (simp only [List.getElem?_toArray, List.getElem?_cons_succ, List.getElem?_cons_zero]; rfl)
          case hwn16 => rfl
          try simp only [Act.put, List.setIfInBounds_toArray, List.set_cons_zero, List.set_cons_succ]
          refine' takeN (i := 17) (oi := _) ?hin17 (by kernel_rfl) (by kernel_rfl) (by kernel_rfl) (fun _ _ _ h => h) ?hwn17 hHeld ?restn17
          case hin17 => (simp only [List.getElem?_toArray, List.getElem?_cons_succ, List.getElem?_cons_zero]; rfl)
          case hwn17 => rfl
          try simp only [Act.put, List.setIfInBounds_toArray, List.set_cons_zero, List.set_cons_succ]
          refine' takeN (i := 18) (oi := _) ?hin18 (by kernel_rfl) (by kernel_rfl) (by kernel_rfl) (fun _ _ _ h => h) ?hwn18 hHeld ?restn18
          case hin18 => (simp only [List.getElem?_toArray, List.getElem?_cons_succ, List.getElem?_cons_zero]; rfl)
          case hwn18 => rfl
          try simp only [Act.put, List.setIfInBounds_toArray, List.set_cons_zero, List.set_cons_succ]
          refine' takeN (i := 19) (oi := _) ?hin19 (by kernel_rfl) (by kernel_rfl) (by kernel_rfl) (fun _ _ _ h => h) ?hwn19 hHeld ?restn19
          case hin19 => (simp only [List.getElem?_toArray, List.getElem?_cons_succ, List.getElem?_cons_zero]; rfl)
          case hwn19 => rfl
          try simp only [Act.put, List.setIfInBounds_toArray, List.set_cons_zero, List.set_cons_succ]
          refine' takeN (i := 20) (oi := _) ?hin20 (by kernel_rfl) (by kernel_rfl) (by kernel_rfl) (fun _ _ _ h => h) ?hwn20 hHeld ?restn20
          case hin20 => (simp only [List.getElem?_toArray, List.getElem?_cons_succ, List.getElem?_cons_zero]; rfl)
          case hwn20 => rfl
          try simp only [Act.put, List.setIfInBounds_toArray, List.set_cons_zero, List.set_cons_succ]
          refine' takeN (i := 21) (oi := _) ?hin21 (by kernel_rfl) (by kernel_rfl) (by kernel_rfl) (fun _ _ _ h => h) ?hwn21 hHeld ?restn21
          case hin21 => (simp only [List.getElem?_toArray, List.getElem?_cons_succ, List.getElem?_cons_zero]; rfl)
          case hwn21 => rfl
          try simp only [Act.put, List.setIfInBounds_toArray, List.set_cons_zero, List.set_cons_succ]
          refine' takeN (i := 22) (oi := _) ?hin22 (by kernel_rfl) (by kernel_rfl) (by kernel_rfl) (fun _ _ _ h => h) ?hwn22 hHeld ?restn22
          case hin22 => (simp only [List.getElem?_toArray, List.getElem?_cons_succ, List.getElem?_cons_zero]; rfl)
          case hwn22 => rfl
          try simp only [Act.put, List.setIfInBounds_toArray, List.set_cons_zero, List.set_cons_succ]
          refine' takeN (i := 23) (oi := _) ?hin23 (by kernel_rfl) (by kernel_rfl) (by kernel_rfl) (fun _ _ _ h => h) ?hwn23 hHeld ?restn23
          case hin23 => (simp only [List.getElem?_toArray, List.getElem?_cons_succ, List.getElem?_cons_zero]; rfl)
          case hwn23 => rfl
          try simp only [Act.put, List.setIfInBounds_toArray, List.set_cons_zero, List.set_cons_succ]
          refine' takeN (i := 24) (oi := _) ?hin24 (by kernel_rfl) (by kernel_rfl) (by kernel_rfl) (fun _ _ _ h => h) ?hwn24 hHeld ?restn24
          case hin24 => (simp only [List.getElem?_toArray, List.getElem?_cons_succ, List.getElem?_cons_zero]; rfl)
          case hwn24 => rfl
          try simp only [Act.put, List.setIfInBounds_toArray, List.set_cons_zero, List.set_cons_succ]
          refine' takeN (i := 25) (oi := _) ?hin25 (by kernel_rfl) (by kernel_rfl) (by kernel_rfl) (fun _ _ _ h => h) ?hwn25 hHeld ?restn25
          case hin25 => (simp only [List.getElem?_toArray, List.getElem?_cons_succ, List.getElem?_cons_zero]; rfl)
          case hwn25 => rfl
          try simp only [Act.put, List.setIfInBounds_toArray, List.set_cons_zero, List.set_cons_succ]
          refine' takeN (i := 26) (oi := _) ?hin26 (by kernel_rfl) (by kernel_rfl) (by kernel_rfl) (fun _ _ _ h => h) ?hwn26 hHeld ?restn26
          case hin26 => (simp only [List.getElem?_toArray, List.getElem?_cons_succ, List.getElem?_cons_zero]; rfl)
          case hwn26 => rfl
          try simp only [Act.put, List.setIfInBounds_toArray, List.set_cons_zero, List.set_cons_succ]
          refine' takeN (i := 27) (oi := _) ?hin27 (by kernel_rfl) (by kernel_rfl) (by kernel_rfl) (fun _ _ _ h => h) ?hwn27 hHeld ?restn27
          case hin27 => (simp only [List.getElem?_toArray, List.getElem?_cons_succ, List.getElem?_cons_zero]; rfl)
          case hwn27 => rfl
          try simp only [Act.put, List.setIfInBounds_toArray, List.set_cons_zero, List.set_cons_succ]
          refine' takeN (i := 28) (oi := _) ?hin28 (by kernel_rfl) (by kernel_rfl) (by kernel_rfl) (fun _ _ _ h => h) ?hwn28 hHeld ?restn28
          case hin28 => (simp only [List.getElem?_toArray, List.getElem?_cons_succ, List.getElem?_cons_zero]; rfl)
          case hwn28 => rfl
          try simp only [Act.put, List.setIfInBounds_toArray, List.set_cons_zero, List.set_cons_succ]
          refine' takeN (i := 29) (oi := _) ?hin29 (by kernel_rfl) (by kernel_rfl) (by kernel_rfl) (fun _ _ _ h => h) ?hwn29 hHeld ?restn29
          case hin29 => (simp only [List.getElem?_toArray, List.getElem?_cons_succ, List.getElem?_cons_zero]; rfl)
          case hwn29 => rfl
          try simp only [Act.put, List.setIfInBounds_toArray, List.set_cons_zero, List.set_cons_succ]
          refine' takeN (i := 30) (oi := _) ?hin30 (by kernel_rfl) (by kernel_rfl) (by kernel_rfl) (fun _ _ _ h => h) ?hwn30 hHeld ?restn30
          case hin30 => (simp only [List.getElem?_toArray, List.getElem?_cons_succ, List.getElem?_cons_zero]; rfl)
          case hwn30 => rfl
          try simp only [Act.put, List.setIfInBounds_toArray, List.set_cons_zero, List.set_cons_succ]
          refine' takeN (i := 31) (oi := _) ?hin31 (by kernel_rfl) (by kernel_rfl) (by kernel_rfl) (fun _ _ _ h => h) ?hwn31 hHeld ?restn31
          case hin31 => (simp only [List.getElem?_toArray, List.getElem?_cons_succ, List.getElem?_cons_zero]; rfl)
          case hwn31 => rfl
          try simp only [Act.put, List.setIfInBounds_toArray, List.set_cons_zero, List.set_cons_succ]
          refine' takeN (i := 32) (oi := _) ?hin32 (by kernel_rfl) (by kernel_rfl) (by kernel_rfl) (fun _ _ _ h => h) ?hwn32 hHeld ?restn32
          case hin32 => (simp only [List.getElem?_toArray, List.getElem?_cons_succ, List.getElem?_cons_zero]; rfl)
          case hwn32 => rfl
          try simp only [Act.put, List.setIfInBounds_toArray, List.set_cons_zero, List.set_cons_succ]
          refine' takeN (i := 33) (oi := _) ?hin33 (by kernel_rfl) (by kernel_rfl) (by kernel_rfl) (fun _ _ _ h => h) ?hwn33 hHeld ?restn33
          case hin33 => (simp only [List.getElem?_toArray, List.getElem?_cons_succ, List.getElem?_cons_zero]; rfl)
          case hwn33 => rfl
          try simp only [Act.put, List.setIfInBounds_toArray, List.set_cons_zero, List.set_cons_succ]
          refine' takeN (i := 34) (oi := _) ?hin34 (by kernel_rfl) (by kernel_rfl) (by kernel_rfl) (fun _ _ _ h => h) ?hwn34 hHeld ?restn34
          case hin34 => (simp only [List.getElem?_toArray, List.getElem?_cons_succ, List.getElem?_cons_zero]; rfl)
          case hwn34 => rfl
          try simp only [Act.put, List.setIfInBounds_toArray, List.set_cons_zero, List.set_cons_succ]
          refine' takeY (i := 35) (oi := _) (v := _) ?hin35 (by kernel_rfl) (by kernel_rfl) (by kernel_rfl) (fun _ _ _ h => h) ?hwn35 ?hyn35 hHeld ?restn35
          case hin35 => (simp only [List.getElem?_toArray, List.getElem?_cons_succ, List.getElem?_cons_zero]; rfl)
          case hwn35 => rfl
          case hyn35 => (intro w hSw; (try dsimp only at hSw); go_simp; try with_reducible rfl)
          try simp only [Act.put, List.setIfInBounds_toArray, List.set_cons_zero, List.set_cons_succ]
          refine' takeY (i := 36) (oi := _) (v := _) ?hin36 (by kernel_rfl) (by kernel_rfl) (by kernel_rfl) (fun _ _ _ h => h) ?hwn36 ?hyn36 hHeld ?restn36
          case hin36 => (simp only [List.getElem?_toArray, List.getElem?_cons_succ, List.getElem?_cons_zero]; rfl)
          case hwn36 => rfl
          case hyn36 => (intro w hSw; (try dsimp only at hSw); go_simp; try with_reducible rfl)
          try simp only [Act.put, List.setIfInBounds_toArray, List.set_cons_zero, List.set_cons_succ]
          refine wpAnyH_done (by kernel_rfl) ?_ _
          refine NoPanic.normal ?_
          ·
            go_wp2
            go_roundw
            case rel => exact ⟨i + 1, hs', by go_num, by omega, by omega, INN.out, (M.out.next OK.out BL.out).less OK.out (fun _ q => q.elim)⟩
            case measure => simp [intOf]; omega
        · have hsame : hs' = hs := by rcases hc with h | h; exact absurd h c0; exact h
          rw [hsame] at M INN HL2 G2
          have c0b : (c == 0) = false := by simpa using c0
          have c0d : decide (c = 0) = false := by simpa using c0
          have c0n : (c != 0) = true := by simpa using c0
          clear hc hsame
          go_wp2_with fail
          refine (hof_at OK.out g hs ii M.out (by have := HL2.out; omega) x1 x2 x3 x4 xb OF1.out).mono ?_
          rintro e w11 ⟨rfl, hb⟩
          have K11 := Lib.hid (K11.out.below hb)
          have K12 := Lib.hid (K12.out.below hb)
          have K13 := Lib.hid (K13.out.below hb)
          have R6 := Lib.hid (R6.out.below hb)
          have M := Lib.hid (M.out.next OK.out hb)
          clear hb
          obtain ⟨wy, hwy⟩ : ∃ x, ((w11.alloc (.cells #[.int .i64 0, .int .i64 0] 39)).alloc (.cells #[.int .i64 0, .int .i64 0] 39)) = x := ⟨_, rfl⟩
          obtain ⟨g17, hg17⟩ : ∃ g, w11.heap.size = g := ⟨_, rfl⟩
          obtain ⟨g18, hg18⟩ : ∃ g, g17 + 1 = g := ⟨_, rfl⟩
          have KZ1 := Lib.hid (show Blk wy 39 g17 #[.int .i64 0, .int .i64 0] by rw [← hwy, ← hg17]; exact (Blk.new w11 _ _).alloc _)
          have KZ2 := Lib.hid (show Blk wy 39 g18 #[.int .i64 0, .int .i64 0] by rw [← hwy, ← hg18, ← hg17]; exact Blk.new2 w11 _ _ _)
          have BZ := Lib.hid (show Below w11.heap.size w11 wy by rw [← hwy]; exact wbox2 _ _ _)
          have GG := Lib.hid (show w11.heap.size = g17 ∧ g17 + 1 = g18 from ⟨hg17, hg18⟩)
          have ne1 : ¬ g17 = g18 := by omega
          have ne2 : ¬ g18 = g17 := by omega
          have za0 := KZ1.out.cell 0; have za1 := KZ1.out.cell 1; have zb0 := KZ2.out.cell 0; have zb1 := KZ2.out.cell 1
          have fa0 := KZ1.out.free 0; have fa1 := KZ1.out.free 1; have fb0 := KZ2.out.free 0; have fb1 := KZ2.out.free 1
          simp at za0 za1 zb0 zb1
          go_upto_region 24 with fail
          clear za0 za1 zb0 zb1 fa0 fa1 fb0 fb1 ne1 ne2
          obtain ⟨w12, hw12⟩ : ∃ x, (((wy.setCell ⟨g17, 0, none⟩ (.int .i64 x1)).setCell ⟨g17, 1, none⟩ (.int .i64 x2)).setCell ⟨g18, 0, none⟩ (.int .i64 x3)).setCell ⟨g18, 1, none⟩ (.int .i64 x4) = x := ⟨_, rfl⟩
          have hb : Below w11.heap.size w11 w12 := by rw [← hw12]; have hz := GG.out; exact (((BZ.out.setCell (show w11.heap.size ≤ g17 by omega) _).setCell (show w11.heap.size ≤ g17 by omega) _).setCell (show w11.heap.size ≤ g18 by omega) _).setCell (show w11.heap.size ≤ g18 by omega) _
          have K17 := Lib.hid (show Blk w12 39 g17 #[.int .i64 x1, .int .i64 x2] by rw [← hw12]; exact two_a KZ1.out KZ2.out (by have hz := GG.out; omega))
          have K18 := Lib.hid (show Blk w12 39 g18 #[.int .i64 x3, .int .i64 x4] by rw [← hw12]; exact two_b KZ1.out KZ2.out (by have hz := GG.out; omega))
          have K11 := Lib.hid (K11.out.below hb)
          have K12 := Lib.hid (K12.out.below hb)
          have K13 := Lib.hid (K13.out.below hb)
          have R6 := Lib.hid (R6.out.below hb)
          have M := Lib.hid (M.out.own2 OK.out hb (b1 := g17) (b2 := g18) (by have hz := GG.out; omega) K17.out.lt (by have hz := GG.out; omega) K18.out.lt)
          (try rw [hwy]); (try rw [hg17]); (try rw [hg18])
          (try rw [hw12])
          clear hb hw12 hwy hg17 hg18 KZ1 KZ2 BZ GG
          have KA2 := Lib.hid (KA.out.below M.out.below)
          have RA2 := Lib.hid (RA.out.below M.out.below)
          have KEPT := Lib.hid (show ∀ w' : World, Below w12.heap.size w12 w' → w'.cell? ⟨ga, 0, none⟩ = some (.slice aa la ca) ∧ w'.cell? ⟨ga, 1, none⟩ = some (.slice ab lb cb) ∧ w'.cell? ⟨g11, 0, none⟩ = some (.slice a6 l6 q6) ∧ w'.cell? ⟨g11, 1, none⟩ = some (.slice b6 k6 r6) ∧ w'.cell? ⟨g12, 0, none⟩ = some (.int .i64 x1) ∧ w'.cell? ⟨g12, 1, none⟩ = some (.int .i64 x2) ∧ w'.cell? ⟨g13, 0, none⟩ = some (.int .i64 x3) ∧ w'.cell? ⟨g13, 1, none⟩ = some (.int .i64 x4) ∧ w'.cell? ⟨g17, 0, none⟩ = some (.int .i64 x1) ∧ w'.cell? ⟨g17, 1, none⟩ = some (.int .i64 x2) ∧ w'.cell? ⟨g18, 0, none⟩ = some (.int .i64 x3) ∧ w'.cell? ⟨g18, 1, none⟩ = some (.int .i64 x4) from fun w' h => ⟨(KA2.out.below h).cell 0, (KA2.out.below h).cell 1, (K11.out.below h).cell 0, (K11.out.below h).cell 1, (K12.out.below h).cell 0, (K12.out.below h).cell 1, (K13.out.below h).cell 0, (K13.out.below h).cell 1, (K17.out.below h).cell 0, (K17.out.below h).cell 1, (K18.out.below h).cell 0, (K18.out.below h).cell 1⟩)
          have BL := Lib.hid (show Below w12.heap.size w12 w12.drew from (Below.refl w12.heap.size w12).drew)
          go_region_held3 (fun w' => w'.cell? ⟨ga, 0, none⟩ = some (.slice aa la ca) ∧ w'.cell? ⟨ga, 1, none⟩ = some (.slice ab lb cb) ∧ w'.cell? ⟨g11, 0, none⟩ = some (.slice a6 l6 q6) ∧ w'.cell? ⟨g11, 1, none⟩ = some (.slice b6 k6 r6) ∧ w'.cell? ⟨g12, 0, none⟩ = some (.int .i64 x1) ∧ w'.cell? ⟨g12, 1, none⟩ = some (.int .i64 x2) ∧ w'.cell? ⟨g13, 0, none⟩ = some (.int .i64 x3) ∧ w'.cell? ⟨g13, 1, none⟩ = some (.int .i64 x4) ∧ w'.cell? ⟨g17, 0, none⟩ = some (.int .i64 x1) ∧ w'.cell? ⟨g17, 1, none⟩ = some (.int .i64 x2) ∧ w'.cell? ⟨g18, 0, none⟩ = some (.int .i64 x3) ∧ w'.cell? ⟨g18, 1, none⟩ = some (.int .i64 x4))
            (with_reducible exact KEPT.out _ BL.out)
            (first
              | (go_at_call 26; (with_reducible refine (hheld OK.out g hs (M.out.next OK.out BL.out) (by have := HL2.out; omega)).mono ?_); intro e wh hq; obtain ⟨vh, nh, dh, rfl, hr, hlo, he, hb⟩ := held_tight hq G2.out.each (by have := HL2.out; omega); have RH := Lib.hid hr; have DH := Lib.hid hlo.2.1; have EH := Lib.hid he; clear hq hr hlo he; have BL := Lib.hid (below_next BL.out hb); clear hb)
              | (go_at_call 25; (with_reducible refine (rcmp_any _ _ nh dh N D 0 _ 14 1 _ RH.out (RA2.out.below BL.out) (by omega)).mono ?_); rintro e wc1 ⟨rfl, hb⟩; have t1 := cmp_within (held_within (sumH_frac G2.out.each).2 DH.out EH.out (fit_le.mp G2.out.fit)); obtain ⟨kc, hkc⟩ : ∃ k, cmpI (nh * D) (N * dh) = k := ⟨_, rfl⟩; rw [hkc] at t1 ⊢; clear hkc; have BL := Lib.hid (below_next BL.out hb); clear hb)
              | (go_at_call 25; (with_reducible refine (rcmp_any _ _ n6 d6 nh dh 0 0 14 14 _ (R6.out.below BL.out) RH.out (by omega)).mono ?_); rintro e wc2 ⟨rfl, hb⟩; rw [cmp_zero (held_same (sumH_frac G2.out.each).2 E6.out EH.out)]; have BL := Lib.hid (below_next BL.out hb); clear hb)
              | (go_at_call 30; (with_reducible refine (hlen OK.out g hs (M.out.next OK.out BL.out) (by have := HL2.out; omega)).mono ?_); rintro e wl ⟨rfl, hb⟩; have BL := Lib.hid (below_next BL.out hb); clear hb))
          all_goals
            go_wp2
            go_roundw
            case rel => exact ⟨i + 1, hs, by go_num, by omega, by omega, INN.out, (M.out.next OK.out BL.out).less OK.out (fun _ q => q.elim)⟩
            case measure => simp [intOf]; omega
    · have hend : (decide (i < len) = false ∧ decide ((i : Int) < (len : Int)) = false) ∨ (decide (i < len) = true ∧ decide ((i : Int) < (len : Int)) = true ∧ decide (i < 50) = false ∧ decide ((i : Int) < 50) = false) := by
        rcases Nat.lt_or_ge i len with q | q
        · exact .inr ⟨by simp; omega, by simp; omega, by simp; omega, by simp; omega⟩
        · exact .inl ⟨by simp; omega, by simp; omega⟩
      have BE := Lib.hid (below_next B3.out M.out.below)
      clear d1
      rcases hend with ⟨b1, b2⟩ | ⟨b1, b2, b3, b4⟩
      all_goals
        go_wp2
        go_ret
        exact ⟨rfl, BE.out⟩
end
end Go.Proofs.Ytphlkpkbdnddlaa
