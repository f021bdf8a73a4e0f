/-
  What package ratio's total gives back: contract.
  What package ratio's Add gives back: contract.
-/
import Derived.Test.YtphlkpkbdnddlaaRq3
namespace Go.Proofs.Ytphlkpkbdnddlaa
open Go.RowKit

/-- a slice of ratios that reads as rs, of at most L limbs each -/
def RowR (W : World) (a : Option Addr) (len cap L : Nat) (rs : List (Int × Int)) : Prop :=
  rs.length = len ∧ len ≤ cap ∧ cap ≤ 9223372036854775807 ∧
    ∀ i, i < len → ∃ b off an ln cn zn ad ld cd zd, a = some ⟨b, off, none⟩ ∧ W.cell? ⟨b, off + i * 2, none⟩ = some (.slice an ln cn) ∧ W.cell? ⟨b, off + i * 2 + 1, none⟩ = some (.slice ad ld cd) ∧
      Row .u32 W an ln cn zn ∧ Is 4294967296 zn (rs.getD i (0, 1)).1 ∧ Row .u32 W ad ld cd zd ∧ Is 4294967296 zd (rs.getD i (0, 1)).2 ∧ ln ≤ L ∧ ld ≤ L
theorem RowR.below {W W' : World} {a : Option Addr} {len cap L : Nat} {rs : List (Int × Int)} (h : RowR W a len cap L rs) (hb : Below W.heap.size W W') : RowR W' a len cap L rs := by
  refine ⟨h.1, h.2.1, h.2.2.1, fun i hi => ?_⟩
  obtain ⟨b, off, an, ln, cn, zn, ad, ld, cd, zd, ha, hc1, hc2, h1, h2, h3, h4, h5, h6⟩ := h.2.2.2 i hi
  exact ⟨b, off, an, ln, cn, zn, ad, ld, cd, zd, ha, (hb.cell (World.block_lt_of_cell? _ _ hc1)).trans hc1, (hb.cell (World.block_lt_of_cell? _ _ hc2)).trans hc2, h1.below hb, h2, h3.below hb, h4, h5, h6⟩
/-- the least ratio that is as much as N by D -/
def GivesLo (w : World) (L : Nat) (N D : Int) (e : Ending) (w' : World) : Prop :=
  ∃ v n d, e = .returned v ∧ Rat w' 0 L v n d ∧ Lo n d ∧ n * D = N * d ∧ Below w.heap.size w w'

theorem frac_add {n d N D an ad ni di Num Den : Int} (hd : 0 < d) (had : 0 < ad) (e1 : n * D = N * d) (e2 : an * di = ni * ad) (e3 : Num * (d * ad) = (n * ad + an * d) * Den) : Num * (D * di) = (N * di + ni * D) * Den := by
  have hp : d * ad ≠ 0 := by have := Int.mul_pos hd had; omega
  refine Int.eq_of_mul_eq_mul_right hp ?_
  have s1 : Num * (D * di) * (d * ad) = (Num * (d * ad)) * (D * di) := by grind
  have s2 : (n * ad + an * d) * Den * (D * di) = Den * ((n * D) * (ad * di) + (an * di) * (d * D)) := by grind
  rw [s1, e3, s2, e1, e2]
  grind
theorem lev_sum {n d an ad g : Int} (h1 : g ∣ d) (h2 : g ∣ ad) : (n * (ad / g) + an * (d / g)) * g = n * ad + an * d := by
  have e1 := Int.ediv_mul_cancel h1
  have e2 := Int.ediv_mul_cancel h2
  have : (n * (ad / g) + an * (d / g)) * g = n * (ad / g * g) + an * (d / g * g) := by grind
  rw [this, e1, e2]
theorem takeR {rs : List (Int × Int)} {t : Nat} (h : t < rs.length) : rs.take (t + 1) = rs.take t ++ [rs.getD t (0, 1)] := by
  rw [List.take_succ_eq_append_getElem h, List.getD_eq_getElem?_getD, List.getElem?_eq_getElem h]; rfl

set_option maxHeartbeats 4000000 in
theorem total_any (a : Option Addr) (len cap L : Nat) (rs : List (Int × Int)) (w : World) (h : RowR w a len cap L rs) (hp : ∀ p ∈ rs, 0 ≤ p.1 ∧ 0 < p.2) (hl : 1 + len * (L + 1) ≤ 800) :
    Calls Try.prog 76 #[.slice a len cap] w (GivesLo w (1 + len * (L + 1)) (sumR rs).1 (sumR rs).2) := by
  have H := Lib.hid h
  have HP := Lib.hid hp
  have LN := Lib.hid h.1
  have c1 := h.2.1
  have c2 := h.2.2.1
  clear h hp
  go_enter Try.func76, Try.ntmps76
  go_wp2_with fail
  obtain ⟨W0, hW0⟩ : ∃ W0, w.alloc (Obj.cells #[Value.slice none 0 0, Value.slice none 0 0] 27) = W0 := ⟨_, rfl⟩
  have B0 := Lib.hid (show Below w.heap.size w W0 by rw [← hW0]; exact below_box _ _)
  have H0 := Lib.hid (show W0.heap[w.heap.size]? = some (.cells #[.slice none 0 0, .slice none 0 0] 27 (0, 0)) by rw [← hW0]; exact heap_alloc_new _ _)
  rw [hW0]
  clear hW0
  refine (whole_any 0 W0 (by omega) (by omega)).mono ?_
  rintro e w1 ⟨_, rfl, ⟨an, ln, cn, zn, ad, ld, cd, zd, rfl, q1, q2, q3, q4, q5, q6, _, _⟩, hb1⟩
  have Q1 := Lib.hid q1; have Q2 := Lib.hid q2; have Q3 := Lib.hid q3; have Q4 := Lib.hid q4
  have B1 := Lib.hid (below_next B0.out hb1)
  have H1 := Lib.hid ((hb1.block _ (lt_of_block H0.out)).trans H0.out)
  clear q1 q2 q3 q4 hb1 H0
  go_wp2
  obtain ⟨W1, hW1⟩ : ∃ W1, w1.alloc (Obj.cells #[Value.slice an ln cn, Value.slice ad ld cd] 27) = W1 := ⟨_, rfl⟩
  obtain ⟨bs, hbs⟩ : ∃ bs, w1.heap.size = bs := ⟨_, rfl⟩
  have BW1 := Lib.hid (show Below w1.heap.size w1 W1 by rw [← hW1]; exact below_box _ _)
  have S1 := Lib.hid (show W1.heap[bs]? = some (.cells #[.slice an ln cn, .slice ad ld cd] 27 (0, 0)) by rw [← hW1, ← hbs]; exact heap_alloc_new _ _)
  have T1 := Lib.hid ((BW1.out.block _ (lt_of_block H1.out)).trans H1.out)
  have B2 := Lib.hid (below_next B1.out BW1.out)
  have BS := Lib.hid (show w.heap.size < bs by rw [← hbs]; exact lt_of_block H1.out)
  have L1 := Lib.hid (show ln ≤ 1 ∧ ld ≤ 1 from ⟨by rw [← Q1.out.len]; exact one_limb Q2.out (by omega), by rw [← Q3.out.len]; exact one_limb Q4.out (by omega)⟩)
  rw [hW1, hbs]
  clear hW1 hbs B1 H1 q5 q6
  go_loopw [12] (fun u wr => ∃ (i : Nat) (an : Option Addr) (ln cn : Nat) (zn : List Int) (ad : Option Addr) (ld cd : Nat) (zd : List Int) (n d : Int), u = .int .i64 i ∧ i ≤ len ∧ wr.heap[bs]? = some (.cells #[.slice an ln cn, .slice ad ld cd] 27 (0, 0)) ∧ wr.heap[w.heap.size]? = some (.cells #[.slice none 0 0, .slice none 0 0] 27 (0, 0)) ∧ Row .u32 wr an ln cn zn ∧ Is 4294967296 zn n ∧ Row .u32 wr ad ld cd zd ∧ Is 4294967296 zd d ∧ ln ≤ 1 + i * (L + 1) ∧ ld ≤ 1 + i * (L + 1) ∧ Lo n d ∧ n * (sumR (rs.take i)).2 = (sumR (rs.take i)).1 * d ∧ Below w.heap.size w wr) (fun u _ => len - (intOf u).toNat)
  case atStart => exact ⟨0, an, ln, cn, zn, ad, ld, cd, zd, 0, 1, rfl, Nat.zero_le _, S1.out, T1.out, Q1.out.below BW1.out, Q2.out, Q3.out.below BW1.out, Q4.out, by have := L1.out.1; omega, by have := L1.out.2; omega, ⟨by omega, by omega, by decide⟩, by simp [sumR], B2.out⟩
  case round =>
    clear Q1 Q2 Q3 Q4 S1 T1 L1 B2 BW1
    obtain ⟨i, an, ln, cn, zn, ad, ld, cd, zd, n, d, rfl, il, hS, hT, hrn, hin, hrd, hid, hln, hld, hlo, heq, hbel⟩ := hrel
    have HS := Lib.hid hS; have HT := Lib.hid hT
    have RN := Lib.hid hrn; have IN := Lib.hid hin; have RD := Lib.hid hrd; have ID := Lib.hid hid; have LO := Lib.hid hlo; have EQ := Lib.hid heq
    have HW := Lib.hid hbel
    have d0 := hlo.2.1
    have n0 := hlo.1
    clear hS hT hrn hin hrd hid hlo heq hbel
    by_cases go : i < len
    · have t1 : decide (i < len) = true := by simp; omega
      have hb1 : 1 + i * (L + 1) + (L + 1) ≤ 800 := by
        have : (i + 1) * (L + 1) ≤ len * (L + 1) := Nat.mul_le_mul_right _ (by omega)
        rw [Nat.add_mul] at this; omega
      have EL := Lib.hid (show 1 + (i + 1) * (L + 1) = 1 + i * (L + 1) + (L + 1) by rw [Nat.add_mul]; omega)
      obtain ⟨p, hp9⟩ : ∃ p, 1 + i * (L + 1) = p := ⟨_, rfl⟩
      rw [hp9] at hln hld hb1 EL
      clear hp9
      obtain ⟨ba, oa, bn, mn, kn, yn, bd, md, kd, yd, rfl, hx0, hy0, rn, in_, rd, id_, hmn, hmd⟩ := (H.out.below HW.out).2.2.2 i go
      obtain ⟨pr, hpr⟩ : ∃ pr, rs.getD i (0, 1) = pr := ⟨_, rfl⟩
      have hok : 0 ≤ pr.1 ∧ 0 < pr.2 := by
        rw [← hpr, List.getD_eq_getElem?_getD, List.getElem?_eq_getElem (by rw [LN.out]; exact go)]
        exact HP.out _ (List.getElem_mem _)
      obtain ⟨E, P⟩ := pr
      rw [hpr] at in_ id_
      have e0 : 0 ≤ E := hok.1
      have p0 : 0 < P := hok.2
      have SN := Lib.hid (sumR_snoc (rs.take i) (E, P))
      have TK := Lib.hid (show rs.take (i + 1) = rs.take i ++ [(E, P)] by rw [takeR (by rw [LN.out]; exact go), hpr])
      obtain ⟨N, hN⟩ : ∃ N, (sumR (rs.take i)).1 = N := ⟨_, rfl⟩
      obtain ⟨D, hD⟩ : ∃ D, (sumR (rs.take i)).2 = D := ⟨_, rfl⟩
      rw [hN, hD] at SN EQ
      have YN := Lib.hid rn; have JN := Lib.hid in_; have YD := Lib.hid rd; have JD := Lib.hid id_
      clear hpr hok hN hD rn in_ rd id_
      have j1 : (i : Int) < (len : Int) := by omega
      have j2 : 0 ≤ (i : Int) := by omega
      have zb := lt_of_block HS.out
      go_wp2_with fail
      obtain ⟨W2, hW2⟩ : ∃ W2, wr.alloc (Obj.cells #[Value.slice bn mn kn, Value.slice bd md kd] 27) = W2 := ⟨_, rfl⟩
      obtain ⟨ga, hga⟩ : ∃ ga, wr.heap.size = ga := ⟨_, rfl⟩
      have BW2 := Lib.hid (show Below wr.heap.size wr W2 by rw [← hW2]; exact below_box _ _)
      have A2 := Lib.hid (show W2.heap[ga]? = some (.cells #[.slice bn mn kn, .slice bd md kd] 27 (0, 0)) by rw [← hW2, ← hga]; exact heap_alloc_new _ _)
      have GB := Lib.hid (show bs < ga by rw [← hga]; exact zb)
      have WG := Lib.hid (show w.heap.size < ga by rw [← hga]; exact lt_of_block HT.out)
      have S2 := Lib.hid ((BW2.out.block _ zb).trans HS.out)
      have T2 := Lib.hid ((BW2.out.block _ (lt_of_block HT.out)).trans HT.out)
      have BB2 := Lib.hid (below_next HW.out BW2.out)
      rw [hW2, hga]
      clear hx0 hy0 hW2 hga zb
      refine (qcheck_yes _ E P L 0 W2 ⟨bn, mn, kn, yn, bd, md, kd, yd, rfl, YN.out.below BW2.out, JN.out, YD.out.below BW2.out, JD.out, hmn, hmd, fresh0 _, fresh0 _⟩ p0).mono ?_
      rintro e w3 ⟨rfl, hb3⟩
      have A3 := Lib.hid ((hb3.block _ (lt_of_block A2.out)).trans A2.out)
      have S3 := Lib.hid ((hb3.block _ (lt_of_block S2.out)).trans S2.out)
      have T3 := Lib.hid ((hb3.block _ (lt_of_block T2.out)).trans T2.out)
      have BR3 := Lib.hid (below_next BW2.out hb3)
      have BB3 := Lib.hid (below_next BB2.out hb3)
      clear hb3 A2 S2 T2 BB2 BW2
      have u0 : w3.cell? ⟨ga, 0, none⟩ = some (.slice bn mn kn) := block_cell A3.out
      have u1 : w3.cell? ⟨ga, 1, none⟩ = some (.slice bd md kd) := block_cell A3.out
      go_wp2_with fail
      clear u0 u1
      refine (least_any _ E P 0 L w3 ⟨bn, mn, kn, yn, bd, md, kd, yd, rfl, YN.out.below BR3.out, JN.out, YD.out.below BR3.out, JD.out, hmn, hmd, fresh0 _, fresh0 _⟩ p0 (by omega)).mono ?_
      rintro e w4 ⟨_, rfl, ⟨fn, gn, en, xn, fd, gd, ed, xd, rfl, q1, q2, q3, q4, q5, q6, _, _⟩, hb4⟩
      have LE := Lib.hid (lo_least e0 p0)
      obtain ⟨an', han⟩ : ∃ x, E / gc E P = x := ⟨_, rfl⟩
      obtain ⟨ad', had⟩ : ∃ x, P / gc E P = x := ⟨_, rfl⟩
      rw [han] at q2 LE
      rw [had] at q4 LE
      have Q1 := Lib.hid q1; have Q2 := Lib.hid q2; have Q3 := Lib.hid q3; have Q4 := Lib.hid q4
      have A4 := Lib.hid ((hb4.block _ (lt_of_block A3.out)).trans A3.out)
      have S4 := Lib.hid ((hb4.block _ (lt_of_block S3.out)).trans S3.out)
      have T4 := Lib.hid ((hb4.block _ (lt_of_block T3.out)).trans T3.out)
      have BR4 := Lib.hid (below_next BR3.out hb4)
      have BB4 := Lib.hid (below_next BB3.out hb4)
      clear hb4 A3 S3 T3 BB3 BR3 q1 q2 q3 q4 han had
      have v0 : w4.cell? ⟨ga, 0, none⟩ = some (.slice bn mn kn) := block_cell A4.out
      have v1 : w4.cell? ⟨ga, 1, none⟩ = some (.slice bd md kd) := block_cell A4.out
      have v2 : w4.frozen? ⟨ga, 0, none⟩ = false := block_free A4.out
      have v3 : w4.frozen? ⟨ga, 1, none⟩ = false := block_free A4.out
      have v4 : w4.cell? ⟨bs, 0, none⟩ = some (.slice an ln cn) := block_cell S4.out
      have v5 : w4.cell? ⟨bs, 1, none⟩ = some (.slice ad ld cd) := block_cell S4.out
      have v6 : bs ≠ ga := by have := GB.out; omega
      go_wp2_with fail
      obtain ⟨W5, hW5⟩ : ∃ W5, (w4.setCell ⟨ga, 0, none⟩ (.slice fn gn en)).setCell ⟨ga, 1, none⟩ (.slice fd gd ed) = W5 := ⟨_, rfl⟩
      have A5 := Lib.hid (show W5.heap[ga]? = some (.cells #[.slice fn gn en, .slice fd gd ed] 27 (0, 0)) by rw [← hW5]; exact two_set A4.out)
      have S5 := Lib.hid (show W5.heap[bs]? = some (.cells #[.slice an ln cn, .slice ad ld cd] 27 (0, 0)) by rw [← hW5, Below.heap_setCell _ _ _ _ (by simpa using v6), Below.heap_setCell _ _ _ _ (by simpa using v6)]; exact S4.out)
      have T5 := Lib.hid (show W5.heap[w.heap.size]? = some (.cells #[.slice none 0 0, .slice none 0 0] 27 (0, 0)) by
        have hne : w.heap.size ≠ ga := by have := WG.out; omega
        rw [← hW5, Below.heap_setCell _ _ _ _ (by simpa using hne), Below.heap_setCell _ _ _ _ (by simpa using hne)]; exact T4.out)
      have XN := Lib.hid (show Row .u32 W5 fn gn en xn by rw [← hW5]; exact Q1.out.box A4.out _ _)
      have XD := Lib.hid (show Row .u32 W5 fd gd ed xd by rw [← hW5]; exact Q3.out.box A4.out _ _)
      have RN5 := Lib.hid (show Row .u32 W5 an ln cn zn by rw [← hW5]; exact (RN.out.below BR4.out).box A4.out _ _)
      have RD5 := Lib.hid (show Row .u32 W5 ad ld cd zd by rw [← hW5]; exact (RD.out.below BR4.out).box A4.out _ _)
      have BB5 := Lib.hid (show Below w.heap.size w W5 by rw [← hW5]; exact (BB4.out.setCell (Nat.le_of_lt WG.out) _).setCell (Nat.le_of_lt WG.out) _)
      rw [hW5]
      clear hW5 v0 v1 v2 v3 v4 v5 v6 A4 S4 T4 Q1 Q3 BR4 BB4 YN YD RN RD
      have ad0 : 0 < ad' := LE.out.1.2.1
      refine (level_any _ _ n d an' ad' 0 0 p L W5 ⟨an, ln, cn, zn, ad, ld, cd, zd, rfl, RN5.out, IN.out, RD5.out, ID.out, hln, hld, fresh0 _, fresh0 _⟩ ⟨fn, gn, en, xn, fd, gd, ed, xd, rfl, XN.out, Q2.out, XD.out, Q4.out, q5, q6, fresh0 _, fresh0 _⟩ ad0 (by omega) (by omega)).mono ?_
      rintro e w6 ⟨a1, l1, k1, z1, a2, l2, k2, z2, a3, l3, k3, z3, rfl, hr1, hi1, hr2, hi2, hr3, hi3, hl1, hl2, hl3, hb6⟩
      obtain ⟨g, hg⟩ : ∃ g, gc d ad' = g := ⟨_, rfl⟩
      have g0 : 0 < g := by have := gc_pos (a := d) ad0; omega
      have SUM := Lib.hid (lo_sum (t := n * (ad' / g) + an' * (d / g)) LO.out LE.out.1 (Int.add_nonneg (Int.mul_nonneg n0 (Int.ediv_nonneg (by omega) (by omega))) (Int.mul_nonneg LE.out.1.1 (Int.ediv_nonneg (by omega) (by omega)))) (.inl (by rw [hg])))
      rw [hg] at hi1 hi2 hi3 SUM
      have LV := Lib.hid (lev_sum (n := n) (an := an') (show g ∣ d by rw [← hg]; exact gc_dvd) (show g ∣ ad' by rw [← hg]; exact gc_dvd'))
      have R1 := Lib.hid hr1; have R2 := Lib.hid hr2; have R3 := Lib.hid hr3; have I1 := Lib.hid hi1; have I2 := Lib.hid hi2; have I3 := Lib.hid hi3
      have A6 := Lib.hid (show w6.drew.heap[ga]? = _ from (hb6.block _ (lt_of_block A5.out)).trans A5.out)
      have S6 := Lib.hid (show w6.drew.heap[bs]? = _ from (hb6.block _ (lt_of_block S5.out)).trans S5.out)
      have T6 := Lib.hid (show w6.drew.heap[w.heap.size]? = _ from (hb6.block _ (lt_of_block T5.out)).trans T5.out)
      have RDen := Lib.hid (show Row .u32 w6.drew ad ld cd zd from RD5.out.below hb6.drew)
      have XDen := Lib.hid (show Row .u32 w6.drew fd gd ed xd from XD.out.below hb6.drew)
      have BB6 := Lib.hid (show Below w.heap.size w w6.drew from (below_next BB5.out hb6).drew)
      clear hr1 hr2 hr3 hi1 hi2 hi3 hb6 hg A5 S5 T5 RN5 RD5 XN XD BB5
      have x1 : w6.cell? ⟨bs, 1, none⟩ = some (.slice ad ld cd) := block_cell S6.out
      have x2 : w6.cell? ⟨ga, 1, none⟩ = some (.slice fd gd ed) := block_cell A6.out
      have o1 : p + L ≤ 1000 := by omega
      have o3 : ld ≤ 800 := by omega
      have o4 : gd ≤ 800 := by omega
      have o5 : ld + gd ≤ p + (L + 1) := by omega
      have o6 : p + (L + 1) ≤ 800 := by omega
      have sz1 := lt_of_block S6.out
      have sz2 := lt_of_block A6.out
      have sz3 := lt_of_block T6.out
      go_wp2
      go_region_with
        (first
          | (go_at_call 87; refine (nAdd_is (p + L) a1 l1 k1 z1 _ a2 l2 k2 z2 _ w6.drew R1.out.drew I1.out R2.out.drew I2.out o1 hl1 hl2).mono ?_; rintro e w7 ⟨a4, l4, k4, z4, rfl, hr, hi, hl4, hb⟩; have R4 := Lib.hid hr; have I4 := Lib.hid hi; have B7 := Lib.hid hb; have S7 := Lib.hid ((hb.block _ sz1).trans S6.out); have A7 := Lib.hid ((hb.block _ sz2).trans A6.out); have m0 : w7.cell? ⟨bs, 1, none⟩ = some (.slice ad ld cd) := block_cell S7.out; have m1 : w7.cell? ⟨ga, 1, none⟩ = some (.slice fd gd ed) := block_cell A7.out; clear hr hi hb)
          | (go_at_call 57; refine (lower_any a4 l4 k4 z4 _ ad ld cd zd d fd gd ed xd ad' a3 l3 k3 z3 g (p + (L + 1)) w7 R4.out I4.out (RDen.out.below B7.out) ID.out (XDen.out.below B7.out) Q4.out (R3.out.drew.below B7.out) I3.out g0 (Nat.le_trans hl4 o6) o3 o4 hl3 hl4 o5).mono ?_; rintro e w8 ⟨_, rfl, ⟨a5, l5, k5, z5, a6, l6, k6, z6, rfl, hr5, hi5, hr6, hi6, hl5, hl6, _, _⟩, hb⟩; have R5 := Lib.hid hr5; have I5 := Lib.hid hi5; have R6 := Lib.hid hr6; have I6 := Lib.hid hi6; have B8 := Lib.hid hb; have S8 := Lib.hid ((hb.block _ (lt_of_block S7.out)).trans S7.out); have y0 : w8.cell? ⟨bs, 0, none⟩ = some (.slice an ln cn) := block_cell S8.out; have y1 : w8.cell? ⟨bs, 1, none⟩ = some (.slice ad ld cd) := block_cell S8.out; have y2 : w8.frozen? ⟨bs, 0, none⟩ = false := block_free S8.out; have y3 : w8.frozen? ⟨bs, 1, none⟩ = false := block_free S8.out; clear hr5 hi5 hr6 hi6 hb))
      all_goals
        go_wp2
        go_roundw
        case rel =>
          refine ⟨i + 1, a5, l5, k5, z5, a6, l6, k6, z6, _, _, by go_num, by omega, two_set S8.out, ?_, R5.out.box S8.out _ _, I5.out, R6.out.box S8.out _ _, I6.out, by rw [EL.out]; exact hl5, by rw [EL.out]; exact hl6, SUM.out.1, ?_, ?_⟩
          · have hne : w.heap.size ≠ bs := by have := BS.out; omega
            rw [Below.heap_setCell _ _ _ _ (by simpa using hne), Below.heap_setCell _ _ _ _ (by simpa using hne)]
            exact (B8.out.block _ (Nat.lt_of_lt_of_le sz3 B7.out.size)).trans ((B7.out.block _ sz3).trans T6.out)
          · rw [TK.out, SN.out]
            exact frac_add d0 ad0 EQ.out LE.out.2 (by rw [SUM.out.2, LV.out])
          · exact ((below_next (below_next BB6.out B7.out) B8.out).setCell (Nat.le_of_lt BS.out) _).setCell (Nat.le_of_lt BS.out) _
        case measure => simp [intOf]; omega
    · have t1 : decide (i < len) = false := by simp; omega
      obtain rfl : i = len := by omega
      have EL := Lib.hid (show rs.take i = rs by rw [List.take_of_length_le (by rw [LN.out]; omega)])
      rw [EL.out] at EQ
      have k0 : wr.cell? ⟨bs, 0, none⟩ = some (.slice an ln cn) := block_cell HS.out
      have k1 : wr.cell? ⟨bs, 1, none⟩ = some (.slice ad ld cd) := block_cell HS.out
      have r0 : wr.cell? ⟨w.heap.size, 0, none⟩ = some (.slice none 0 0) := block_cell HT.out
      have r1 : wr.cell? ⟨w.heap.size, 1, none⟩ = some (.slice none 0 0) := block_cell HT.out
      have f0 : wr.frozen? ⟨w.heap.size, 0, none⟩ = false := block_free HT.out
      have f1 : wr.frozen? ⟨w.heap.size, 1, none⟩ = false := block_free HT.out
      go_wp2
      refine bodyPost_ret (v := .agg #[.slice an ln cn, .slice ad ld cd]) (by simp [results, Try.results76, go_sem, r0, r1]) rfl ⟨_, n, d, rfl, ⟨an, ln, cn, zn, ad, ld, cd, zd, rfl, RN.out.box HT.out _ _, IN.out, RD.out.box HT.out _ _, ID.out, hln, hld, fresh0 _, fresh0 _⟩, LO.out, EQ.out, ?_⟩
      exact (HW.out.setCell (Nat.le_refl _) _).setCell (Nat.le_refl _) _
end Go.Proofs.Ytphlkpkbdnddlaa
namespace Go.Proofs.Ytphlkpkbdnddlaa
open Go.RowKit

theorem sumR_two (n1 d1 n2 d2 : Int) : sumR [(n1, d1), (n2, d2)] = (n1 * d2 + n2 * d1, d1 * d2) := by
  unfold sumR
  simp
end Go.Proofs.Ytphlkpkbdnddlaa
