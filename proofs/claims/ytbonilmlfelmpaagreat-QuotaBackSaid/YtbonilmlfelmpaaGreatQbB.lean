/-
  The document's own tree (regattaref13): a holder that is changed in place; Ask: contract.
  The document's own tree (regattaref13): Settle, Free: contracts.
  The document's own tree (regattaref13) once more, in the words of what is asked.
-/
import Derived.Test.YtbonilmlfelmpaaGreatQb7
import Derived.BigRegion
import Derived.Test.YtbonilmlfelmpaaGreatHoC
namespace Go.Proofs.YtbonilmlfelmpaaGreat
open Go.RowKit

theorem hq_cell {W : World} {g o : Nat} {s : Hq} (h : HqAt W g o s) {k : Nat} (hk : k < 7) : W.cell? ⟨g, o + k, none⟩ = s.cs[k]? := by
  match k, hk with
  | 0, _ => exact h.c0
  | 1, _ => exact h.c1
  | 2, _ => exact h.c2
  | 3, _ => exact h.c3
  | 4, _ => exact h.c4
  | 5, _ => exact h.c5
  | 6, _ => exact h.c6
theorem csq_len (s : Hq) : s.cs.length = 7 := rfl
/-- a row that reads so, in a block of its own -/
theorem QueQ.of_at {W : World} {g off cap : Nat} {cur : Array Value} {l : List Hq} (hg : W.heap[g]? = some (.cells cur 54 (0, 0))) (h1 : l.length ≤ cap) (h2 : cap ≤ maxLen) (h3 : off + cap * 7 ≤ cur.size) (h : ∀ i s, l[i]? = some s → HqAt W g (off + i * 7) s) : QueQ W (.slice (some ⟨g, off, none⟩) l.length cap) l := by
  refine ⟨flatQ_len l, .inr ⟨g, off, cap, cur, rfl, Nat.zero_le _, hg, h1, h2, h3, ?_⟩⟩
  have hm := Nat.mul_le_mul_right 7 h1
  refine List.ext_getElem? fun k => ?_
  rcases Nat.lt_or_ge k (l.length * 7) with hk | hk
  · have hi : k / 7 < l.length := by omega
    have hs : l[k / 7]? = some l[k / 7] := List.getElem?_eq_getElem hi
    have hf := flatQ_at hs (k := k % 7) (by omega)
    rw [show k / 7 * 7 + k % 7 = k by omega] at hf
    rw [hf, ← hq_cell (h _ _ hs) (show k % 7 < 7 by omega), show off + k / 7 * 7 + k % 7 = off + k by omega]
    rw [cell_of_row W g (off + k) cur _ (0, 0) hg, List.getElem?_take, if_pos hk, List.getElem?_drop, Array.getElem?_toList]
  · rw [List.getElem?_eq_none (l := (l.map Hq.cs).flatten) (by rw [flatQ_len]; exact hk), List.getElem?_eq_none (by rw [List.length_take]; omega)]
/-- where a row of one's own lies -/
theorem own_blockQ {W : World} {base : Nat} {v : Value} {hs : List Hq} (h : W.ownsRow base 54 7 v hs.length (hs.map Hq.cs).flatten) (h0 : 0 < hs.length) : ∃ g cap cur, v = .slice (some ⟨g, 0, none⟩) hs.length cap ∧ base ≤ g ∧ W.heap[g]? = some (.cells cur 54 (0, 0)) ∧ hs.length ≤ cap ∧ cap ≤ maxLen ∧ 0 + cap * 7 ≤ cur.size ∧ ∀ i s, hs[i]? = some s → HqAt W g (0 + i * 7) s := by
  obtain ⟨a, cap', hv, hr, _⟩ := qrow_of_owns h
  rcases h.2 with ⟨_, h2⟩ | ⟨g, cap, cur, hv2, hb, hg, h1, h2, h3, _⟩
  · omega
  · rw [hv2] at hv
    simp only [Value.slice.injEq] at hv
    obtain ⟨rfl, _, rfl⟩ := hv
    refine ⟨g, cap, cur, hv2, hb, hg, h1, h2, by omega, fun i s hs' => ?_⟩
    obtain ⟨b, off, he, hat⟩ := hr.at hs'
    simp only [Option.some.injEq, Addr.mk.injEq, and_true] at he
    obtain ⟨rfl, rfl⟩ := he
    exact hat
theorem HqAt.set {W : World} {g o p : Nat} {s : Hq} (h : HqAt W g o s) (u : Value) (hp : p < o ∨ o + 7 ≤ p) : HqAt (W.setCell ⟨g, p, none⟩ u) g o s := by
  have q : ∀ k, k < 7 → (W.setCell ⟨g, p, none⟩ u).cell? ⟨g, o + k, none⟩ = W.cell? ⟨g, o + k, none⟩ := fun k hk => cOther (addr_ne (by omega))
  exact ⟨(q 0 (by omega)).trans h.c0, (q 1 (by omega)).trans h.c1, (q 2 (by omega)).trans h.c2, (q 3 (by omega)).trans h.c3, (q 4 (by omega)).trans h.c4, (q 5 (by omega)).trans h.c5, (q 6 (by omega)).trans h.c6⟩
theorem HqAt.ask {W : World} {g o : Nat} {s : Hq} (h : HqAt W g o s) (E P : Int) : HqAt (((W.setCell ⟨g, o + 4, none⟩ (.int .i64 E)).setCell ⟨g, o + 5, none⟩ (.int .i64 P)).setCell ⟨g, o + 6, none⟩ (.bool true)) g o (askQ1 s E P) := by
  have n : ∀ a b : Nat, a ≠ b → (⟨g, o + a, none⟩ : Addr) ≠ ⟨g, o + b, none⟩ := fun a b h => addr_ne (by omega)
  have n0 : ∀ b : Nat, 0 ≠ b → (⟨g, o + b, none⟩ : Addr) ≠ ⟨g, o, none⟩ := fun b h => addr_ne (by omega)
  refine ⟨?_, ?_, ?_, ?_, ?_, ?_, ?_⟩
  · rw [cOther (n0 6 (by omega)), cOther (n0 5 (by omega)), cOther (n0 4 (by omega))]; exact h.c0
  · rw [cOther (n 6 1 (by omega)), cOther (n 5 1 (by omega)), cOther (n 4 1 (by omega))]; exact h.c1
  · rw [cOther (n 6 2 (by omega)), cOther (n 5 2 (by omega)), cOther (n 4 2 (by omega))]; exact h.c2
  · rw [cOther (n 6 3 (by omega)), cOther (n 5 3 (by omega)), cOther (n 4 3 (by omega))]; exact h.c3
  · rw [cOther (n 6 4 (by omega)), cOther (n 5 4 (by omega))]; exact cSame h.c4
  · rw [cOther (n 6 5 (by omega))]; exact cSame ((cOther (n 4 5 (by omega))).trans h.c5)
  · exact cSame ((cOther (n 5 6 (by omega))).trans ((cOther (n 4 6 (by omega))).trans h.c6))
/-- the row behind it -/
theorem QueQ.asked {W : World} {g cap : Nat} {cur : Array Value} {l : List Hq} {j : Nat} {x : Hq} (E P : Int) (hg : W.heap[g]? = some (.cells cur 54 (0, 0))) (h1 : l.length ≤ cap) (h2 : cap ≤ maxLen) (h3 : 0 + cap * 7 ≤ cur.size) (h : ∀ i s, l[i]? = some s → HqAt W g (0 + i * 7) s) (hj : l[j]? = some x) :
    QueQ (((W.setCell ⟨g, 0 + j * 7 + 4, none⟩ (.int .i64 E)).setCell ⟨g, 0 + j * 7 + 5, none⟩ (.int .i64 P)).setCell ⟨g, 0 + j * 7 + 6, none⟩ (.bool true)) (.slice (some ⟨g, 0, none⟩) l.length cap) (l.set j (askQ1 x E P)) := by
  have hb := Blk.setH (Blk.setH (Blk.setH (W := W) (T := 54) (g := g) (cs := cur) hg (0 + j * 7 + 4) (.int .i64 E)) (0 + j * 7 + 5) (.int .i64 P)) (0 + j * 7 + 6) (.bool true)
  have hl : (l.set j (askQ1 x E P)).length = l.length := List.length_set
  rw [← hl]
  refine QueQ.of_at (off := 0) hb (by rw [hl]; exact h1) h2 (by simp only [Array.size_setIfInBounds]; exact h3) fun i s hi => ?_
  by_cases e : j = i
  · subst e
    have hlt : j < l.length := by
      rcases Nat.lt_or_ge j l.length with q | q
      · exact q
      · rw [List.getElem?_eq_none q] at hj; cases hj
    rw [List.getElem?_set_self hlt] at hi
    cases hi
    exact (h j x hj).ask E P
  · rw [List.getElem?_set_ne e] at hi
    exact (((h i s hi).set _ (by omega)).set _ (by omega)).set _ (by omega)
set_option maxHeartbeats 2000000 in
theorem r13ask_arg (r : Nat) (F : Nat → Prop) (v sv : Value) (hs : List Hq) (id E P : Int) (w : World) (h : RQ w r F v sv hs) (hM : ¬ MayBe E P) :
    Calls Tryz.prog 12 #[.pointer (some ⟨r, 0, none⟩), .int .i64 id, .agg #[.int .i64 E, .int .i64 P]] w fun e w' => e = .returned (.int .i64 1) ∧ QStay w r F v sv hs w' := by
  have H := Lib.hid h
  have HM := Lib.hid hM
  clear h hM
  go_enter Tryz.func12, Tryz.ntmps12
  go_wp2_with fail
  refine (r4check_any E P _ false ⟨fun h => (by cases h), fun h => absurd h HM.out⟩).mono ?_
  rintro e w1 ⟨rfl, hb⟩
  have B := Lib.hid (below_next (wbox _ _) hb)
  clear hb
  go_wp2
  go_ret
  exact ⟨rfl, H.out.stay B.out⟩
set_option maxHeartbeats 2000000 in
theorem r13ask_none (r : Nat) (F : Nat → Prop) (v sv : Value) (hs : List Hq) (id E P : Int) (w : World) (h : RQ w r F v sv hs) (hM : MayBe E P) (hid : ∀ x ∈ hs, x.h.id ≠ id) :
    Calls Tryz.prog 12 #[.pointer (some ⟨r, 0, none⟩), .int .i64 id, .agg #[.int .i64 E, .int .i64 P]] w fun e w' => e = .returned (.int .i64 12) ∧ QStay w r F v sv hs w' := by
  have H := Lib.hid h
  have HM := Lib.hid hM
  have HI := Lib.hid hid
  clear h hM hid
  go_enter Tryz.func12, Tryz.ntmps12
  go_wp2_with fail
  refine (r4check_yes E P _ HM.out).mono ?_
  rintro e w1 ⟨rfl, hb⟩
  have B := Lib.hid (below_next (wbox _ _) hb)
  clear hb
  go_wp2_with fail
  refine (r13at_any r F v _ hs id _ (H.out.below B.out)).mono ?_
  rintro e w2 ⟨k, rfl, hk, rfl⟩
  have hn : k < 0 := by
    rcases atq_neg hk with ⟨hn, _, _⟩ | ⟨_, j, x, _, hj, hx⟩
    · exact hn
    · exact absurd hx (HI.out x (List.mem_of_getElem? hj))
  have t : decide (k < 0) = true := decide_eq_true hn
  clear hk hn
  go_wp2
  go_ret
  exact ⟨rfl, H.out.stay B.out⟩
set_option maxHeartbeats 2000000 in
theorem r13ask_state (r : Nat) (F : Nat → Prop) (v sv : Value) (hs : List Hq) (id E P : Int) (j : Nat) (x : Hq) (w : World) (h : RQ w r F v sv hs) (hM : MayBe E P) (hj : hs[j]? = some x) (hx : x.h.id = id) (uq : ∀ i y, hs[i]? = some y → y.h.id = id → i = j) (ha : x.h.asked = true) :
    Calls Tryz.prog 12 #[.pointer (some ⟨r, 0, none⟩), .int .i64 id, .agg #[.int .i64 E, .int .i64 P]] w fun e w' => e = .returned (.int .i64 13) ∧ QStay w r F v sv hs w' := by
  have H := Lib.hid h
  have HM := Lib.hid hM
  have UQ := Lib.hid uq
  have HJ := Lib.hid hj
  have HX := Lib.hid hx
  clear h hM uq hj hx
  go_enter Tryz.func12, Tryz.ntmps12
  go_wp2_with fail
  refine (r4check_yes E P _ HM.out).mono ?_
  rintro e w1 ⟨rfl, hb⟩
  have B := Lib.hid (below_next (wbox _ _) hb)
  clear hb
  go_wp2_with fail
  refine (r13at_any r F v _ hs id _ (H.out.below B.out)).mono ?_
  rintro e w2 ⟨k, rfl, hk, hw⟩
  have hkj : k = (j : Int) := by
    rcases atq_neg hk with ⟨_, _, hn⟩ | ⟨_, i, y, e, hi, hy⟩
    · exact absurd HX.out (hn x (List.mem_of_getElem? HJ.out))
    · rw [e, UQ.out i y hi hy]
  subst hkj hw
  obtain ⟨an, ln, cn, ad, ld, cd, sa', sl', sc', u, hvv, hsv', hbl, hq, hnu, hF⟩ := H.out.below B.out
  obtain ⟨a, cap, rfl, hr⟩ := hq.row
  obtain ⟨b, off, rfl, hat⟩ := hr.at HJ.out
  obtain ⟨n, hn0⟩ : ∃ n, hs.length = n := ⟨_, rfl⟩
  have jn : j < n := by
    rw [← hn0]
    rcases Nat.lt_or_ge j hs.length with q | q
    · exact q
    · have := HJ.out; rw [List.getElem?_eq_none q] at this; cases this
  rw [hn0] at hbl hr
  have ⟨c1, c3⟩ := RowF.cap_le hr
  have c2 := hbl.cell 3
  simp at c2
  have y5 := hat.c6
  rw [ha] at y5
  have j1 : (j : Int) < (n : Int) := by omega
  have j2 : 0 ≤ (j : Int) := by omega
  have t : decide ((j : Int) < 0) = false := decide_eq_false (by omega)
  clear hbl hq hr hnu hF hn0 hat hk
  go_wp2
  go_ret
  exact ⟨rfl, H.out.stay B.out⟩
set_option maxRecDepth 20000 in
set_option maxHeartbeats 8000000 in
theorem r13ask_new (r : Nat) (F : Nat → Prop) (v : Value) (sa : Option Addr) (n0 sc : Nat) (S : List Sv) (hs : List Hq) (id E P N D : Int) (j : Nat) (x : Hq) (L b : Nat) (w : World) (h : RQ w r F v (.slice sa n0 sc) hs) (hS : RowS w sa n0 sc S) (gS : GoodSv S) (hv : Rat w b L v N D) (g : ∀ x ∈ hs, GoodH x.h) (gs : ∀ q ∈ hs, hasB S q.srv = true) (hM : MayBe E P) (hj : hs[j]? = some x) (hx : x.h.id = id) (uq : ∀ i y, hs[i]? = some y → y.h.id = id → i = j) (ha : x.h.asked = false) (hl : hs.length ≤ 20) (hL : L ≤ 9) (c : Int) (hs' : List Hq) (hc : fitsP S N D x.srv (hs.set j (askQ1 x E P)) = true → c = 0 ∧ hs' = hs.set j (askQ1 x E P)) (hc' : fitsP S N D x.srv (hs.set j (askQ1 x E P)) = false → c = 18 ∧ hs' = hs) :
    Calls Tryz.prog 12 #[.pointer (some ⟨r, 0, none⟩), .int .i64 id, .agg #[.int .i64 E, .int .i64 P]] w fun e w' => e = .returned (.int .i64 c) ∧ QStay w r F v (.slice sa n0 sc) hs' w' := by
  have HC := Lib.hid hc
  have HC' := Lib.hid hc'
  have H := Lib.hid h
  have V := Lib.hid hv
  have HM := Lib.hid hM
  have UQ := Lib.hid uq
  have HJ := Lib.hid hj
  have HX := Lib.hid hx
  have HL := Lib.hid hl
  have LL := Lib.hid hL
  have jn0 : j < hs.length := by
    rcases Nat.lt_or_ge j hs.length with q | q
    · exact q
    · rw [List.getElem?_eq_none q] at hj; cases hj
  have G := Lib.hid (show ∀ y ∈ hs.set j (askQ1 x E P), GoodH y.h from fun y hy => by
    rcases List.mem_or_eq_of_mem_set hy with q | q
    · exact g y q
    · subst q; exact ⟨(g x (List.mem_of_getElem? hj)).now, fun _ => hM⟩)
  have RS := Lib.hid hS
  have GS := Lib.hid gS
  have HSV := Lib.hid (gs x (List.mem_of_getElem? hj))
  have GV := Lib.hid (show ∀ y ∈ hs.set j (askQ1 x E P), hasB S y.srv = true from fun y hy => by
    rcases List.mem_or_eq_of_mem_set hy with q | q
    · exact gs y q
    · subst q; exact gs x (List.mem_of_getElem? hj))
  clear hc hc' h hv hM uq hj hx hl hL g hS gS gs
  have K := Lib.hid (Blk.new w 46 #[.int .i64 E, .int .i64 P])
  go_enter Tryz.func12, Tryz.ntmps12
  go_wp2_with fail
  refine (r4check_yes E P _ HM.out).mono ?_
  rintro e w1 ⟨rfl, hb⟩
  have K := Lib.hid (K.out.below hb)
  have B1 := Lib.hid (below_next (wbox _ _) hb)
  clear hb
  go_wp2_with fail
  refine (r13at_any r F v _ hs id _ (H.out.below B1.out)).mono ?_
  rintro e w2 ⟨k, rfl, hk, hw⟩
  have hkj : k = (j : Int) := by
    rcases atq_neg hk with ⟨_, _, hn⟩ | ⟨_, i, y, e, hi, hy⟩
    · exact absurd HX.out (hn x (List.mem_of_getElem? HJ.out))
    · rw [e, UQ.out i y hi hy]
  clear hk
  subst hkj
  rw [hw] at K B1
  clear hw w1
  have H2 := Lib.hid (H.out.below B1.out)
  obtain ⟨an, ln, cn, ad, ld, cd, sa', sl', sc', u, hvv, hsv', hbl, hq, hnu, hF⟩ := H2.out
  obtain ⟨a, cap, rfl, hr⟩ := hq.row
  obtain ⟨b0, off, rfl, hat⟩ := hr.at HJ.out
  obtain ⟨n, hn0⟩ : ∃ n, hs.length = n := ⟨_, rfl⟩
  have HN := Lib.hid hn0
  have jn0' := jn0
  rw [hn0] at jn0'
  rw [hn0] at hbl hr
  have ⟨c1, c3⟩ := RowF.cap_le hr
  have c2 := hbl.cell 3
  simp at c2
  have y5 := hat.c6
  rw [ha] at y5
  have j1 : (j : Int) < (n : Int) := by omega
  have j2 : 0 ≤ (j : Int) := by omega
  have t : decide ((j : Int) < 0) = false := decide_eq_false (by omega)
  have R := Lib.hid hr
  have RB := Lib.hid hbl
  have FR := Lib.hid ((hF r).mpr (.inl rfl))
  have e2 := (RB.out.below (wbox w2 (Obj.cells #[] 54))).cell 3
  simp at e2
  clear hbl hq hr hnu hF hn0 hat
  go_upto_region 10 with (at_builtin; refine wpList_append_qs rfl _ _ rfl w2.heap.size (.slice (some ⟨w2.heap.size, 0, none⟩) 0 0) [] rfl (own_litQ (heap_alloc_new w2 _) (Nat.le_refl _)) (some ⟨b0, off, none⟩) n cap hs rfl (R.out.below (wbox w2 _)) (by simp) (by have := HL.out; have := HN.out; simp; omega) ?_; intro v1 w3 ho1 hg1 hat1; have O1 := Lib.hid (show w3.ownsRow w2.heap.size 54 7 v1 hs.length (hs.map Hq.cs).flatten from ho1); have BB := Lib.hid (show Below w2.heap.size w2 w3 from (wbox w2 _).grown hg1 (by simp) (fun x e => by simp [Value.ownBlock] at e; omega)); clear ho1 hg1 hat1)
  obtain ⟨g1, cap1, cur1, rfl, hg1, hgb, q1, q2, q3, q4⟩ := own_blockQ O1.out (by have := HN.out; omega)
  have QB := Lib.hid hgb
  have QC := Lib.hid (And.intro q1 (And.intro q2 (And.intro q3 q4)))
  have G1 := Lib.hid hg1
  have K3 := Lib.hid (K.out.below BB.out)
  have k30 := K3.out.cell 0; have k31 := K3.out.cell 1
  simp at k30 k31
  rw [HN.out] at q1 O1 ⊢
  have AT := Lib.hid (q4 j x HJ.out)
  have y1 := (q4 j x HJ.out).c1
  have y3 := (q4 j x HJ.out).c4
  have y4 := (q4 j x HJ.out).c5
  have y5' := (q4 j x HJ.out).c6
  have fg : ∀ o, w3.frozen? ⟨g1, o, none⟩ = false := fun o => frozen_of_row w3 g1 o cur1 _ hgb
  simp only [Nat.zero_add] at y1 y3 y4 y5'
  obtain ⟨W4, hW4⟩ : ∃ W4, ((w3.setCell ⟨g1, j * 7 + 4, none⟩ (.int .i64 E)).setCell ⟨g1, j * 7 + 5, none⟩ (.int .i64 P)).setCell ⟨g1, j * 7 + 6, none⟩ (.bool true) = W4 := ⟨_, rfl⟩
  have Q4 := Lib.hid (show QueQ W4 (.slice (some ⟨g1, 0, none⟩) hs.length cap1) (hs.set j (askQ1 x E P)) by
    have := QueQ.asked (x := x) E P QB.out QC.out.1 QC.out.2.1 QC.out.2.2.1 QC.out.2.2.2 HJ.out
    simp only [Nat.zero_add] at this
    rw [hW4] at this
    exact this)
  have B4 := Lib.hid (show Below w2.heap.size w2 W4 by rw [← hW4]; exact ((BB.out.setCell G1.out _).setCell G1.out _).setCell G1.out _)
  have Z4 := Lib.hid (show g1 < W4.heap.size by rw [← hW4]; have := lt_of_block QB.out; simpa using this)
  clear q2 q3 q4 hgb hg1
  go_upto_region 12 with fail
  try rw [hW4]
  clear hW4 y1 y3 y4 y5' fg k30 k31 e2 c2 y5
  have H4 := Lib.hid (H2.out.below B4.out)
  have V4 := Lib.hid ((V.out.below B1.out).below B4.out)
  have RS4 := Lib.hid ((RS.out.below B1.out).below B4.out)
  have T1 := Lib.hid (show W4.cell? ⟨g1, 0 + j * 7 + 1, none⟩ = some (.int .i64 x.srv) by
    obtain ⟨a9, cap9, he9, hr9⟩ := Q4.out.row
    have hs9 : (hs.set j (askQ1 x E P))[j]? = some (askQ1 x E P) := List.getElem?_set_self jn0
    obtain ⟨b9, o9, he8, hat9⟩ := hr9.at hs9
    subst he8
    simp only [Value.slice.injEq, Option.some.injEq, Addr.mk.injEq, and_true] at he9
    obtain ⟨⟨rfl, rfl⟩, _⟩ := he9
    exact hat9.c1)
  have t1 := T1.out
  simp only [Nat.zero_add] at t1
  have RB4 := Lib.hid (RB.out.below B4.out)
  obtain ⟨ls2, hls2⟩ : ∃ l, hs.set j (askQ1 x E P) = l := ⟨_, rfl⟩
  have LN := Lib.hid (show ls2.length = n by rw [← hls2, List.length_set, HN.out])
  rw [hls2] at Q4 G GV
  have LS2 := Lib.hid hls2
  obtain ⟨fb, hfb⟩ : ∃ fb, fitsP S N D x.srv ls2 = fb := ⟨_, rfl⟩
  have FB := Lib.hid hfb
  obtain ⟨a9, cap9, he9, hr9⟩ := Q4.out.row
  rw [HN.out] at he9
  simp only [Value.slice.injEq] at he9
  obtain ⟨rfl, hx9, rfl⟩ := he9
  clear hx9
  rw [LN.out] at hr9
  have R4 := Lib.hid hr9
  clear hls2 hfb hr9
  go_wp2_with fail
  refine (r13fits_any r F v sa n0 sc S hs N D L b _ n cap1 ls2 x.srv _ H4.out V4.out RS4.out GS.out R4.out G.out GV.out (by have := HN.out; have := HL.out; omega) LL.out HSV.out).mono ?_
  rintro e w5 ⟨rfl, hb⟩
  rw [FB.out]
  have RB5 := Lib.hid (RB4.out.below hb)
  have Q5 := Lib.hid (QueR.below Q4.out hb)
  have BT := Lib.hid (show Below w2.heap.size w2 w5 from below_next B4.out hb)
  have Z5 := Lib.hid (show g1 < w5.heap.size from Nat.lt_of_lt_of_le Z4.out hb.size)
  clear hb
  cases fb with
  | false =>
    go_wp2
    go_ret
    obtain ⟨q1', q2'⟩ := HC'.out (by rw [LS2.out, FB.out])
    subst q1' q2'
    exact ⟨rfl, H.out.stay (below_next B1.out BT.out)⟩
  | true =>
    have r2 := RB5.out.cell 3
    have f2 := RB5.out.free 3
    simp at r2
    have LR := Lib.hid (show r < w.heap.size from H.out.lies r (by obtain ⟨_, _, _, _, _, _, _, _, _, _, _, _, _, _, _, q⟩ := H.out; exact (q r).mpr (.inl rfl)))
    have FIN := Lib.hid (show QStay w r F v (.slice sa n0 sc) ls2 (w5.setCell ⟨r, 3, none⟩ (.slice (some ⟨g1, 0, none⟩) n cap1)) by
      obtain ⟨an', ln', cn', ad', ld', cd', sa', sl', sc', u', hv', hsv', hb', hq', hn', hF'⟩ := (H2.out.below BT.out)
      cases hsv'
      have fr := (hF' r).mpr (.inl rfl)
      have S12 := B1.out.size
      have LR' := LR.out
      have G1' := G1.out
      have Z5' := Z5.out
      refine ⟨fun k => k = r ∨ (Value.slice (some ⟨g1, 0, none⟩) n cap1).ownBlock = some k, ⟨an', ln', cn', ad', ld', cd', sa, n0, sc, .slice (some ⟨g1, 0, none⟩) n cap1, hv', rfl, Blk.setH hb' 3 _, ?_, fun e => by simp [Value.ownBlock] at e; omega, fun k => Iff.rfl⟩, ⟨(Keeps.of (F := F) (below_next B1.out BT.out)).set (.inl fr) _ _, fun k q => ?_, fun k q => ?_⟩⟩
      · have q5 := Q5.out
        rw [HN.out] at q5
        exact QueR.carry q5 (fun g hg => Below.heap_setCell _ _ _ _ (fun e => by simp [Value.ownBlock] at hg; simp at e; omega))
      · rcases q with rfl | q
        · exact .inl fr
        · exact .inr (by simp [Value.ownBlock] at q; omega)
      · rcases q with rfl | q
        · have := lt_of_block hb'; simpa using this
        · simp [Value.ownBlock] at q; subst q; simpa using Z5')
    go_wp2
    go_ret
    obtain ⟨q1', q2'⟩ := HC.out (by rw [LS2.out, FB.out])
    rw [LS2.out] at q2'
    subst q1' q2'
    exact ⟨rfl, FIN.out⟩
end Go.Proofs.YtbonilmlfelmpaaGreat
namespace Go.Proofs.YtbonilmlfelmpaaGreat
open Go.RowKit

/-- a holder written whole -/
def put7 (W : World) (g o : Nat) (y : Hq) : World := ((((((W.setCell ⟨g, o, none⟩ (.int .i64 y.h.id)).setCell ⟨g, o + 1, none⟩ (.int .i64 y.srv)).setCell ⟨g, o + 2, none⟩ (.int .i64 y.h.E)).setCell ⟨g, o + 3, none⟩ (.int .i64 y.h.P)).setCell ⟨g, o + 4, none⟩ (.int .i64 y.h.NE)).setCell ⟨g, o + 5, none⟩ (.int .i64 y.h.NP)).setCell ⟨g, o + 6, none⟩ (.bool y.h.asked)
theorem Keeps.put7 {F : Nat → Prop} {a w : World} (h : Keeps F a w) {g : Nat} (hg : F g ∨ a.heap.size ≤ g) (o : Nat) (y : Hq) : Keeps F a (put7 w g o y) :=
  ((((((h.set hg _ _).set hg _ _).set hg _ _).set hg _ _).set hg _ _).set hg _ _).set hg _ _
theorem HqAt.put7 {W : World} {g o : Nat} {s : Hq} (h : HqAt W g o s) (y : Hq) : HqAt (put7 W g o y) g o y := by
  have n : ∀ a b : Nat, a ≠ b → (⟨g, o + a, none⟩ : Addr) ≠ ⟨g, o + b, none⟩ := fun a b h => addr_ne (by omega)
  have n0 : ∀ b : Nat, 0 ≠ b → (⟨g, o + b, none⟩ : Addr) ≠ ⟨g, o, none⟩ := fun b h => addr_ne (by omega)
  have m0 : ∀ b : Nat, 0 ≠ b → (⟨g, o, none⟩ : Addr) ≠ ⟨g, o + b, none⟩ := fun b h => addr_ne (by omega)
  unfold Go.Proofs.YtbonilmlfelmpaaGreat.put7
  refine ⟨?_, ?_, ?_, ?_, ?_, ?_, ?_⟩
  · rw [cOther (n0 6 (by omega)), cOther (n0 5 (by omega)), cOther (n0 4 (by omega)), cOther (n0 3 (by omega)), cOther (n0 2 (by omega)), cOther (n0 1 (by omega))]; exact cSame h.c0
  · rw [cOther (n 6 1 (by omega)), cOther (n 5 1 (by omega)), cOther (n 4 1 (by omega)), cOther (n 3 1 (by omega)), cOther (n 2 1 (by omega))]; exact cSame ((cOther (m0 1 (by omega))).trans h.c1)
  · rw [cOther (n 6 2 (by omega)), cOther (n 5 2 (by omega)), cOther (n 4 2 (by omega)), cOther (n 3 2 (by omega))]; exact cSame ((cOther (n 1 2 (by omega))).trans ((cOther (m0 2 (by omega))).trans h.c2))
  · rw [cOther (n 6 3 (by omega)), cOther (n 5 3 (by omega)), cOther (n 4 3 (by omega))]; exact cSame ((cOther (n 2 3 (by omega))).trans ((cOther (n 1 3 (by omega))).trans ((cOther (m0 3 (by omega))).trans h.c3)))
  · rw [cOther (n 6 4 (by omega)), cOther (n 5 4 (by omega))]; exact cSame ((cOther (n 3 4 (by omega))).trans ((cOther (n 2 4 (by omega))).trans ((cOther (n 1 4 (by omega))).trans ((cOther (m0 4 (by omega))).trans h.c4))))
  · rw [cOther (n 6 5 (by omega))]; exact cSame ((cOther (n 4 5 (by omega))).trans ((cOther (n 3 5 (by omega))).trans ((cOther (n 2 5 (by omega))).trans ((cOther (n 1 5 (by omega))).trans ((cOther (m0 5 (by omega))).trans h.c5)))))
  · exact cSame ((cOther (n 5 6 (by omega))).trans ((cOther (n 4 6 (by omega))).trans ((cOther (n 3 6 (by omega))).trans ((cOther (n 2 6 (by omega))).trans ((cOther (n 1 6 (by omega))).trans ((cOther (m0 6 (by omega))).trans h.c6))))))
theorem QueQ.drew {W : World} {u : Value} {l : List Hq} (h : QueQ W u l) : QueQ W.drew u l := QueR.below h ((Below.refl _ _).drew)
/-- where holder j lies, and the row when it is written anew -/
theorem QueQ.put {W : World} {u : Value} {l : List Hq} {j : Nat} {x : Hq} (h : QueQ W u l) (hj : l[j]? = some x) :
    ∃ g off cap, u = .slice (some ⟨g, off, none⟩) l.length cap ∧ HqAt W g (off + j * 7) x ∧ (∀ k, W.frozen? ⟨g, k, none⟩ = false) ∧ l.length ≤ cap ∧ cap ≤ 9223372036854775807 ∧ ∀ y, QueQ (put7 W g (off + j * 7) y) u (l.set j y) := by
  have hlt : j < l.length := by
    rcases Nat.lt_or_ge j l.length with q | q
    · exact q
    · rw [List.getElem?_eq_none q] at hj; cases hj
  obtain ⟨a, cap0, hv, hr⟩ := h.row
  rcases h.2 with ⟨_, h0⟩ | ⟨g, off, cap, cur, hu, _, hg, h1, h2, h3, _⟩
  · omega
  · rw [hu] at hv
    simp only [Value.slice.injEq] at hv
    obtain ⟨rfl, _, rfl⟩ := hv
    have at_ : ∀ i s, l[i]? = some s → HqAt W g (off + i * 7) s := fun i s hs => by
      obtain ⟨b, o, he, hat⟩ := hr.at hs
      cases he
      exact hat
    refine ⟨g, off, cap, hu, at_ j x hj, fun k => frozen_of_row W g k cur _ hg, h1, by unfold maxLen at h2; omega, fun y => ?_⟩
    have hb := Blk.setH (Blk.setH (Blk.setH (Blk.setH (Blk.setH (Blk.setH (Blk.setH (W := W) (T := 54) (g := g) (cs := cur) hg (off + j * 7) (.int .i64 y.h.id)) (off + j * 7 + 1) (.int .i64 y.srv)) (off + j * 7 + 2) (.int .i64 y.h.E)) (off + j * 7 + 3) (.int .i64 y.h.P)) (off + j * 7 + 4) (.int .i64 y.h.NE)) (off + j * 7 + 5) (.int .i64 y.h.NP)) (off + j * 7 + 6) (.bool y.h.asked)
    have hl : (l.set j y).length = l.length := List.length_set
    rw [hu, ← hl]
    refine QueQ.of_at (off := off) hb (by rw [hl]; exact h1) h2 (by simp only [Array.size_setIfInBounds]; exact h3) fun i s hi => ?_
    by_cases e : j = i
    · subst e
      rw [List.getElem?_set_self hlt] at hi
      cases hi
      exact (at_ j x hj).put7 y
    · rw [List.getElem?_set_ne e] at hi
      exact (((((((at_ i s hi).set _ (by omega)).set _ (by omega)).set _ (by omega)).set _ (by omega)).set _ (by omega)).set _ (by omega)).set _ (by omega)
theorem atq_of {hs : List Hq} {id k : Int} {j : Nat} {x : Hq} (hk : AtV (lst hs) id k) (hj : hs[j]? = some x) (hx : x.h.id = id) (uq : ∀ i y, hs[i]? = some y → y.h.id = id → i = j) : k = (j : Int) := by
  rcases atq_neg hk with ⟨_, _, hn⟩ | ⟨_, i, y, e, hi, hy⟩
  · exact absurd hx (hn x (List.mem_of_getElem? hj))
  · rw [e, uq i y hi hy]
theorem r13settle_none (r : Nat) (F : Nat → Prop) (v sv : Value) (hs : List Hq) (id : Int) (w : World) (h : RQ w r F v sv hs) (hid : ∀ x ∈ hs, x.h.id ≠ id) :
    Calls Tryz.prog 14 #[.pointer (some ⟨r, 0, none⟩), .int .i64 id] w fun e w' => e = .returned (.int .i64 12) ∧ QStay w r F v sv hs w' := by
  have H := Lib.hid h
  have HI := Lib.hid hid
  clear h hid
  go_enter Tryz.func14, Tryz.ntmps14
  go_wp2_with fail
  refine (r13at_any r F v _ hs id _ H.out).mono ?_
  rintro e w2 ⟨k, rfl, hk, rfl⟩
  have hn : k < 0 := by
    rcases atq_neg hk with ⟨hn, _, _⟩ | ⟨_, j, x, _, hj, hx⟩
    · exact hn
    · exact absurd hx (HI.out x (List.mem_of_getElem? hj))
  have t : decide (k < 0) = true := decide_eq_true hn
  clear hk hn
  go_wp2
  go_ret
  exact ⟨rfl, H.out.stay (Below.refl _ _)⟩
set_option maxHeartbeats 4000000 in
theorem r13settle_some (r : Nat) (F : Nat → Prop) (v sv : Value) (hs : List Hq) (id : Int) (j : Nat) (x : Hq) (w : World) (h : RQ w r F v sv hs) (hj : hs[j]? = some x) (hx : x.h.id = id) (uq : ∀ i y, hs[i]? = some y → y.h.id = id → i = j) (c : Int) (hs' : List Hq) (hc : (x.h.asked = false ∧ c = 13 ∧ hs' = hs) ∨ (x.h.asked = true ∧ c = 0 ∧ hs' = hs.set j (doneQ x id))) :
    Calls Tryz.prog 14 #[.pointer (some ⟨r, 0, none⟩), .int .i64 id] w fun e w' => e = .returned (.int .i64 c) ∧ QStay w r F v sv hs' w' := by
  have H := Lib.hid h
  have UQ := Lib.hid uq
  have HJ := Lib.hid hj
  have HX := Lib.hid hx
  have HC := Lib.hid hc
  clear h uq hj hx hc
  go_enter Tryz.func14, Tryz.ntmps14
  go_wp2_with fail
  refine (r13at_any r F v _ hs id _ H.out).mono ?_
  rintro e w2 ⟨k, rfl, hk, hw⟩
  have hkj : k = (j : Int) := atq_of hk HJ.out HX.out UQ.out
  subst hkj hw
  have hlt : j < hs.length := by
    rcases Nat.lt_or_ge j hs.length with q | q
    · exact q
    · have := HJ.out; rw [List.getElem?_eq_none q] at this; cases this
  obtain ⟨an, ln, cn, ad, ld, cd, sa', sl', sc', u, hvv, hsv', hbl, hq, hnu, hF⟩ := H.out
  obtain ⟨g, off, cap, hu, hat, hfr, c1, c3, hput⟩ := hq.put HJ.out
  subst hu
  have HQ := Lib.hid hq
  have PUT := Lib.hid hput
  have HF := Lib.hid hF
  have BL := Lib.hid hbl
  have NU := Lib.hid hnu
  have VV := Lib.hid hvv
  obtain ⟨n, hn0⟩ : ∃ n, hs.length = n := ⟨_, rfl⟩
  have HN := Lib.hid hn0
  have c2 := hbl.cell 3
  simp at c2
  rw [hn0] at c1 hlt c2
  have y1 := hat.c1
  have y2 := hat.c4
  have y3 := hat.c5
  have y5 := hat.c6
  have j1 : (j : Int) < (n : Int) := by omega
  have j2 : 0 ≤ (j : Int) := by omega
  have t : decide ((j : Int) < 0) = false := decide_eq_false (by omega)
  rw [hn0] at BL HQ PUT
  rcases HC.out with ⟨ha, rfl, rfl⟩ | ⟨ha, rfl, rfl⟩
  · rw [ha] at y5
    clear hbl hq hnu hF hn0 hat hk hput hvv hfr ha
    go_wp2
    go_ret
    exact ⟨rfl, H.out.stay (Below.refl _ _)⟩
  · rw [ha] at y5
    have k0 := hat.c0
    have k1 := hat.c1
    have k2 := hat.c2
    have k3 := hat.c3
    have f0 := hfr (off + j * 7)
    have f1 := hfr (off + j * 7 + 1)
    have f2 := hfr (off + j * 7 + 2)
    have f3 := hfr (off + j * 7 + 3)
    have f4 := hfr (off + j * 7 + 4)
    have f5 := hfr (off + j * 7 + 5)
    have f6 := hfr (off + j * 7 + 6)
    clear hbl hq hnu hF hn0 hat hk hput hvv hfr ha
    go_upto_region 6 with fail
    go_region
    go_wp2
    go_ret
    have kp : Keeps F w (put7 w g (off + j * 7) (doneQ x id)).drew := ((Keeps.refl F w).put7 (.inl ((HF.out g).mpr (.inr rfl))) _ _).drew
    have L := H.out.lies
    have RLN : RQ (put7 w g (off + j * 7) (doneQ x id)).drew r F v sv (hs.set j (doneQ x id)) :=
      ⟨an, ln, cn, ad, ld, cd, sa', sl', sc', _, VV.out, hsv', BL.out.keeps (((Keeps.refl (fun k => k = g) w).put7 (.inl rfl) (off + j * 7) (doneQ x id)).drew) (fun e => NU.out (by rw [e]; rfl)), (PUT.out (doneQ x id)).drew, NU.out, HF.out⟩
    exact ⟨rfl, F, RLN, kp, fun _ q => .inl q, fun k q => Nat.lt_of_lt_of_le (L k q) kp.size⟩
theorem RowQ.take {W : World} {a : Option Addr} {len cap m : Nat} {hs : List Hq} (h : RowQ W a len cap hs) (hm : m ≤ len) : RowQ W a m cap (hs.take m) := by
  unfold RowQ
  rw [List.map_take]
  exact RowF.take h hm
theorem RowQ.rest {W : World} {b off len cap m : Nat} {hs : List Hq} (h : RowQ W (some ⟨b, off, none⟩) len cap hs) (hm : m ≤ len) : RowQ W (some ⟨b, off + m * 7, none⟩) (len - m) (cap - m) (hs.drop m) := by
  have hc := RowF.cap_le h
  have hn := h.len
  refine ⟨by rw [List.length_map, List.length_drop, hn], by omega, by omega, (fun e => by cases e), fun i hi => ?_⟩
  obtain ⟨b', off', ha, hcell⟩ := h.2.2.2.2 (m + i) (by omega)
  simp only [Option.some.injEq, Addr.mk.injEq, and_true] at ha
  obtain ⟨rfl, rfl⟩ := ha
  refine ⟨_, _, rfl, fun j hj => ?_⟩
  have := hcell j hj
  rw [List.map_drop, List.getD_eq_getElem?_getD, List.getElem?_drop, ← List.getD_eq_getElem?_getD]
  rw [← this, Nat.add_mul, Nat.add_assoc off (m * 7)]
theorem RowQ.none {W : World} {a : Addr} : RowQ W (some a) 0 0 [] := ⟨rfl, by omega, by omega, (fun e => by cases e), (fun i hi => by omega)⟩
theorem r13free_none (r : Nat) (F : Nat → Prop) (v sv : Value) (hs : List Hq) (id : Int) (w : World) (h : RQ w r F v sv hs) (hid : ∀ x ∈ hs, x.h.id ≠ id) :
    Calls Tryz.prog 16 #[.pointer (some ⟨r, 0, none⟩), .int .i64 id] w fun e w' => e = .returned (.int .i64 12) ∧ QStay w r F v sv hs w' := by
  have H := Lib.hid h
  have HI := Lib.hid hid
  clear h hid
  go_enter Tryz.func16, Tryz.ntmps16
  go_wp2_with fail
  refine (r13at_any r F v _ hs id _ H.out).mono ?_
  rintro e w2 ⟨k, rfl, hk, rfl⟩
  have hn : k < 0 := by
    rcases atq_neg hk with ⟨hn, _, _⟩ | ⟨_, j, x, _, hj, hx⟩
    · exact hn
    · exact absurd hx (HI.out x (List.mem_of_getElem? hj))
  have t : decide (k < 0) = true := decide_eq_true hn
  clear hk hn
  go_wp2
  go_ret
  exact ⟨rfl, H.out.stay (Below.refl _ _)⟩
set_option maxRecDepth 20000 in
set_option maxHeartbeats 4000000 in
theorem r13free_some (r : Nat) (F : Nat → Prop) (v sv : Value) (hs : List Hq) (id : Int) (j : Nat) (x : Hq) (w : World) (h : RQ w r F v sv hs) (hj : hs[j]? = some x) (hx : x.h.id = id) (uq : ∀ i y, hs[i]? = some y → y.h.id = id → i = j) (hl : hs.length ≤ 400) :
    Calls Tryz.prog 16 #[.pointer (some ⟨r, 0, none⟩), .int .i64 id] w fun e w' => e = .returned (.int .i64 0) ∧ QStay w r F v sv (hs.eraseIdx j) w' := by
  have H := Lib.hid h
  have UQ := Lib.hid uq
  have HJ := Lib.hid hj
  have HX := Lib.hid hx
  clear h uq hj hx
  rw [erase_split]
  obtain ⟨m, hm⟩ : ∃ m, j + 1 = m := ⟨_, rfl⟩
  rw [hm]
  have MM := Lib.hid hm
  clear hm
  go_enter Tryz.func16, Tryz.ntmps16
  go_wp2_with fail
  refine (r13at_any r F v _ hs id _ H.out).mono ?_
  rintro e w2 ⟨k, rfl, hk, hw⟩
  have hkj : k = (j : Int) := atq_of hk HJ.out HX.out UQ.out
  subst hkj hw
  have hlt : j < hs.length := by
    rcases Nat.lt_or_ge j hs.length with q | q
    · exact q
    · have := HJ.out; rw [List.getElem?_eq_none q] at this; cases this
  obtain ⟨an, ln, cn, ad, ld, cd, sa', sl', sc', u, hvv, hsv', hbl, hq, hnu, hF⟩ := H.out
  obtain ⟨g, off, cap, hu, _, _, c1, c3, _⟩ := hq.put HJ.out
  subst hu
  obtain ⟨a', cap', he, hr⟩ := hq.row
  simp only [Value.slice.injEq] at he
  obtain ⟨rfl, _, rfl⟩ := he
  have HR := Lib.hid hr
  have HF := Lib.hid hF
  have BL := Lib.hid hbl
  have NU := Lib.hid hnu
  have VV := Lib.hid hvv
  obtain ⟨n, hn0⟩ : ∃ n, hs.length = n := ⟨_, rfl⟩
  have HN := Lib.hid hn0
  have c2 := hbl.cell 3
  have f2 := hbl.free 3
  simp at c2
  rw [hn0] at c1 hlt c2 HR BL NU hl
  have j1 : (j : Int) < (n : Int) := by omega
  have j2 : 0 ≤ (j : Int) := by omega
  have j3 : (j : Int) + 1 ≤ (n : Int) := by omega
  have j4 : (j : Int) ≤ (n : Int) := by omega
  have j5 : (j : Int) ≤ (cap : Int) := by omega
  have hm := MM.out
  have wr : IntKind.i64.wrap ((j : Int) + 1) = (m : Int) := by rw [IntWalk.i64_in _ (by omega)]; omega
  have j6 : (m : Int) ≤ (n : Int) := by omega
  have j7 : 0 ≤ (m : Int) := by omega
  have t : decide ((j : Int) < 0) = false := decide_eq_false (by omega)
  have LT := Lib.hid (show (hs.take j).length = j by rw [List.length_take]; have := HN.out; omega)
  have LD := Lib.hid (show (hs.drop m).length = n - m by rw [List.length_drop, HN.out])
  have HM := Lib.hid hm
  have FIN := Lib.hid (show ∀ (w3 w5 : World) (v2 : Value), Below w.heap.size w w3 → Below w.heap.size w3 w5 → w5.ownsRow w.heap.size 54 7 v2 (hs.take j ++ hs.drop m).length ((hs.take j ++ hs.drop m).map Hq.cs).flatten → QStay w r F v sv (hs.take j ++ hs.drop m) (w5.setCell ⟨r, 3, none⟩ v2) from fun w3 w5 v2 b3 b5 ho => by
    have fr := (HF.out r).mpr (.inl rfl)
    have rl := H.out.lies r fr
    have B := b3.trans b5
    have own : ∀ g, v2.ownBlock = some g → w.heap.size ≤ g ∧ g < w5.heap.size := fun g hg => ho.lt g hg
    refine ⟨fun k => k = r ∨ v2.ownBlock = some k, ⟨an, ln, cn, ad, ld, cd, sa', sl', sc', v2, VV.out, hsv', ?_, ?_, fun e => by have := own r e; omega, fun k => Iff.rfl⟩, ⟨(Keeps.of (F := F) B).set (.inl fr) _ _, fun k q => ?_, fun k q => ?_⟩⟩
    · have h := Blk.setH (BL.out.below B) 3 v2
      simpa using h
    · exact ((QueR.of_owns ho).base (fun _ _ => Nat.zero_le _)).carry (fun g hg => Below.heap_setCell _ _ _ _ (fun e => by have := own g hg; simp at e; omega))
    · rcases q with rfl | q
      · exact .inl fr
      · exact .inr (own k q).1
    · rcases q with rfl | q
      · have := B.size; simp; omega
      · simpa using (own k q).2)
  clear hbl hq hr hnu hF hn0 hk hvv hm
  by_cases cz : cap = m
  · have mn : m = n := by omega
    subst cz mn
    go_wp2_with (first
      | (at_builtin; refine wpList_append_qs (w := w) rfl _ _ rfl w.heap.size (.slice none 0 0) [] rfl (World.ownsRow_nil _ _ _ _) (some ⟨g, off, none⟩) j cap (hs.take j) rfl (HR.out.take (by omega)) (Nat.le_refl _) (by simp; omega) ?_; intro v1 w3 ho1 hg1 hat1; have B3 := Lib.hid (show Below w.heap.size w w3 from (Below.refl _ _).grown hg1 (Nat.le_refl _) (fun _ e => by simp [Value.ownBlock] at e)); have O3 := Lib.hid (show w3.ownsRow w.heap.size 54 7 v1 (hs.take j).length ((hs.take j).map Hq.cs).flatten from ho1); have d2 := (BL.out.below B3.out).cell 3; have e2 := (BL.out.below B3.out).free 3; simp at d2; clear ho1 hg1 hat1 c2 f2)
      | (at_builtin; refine wpList_append_qs rfl _ _ rfl w.heap.size v1 (hs.take j) rfl O3.out (some ⟨g, off, none⟩) 0 0 (hs.drop cap) rfl (by rw [show hs.drop cap = [] from List.drop_eq_nil_of_le (by rw [HN.out]; omega)]; exact RowQ.none) B3.out.size (by rw [LT.out]; omega) ?_; intro v2 w5 ho2 hg2 hat2; obtain ⟨a2, cap2, rfl, _, _⟩ := qrow_of_owns ho2; obtain ⟨n2, hn2⟩ : ∃ n, (hs.take j ++ hs.drop cap).length = n := ⟨_, rfl⟩; rw [hn2] at ho2 ⊢; have N2 := Lib.hid hn2; clear hn2; have B5 := Lib.hid (show Below w.heap.size w3 w5 from (Below.refl _ _).grown hg2 B3.out.size (fun k e => (O3.out.lt k e).1)); have O5 := Lib.hid ho2; have e2' := (BL.out.below (B3.out.trans B5.out)).free 3; have d2' := (BL.out.below (B3.out.trans B5.out)).cell 3; simp at d2'; clear ho2 hg2 hat2))
    go_ret
    exact ⟨rfl, FIN.out _ _ _ B3.out B5.out (by rw [N2.out]; exact O5.out)⟩
  · have cz' : ¬ m = cap := fun e => cz e.symm
    go_wp2_with (first
      | (at_builtin; refine wpList_append_qs (w := w) rfl _ _ rfl w.heap.size (.slice none 0 0) [] rfl (World.ownsRow_nil _ _ _ _) (some ⟨g, off, none⟩) j cap (hs.take j) rfl (HR.out.take (by omega)) (Nat.le_refl _) (by simp; omega) ?_; intro v1 w3 ho1 hg1 hat1; have B3 := Lib.hid (show Below w.heap.size w w3 from (Below.refl _ _).grown hg1 (Nat.le_refl _) (fun _ e => by simp [Value.ownBlock] at e)); have O3 := Lib.hid (show w3.ownsRow w.heap.size 54 7 v1 (hs.take j).length ((hs.take j).map Hq.cs).flatten from ho1); have d2 := (BL.out.below B3.out).cell 3; have e2 := (BL.out.below B3.out).free 3; simp at d2; clear ho1 hg1 hat1 c2 f2)
      | (at_builtin; refine wpList_append_qs rfl _ _ rfl w.heap.size v1 (hs.take j) rfl O3.out (some ⟨g, off + m * 7, none⟩) (n - m) (cap - m) (hs.drop m) rfl ((HR.out.below B3.out).rest (by omega)) B3.out.size (by rw [LT.out]; omega) ?_; intro v2 w5 ho2 hg2 hat2; obtain ⟨a2, cap2, rfl, _, _⟩ := qrow_of_owns ho2; obtain ⟨n2, hn2⟩ : ∃ n, (hs.take j ++ hs.drop m).length = n := ⟨_, rfl⟩; rw [hn2] at ho2 ⊢; have N2 := Lib.hid hn2; clear hn2; have B5 := Lib.hid (show Below w.heap.size w3 w5 from (Below.refl _ _).grown hg2 B3.out.size (fun k e => (O3.out.lt k e).1)); have O5 := Lib.hid ho2; have e2' := (BL.out.below (B3.out.trans B5.out)).free 3; have d2' := (BL.out.below (B3.out.trans B5.out)).cell 3; simp at d2'; clear ho2 hg2 hat2))
    go_ret
    exact ⟨rfl, FIN.out _ _ _ B3.out B5.out (by rw [N2.out]; exact O5.out)⟩
end Go.Proofs.YtbonilmlfelmpaaGreat
namespace Go.Proofs.YtbonilmlfelmpaaGreat
open Go.RowKit

theorem mayE (E P : Int) : MayBe E P ∨ ¬ MayBe E P := Classical.em _
theorem uniq_q {hs : List Hq} {id : Int} {j : Nat} {q : Hq} (u : UniqH (lst hs)) (hj : hs[j]? = some q) (hx : q.h.id = id) : ∀ i y, hs[i]? = some y → y.h.id = id → i = j := fun i y hi hy => u i j y.h q.h (lst_at hi) (lst_at hj) (by rw [hx, hy])
theorem r13_join (r : Nat) (F : Nat → Prop) (v : Value) (sa : Option Addr) (n0 sc : Nat) (S : List Sv) (hs : List Hq) (id s E P N D : Int) (L b : Nat) (w : World) (h : RQ w r F v (.slice sa n0 sc) hs) (hS : RowS w sa n0 sc S) (hv : Rat w b L v N D) (g : GoodQ S N D hs) (hl : hs.length ≤ 19) (hL : L ≤ 9) (c : Int) (hs' : List Hq) (hc : joinQ S N D hs id s E P = (c, hs')) :
    Calls Tryz.prog 21 #[.pointer (some ⟨r, 0, none⟩), .int .i64 id, .int .i64 s, .agg #[.int .i64 E, .int .i64 P]] w fun e w' => e = .returned (.int .i64 c) ∧ QStay w r F v (.slice sa n0 sc) hs' w' := by
  unfold joinQ at hc
  rcases mayE E P with hM | hM
  · rw [mayB_yes hM] at hc
    cases hv' : hasB S s with
    | false =>
      rw [hv', if_pos (.inr rfl)] at hc
      cases hc
      exact r13join_srv r F v sa n0 sc S hs id s E P w h hS g.sv hM hv'
    | true =>
      rw [hv', if_neg (by simp)] at hc
      cases hf : findH (lst hs) id with
      | some j =>
        rw [hf] at hc
        cases hc
        obtain ⟨x, hj, hx⟩ := find_lst hf
        exact r13join_there r F v sa n0 sc S hs id s E P w h hS g.sv hM hv' ⟨x, List.mem_of_getElem? hj, hx⟩
      | none =>
        rw [hf] at hc
        refine r13join_new r F v sa n0 sc S hs id s E P N D L b w h hS g.sv hv g.each g.srv hM hv' (find_no hf) hl hL c hs' (fun q => ?_) (fun q => ?_)
        · simp only [q, if_true] at hc; cases hc; exact ⟨rfl, rfl⟩
        · simp only [q] at hc; cases hc; exact ⟨rfl, rfl⟩
  · rw [mayB_no hM, if_pos (.inl rfl)] at hc
    cases hc
    exact r13join_arg r F v sa n0 sc S hs id s E P w h hS g.sv hM
theorem r13_ask (r : Nat) (F : Nat → Prop) (v : Value) (sa : Option Addr) (n0 sc : Nat) (S : List Sv) (hs : List Hq) (id E P N D : Int) (L b : Nat) (w : World) (h : RQ w r F v (.slice sa n0 sc) hs) (hS : RowS w sa n0 sc S) (hv : Rat w b L v N D) (g : GoodQ S N D hs) (hl : hs.length ≤ 20) (hL : L ≤ 9) (c : Int) (hs' : List Hq) (hc : askQ S N D hs id E P = (c, hs')) :
    Calls Tryz.prog 12 #[.pointer (some ⟨r, 0, none⟩), .int .i64 id, .agg #[.int .i64 E, .int .i64 P]] w fun e w' => e = .returned (.int .i64 c) ∧ QStay w r F v (.slice sa n0 sc) hs' w' := by
  unfold askQ at hc
  rcases mayE E P with hM | hM
  · rw [mayB_yes hM, if_neg (by simp)] at hc
    cases hf : findH (lst hs) id with
    | none =>
      rw [hf] at hc
      cases hc
      exact r13ask_none r F v _ hs id E P w h hM (find_no hf)
    | some j =>
      obtain ⟨x, hj, hx⟩ := find_lst hf
      simp only [hf, hj] at hc
      cases ha : x.h.asked with
      | true =>
        simp only [ha, if_true] at hc
        cases hc
        exact r13ask_state r F v _ hs id E P j x w h hM hj hx (uniq_q g.uniq hj hx) ha
      | false =>
        refine r13ask_new r F v sa n0 sc S hs id E P N D j x L b w h hS g.sv hv g.each g.srv hM hj hx (uniq_q g.uniq hj hx) ha hl hL c hs' (fun q => ?_) (fun q => ?_)
        · simp only [ha, q] at hc; cases hc; exact ⟨rfl, rfl⟩
        · simp only [ha, q] at hc; cases hc; exact ⟨rfl, rfl⟩
  · rw [mayB_no hM, if_pos rfl] at hc
    cases hc
    exact r13ask_arg r F v _ hs id E P w h hM
theorem r13_settle (r : Nat) (F : Nat → Prop) (v sv : Value) (hs : List Hq) (id : Int) (w : World) (h : RQ w r F v sv hs) (u : UniqH (lst hs)) (c : Int) (hs' : List Hq) (hc : settleQ hs id = (c, hs')) :
    Calls Tryz.prog 14 #[.pointer (some ⟨r, 0, none⟩), .int .i64 id] w fun e w' => e = .returned (.int .i64 c) ∧ QStay w r F v sv hs' w' := by
  unfold settleQ at hc
  cases hf : findH (lst hs) id with
  | none =>
    rw [hf] at hc
    cases hc
    exact r13settle_none r F v sv hs id w h (find_no hf)
  | some j =>
    obtain ⟨x, hj, hx⟩ := find_lst hf
    simp only [hf, hj] at hc
    refine r13settle_some r F v sv hs id j x w h hj hx (uniq_q u hj hx) c hs' ?_
    cases ha : x.h.asked with
    | true => simp only [ha, if_true] at hc; cases hc; exact .inr ⟨rfl, rfl, rfl⟩
    | false => simp only [ha] at hc; cases hc; exact .inl ⟨rfl, rfl, rfl⟩
theorem r13_free (r : Nat) (F : Nat → Prop) (v sv : Value) (hs : List Hq) (id : Int) (w : World) (h : RQ w r F v sv hs) (u : UniqH (lst hs)) (hl : hs.length ≤ 400) (c : Int) (hs' : List Hq) (hc : freeQ hs id = (c, hs')) :
    Calls Tryz.prog 16 #[.pointer (some ⟨r, 0, none⟩), .int .i64 id] w fun e w' => e = .returned (.int .i64 c) ∧ QStay w r F v sv hs' w' := by
  unfold freeQ at hc
  cases hf : findH (lst hs) id with
  | none =>
    rw [hf] at hc
    cases hc
    exact r13free_none r F v sv hs id w h (find_no hf)
  | some j =>
    obtain ⟨x, hj, hx⟩ := find_lst hf
    simp only [hf] at hc
    cases hc
    exact r13free_some r F v sv hs id j x w h hj hx (uniq_q u hj hx) hl
end Go.Proofs.YtbonilmlfelmpaaGreat
