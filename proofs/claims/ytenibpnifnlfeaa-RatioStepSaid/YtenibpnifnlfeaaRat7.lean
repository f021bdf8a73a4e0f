/-
  What the document's Sum of weights gives back: contract.
-/
import Derived.Test.YtenibpnifnlfeaaRat6
namespace Go.Proofs.Ytenibpnifnlfeaa
open Go.RowKit

/-- the document's sum of weights, as it comes -/
def sumR (ws : List (Int × Int)) : Int × Int := ws.foldl (fun r p => (r.1 * p.2 + p.1 * r.2, r.2 * p.2)) (0, 1)
theorem sumR_snoc (ws : List (Int × Int)) (p : Int × Int) : sumR (ws ++ [p]) = ((sumR ws).1 * p.2 + p.1 * (sumR ws).2, (sumR ws).2 * p.2) := by
  unfold sumR; rw [List.foldl_append]; rfl
def OkW (p : Int × Int) : Prop := 0 ≤ p.1 ∧ p.1 < 4294967296 ∧ 0 ≤ p.2 ∧ p.2 < 4294967296
theorem two_set {w : World} {b : Nat} {u0 u1 x y : Value} {t : TypeId} (h : w.heap[b]? = some (.cells #[u0, u1] t (0, 0))) : ((w.setCell ⟨b, 0, none⟩ x).setCell ⟨b, 1, none⟩ y).heap[b]? = some (.cells #[x, y] t (0, 0)) := by
  have h1 := heap_setCell_same w b 0 #[u0, u1] t x h
  have h2 := heap_setCell_same (w.setCell ⟨b, 0, none⟩ x) b 1 _ t y h1
  exact h2
theorem block_cell {w : World} {b j : Nat} {cs : Array Value} {t : TypeId} (h : w.heap[b]? = some (.cells cs t (0, 0))) : w.cell? ⟨b, j, none⟩ = cs[j]? := cell_of_row w b j cs t (0, 0) h
theorem block_free {w : World} {b j : Nat} {cs : Array Value} {t : TypeId} (h : w.heap[b]? = some (.cells cs t (0, 0))) : w.frozen? ⟨b, j, none⟩ = false := frozen_of_row w b j cs t h

set_option maxHeartbeats 4000000 in
theorem rsum_any (a : Option Addr) (len cap : Nat) (ws : List (Int × Int)) (w : World) (h : RowP w a len cap ws) (hw : ∀ p ∈ ws, OkW p) (hl : len ≤ 20) :
    Calls Try.prog 12 #[.slice a len cap] w (GivesR w (2 * len + 1) (sumR ws).1 (sumR ws).2) := by
  have H := Lib.hid h
  have HWs := Lib.hid hw
  have LN := Lib.hid h.len
  have ⟨c1, c2⟩ := h.cap_le
  clear h hw
  go_enter Try.func12, Try.ntmps12
  go_wp2
  obtain ⟨W0, hW0⟩ : ∃ W0, ((w.alloc (Obj.cells #[Value.slice none 0 0, Value.slice none 0 0] 26)).alloc (Obj.cells #[Value.int .u32 1] 38)).alloc (Obj.cells #[Value.slice none 0 0, Value.slice (some ⟨w.heap.size + 1, 0, none⟩) 1 1] 26) = W0 := ⟨_, rfl⟩
  have BX := three_boxes w #[Value.slice none 0 0, Value.slice none 0 0] #[Value.int .u32 1] #[Value.slice none 0 0, Value.slice (some ⟨w.heap.size + 1, 0, none⟩) 1 1] 26 38 26
  obtain ⟨bs, hbs⟩ : ∃ bs, w.heap.size + 1 + 1 = bs := ⟨_, rfl⟩
  have S0 := Lib.hid (show W0.heap[bs]? = some (.cells #[.slice none 0 0, .slice (some ⟨w.heap.size + 1, 0, none⟩) 1 1] 26 (0, 0)) by
    rw [← hW0, ← hbs, show w.heap.size + 1 + 1 = ((w.alloc (Obj.cells #[Value.slice none 0 0, Value.slice none 0 0] 26)).alloc (Obj.cells #[Value.int .u32 1] 38)).heap.size by simp]
    exact heap_alloc_new _ _)
  have T0 := Lib.hid (show W0.heap[w.heap.size]? = some (.cells #[.slice none 0 0, .slice none 0 0] 26 (0, 0)) by
    rw [← hW0, Below.heap_alloc _ _ _ (by simp; omega), Below.heap_alloc _ _ _ (by simp)]
    exact heap_alloc_new _ _)
  rw [hW0, hbs]
  rw [hW0] at BX
  have B0 := Lib.hid BX.2.2.2.2.1
  have Z0 : W0.heap.size = bs + 1 := by have := BX.2.2.2.2.2; omega
  have R0 := Lib.hid (show Row .u32 W0 (some ⟨w.heap.size + 1, 0, none⟩) 1 1 [1] from ⟨rfl, by omega, by omega, (fun e => by cases e), fun i hi => ⟨w.heap.size + 1, 0, rfl, by
    obtain rfl : i = 0 := (by omega)
    exact BX.2.1 0⟩⟩)
  clear hW0 BX
  go_loopw [4] (fun u wr => ∃ (i : Nat) (an : Option Addr) (ln cn : Nat) (zn : List Int) (ad : Option Addr) (ld cd : Nat) (zd : List Int), u = .int .i64 i ∧ i ≤ len ∧ wr.heap[bs]? = some (.cells #[.slice an ln cn, .slice ad ld cd] 26 (0, 0)) ∧ Row .u32 wr an ln cn zn ∧ Is 4294967296 zn (sumR (ws.take i)).1 ∧ Row .u32 wr ad ld cd zd ∧ Is 4294967296 zd (sumR (ws.take i)).2 ∧ ln ≤ 2 * i + 1 ∧ ld ≤ 2 * i + 1 ∧ Fresh (w.heap.size + 1) an ∧ Fresh (w.heap.size + 1) ad ∧ Below bs W0 wr) (fun u _ => len - (intOf u).toNat)
  case atStart => exact ⟨0, none, 0, 0, [], some ⟨w.heap.size + 1, 0, none⟩, 1, 1, [1], rfl, by omega, S0.out, Row.nil, is_nil, R0.out, ⟨fun z hz => by simp at hz; subst hz; omega, by unfold Top; decide, by simp [val, sumR]⟩, by omega, by omega, Fresh.none, (fun ad e => by cases e; exact Nat.le_refl _), Below.refl _ _⟩
  case round =>
    obtain ⟨i, an, ln, cn, zn, ad, ld, cd, zd, rfl, il, hS, hrn, hin, hrd, hid, hln, hld, hfn, hfd, hbel⟩ := hrel
    have HS := Lib.hid hS
    have RN := Lib.hid hrn; have IN := Lib.hid hin; have RD := Lib.hid hrd; have ID := Lib.hid hid; have FN := Lib.hid hfn; have FD := Lib.hid hfd
    have HW := Lib.hid hbel
    have hsz := hbel.size
    clear hS hrn hin hrd hid hfn hfd hbel
    by_cases go : i < len
    · have t1 : decide (i < len) = true := by simp; omega
      obtain ⟨ba, oa, rfl, hx0, hy0⟩ := H.out.cell go
      have hlt : ba < w.heap.size := World.block_lt_of_cell? _ _ hx0
      obtain ⟨p, hp⟩ : ∃ p, ws.getD i (0, 0) = p := ⟨_, rfl⟩
      rw [hp] at hx0 hy0
      have hok : OkW p := by
        rw [← hp, List.getD_eq_getElem?_getD, List.getElem?_eq_getElem (by rw [LN.out]; exact go)]
        exact HWs.out _ (List.getElem_mem _)
      obtain ⟨E, P⟩ := p
      obtain ⟨e0, e1, p0, p1⟩ := hok
      have BWr := Lib.hid (show Below w.heap.size w wr from B0.out.trans (HW.out.mono (by omega)))
      have gx : wr.cell? ⟨ba, oa + i * 2, none⟩ = some (.int .i64 E) := (BWr.out.cell (p := ⟨ba, oa + i * 2, none⟩) hlt).trans hx0
      have gy : wr.cell? ⟨ba, oa + i * 2 + 1, none⟩ = some (.int .i64 P) := (BWr.out.cell (p := ⟨ba, oa + i * 2 + 1, none⟩) hlt).trans hy0
      have k0 : wr.cell? ⟨bs, 0, none⟩ = some (.slice an ln cn) := block_cell HS.out
      have k1 : wr.cell? ⟨bs, 1, none⟩ = some (.slice ad ld cd) := block_cell HS.out
      have SN := Lib.hid (sumR_snoc (ws.take i) (E, P))
      have TK := Lib.hid (show ws.take (i + 1) = ws.take i ++ [(E, P)] by rw [takeP (by rw [LN.out]; exact go), hp])
      clear hx0 hy0 hp
      have j1 : (i : Int) < (len : Int) := by omega
      have j2 : 0 ≤ (i : Int) := by omega
      have hL : 2 * i + 1 + 1 ≤ 50 := by omega
      obtain ⟨n, hn⟩ : ∃ n, (sumR (ws.take i)).1 = n := ⟨_, rfl⟩
      obtain ⟨d, hd⟩ : ∃ d, (sumR (ws.take i)).2 = d := ⟨_, rfl⟩
      rw [hn] at IN SN
      rw [hd] at ID SN
      clear hn hd
      have RA := Lib.hid (show Rat wr.drew 0 (2 * i + 1) (.agg #[.slice an ln cn, .slice ad ld cd]) n d from ⟨an, ln, cn, zn, ad, ld, cd, zd, rfl, RN.out, IN.out, RD.out, ID.out, hln, hld, FN.out.mono (Nat.zero_le _), FD.out.mono (Nat.zero_le _)⟩)
      go_wp2
      go_region_with
        (first
          | (go_at_call 29; refine (rof_any E P wr.drew e0 e1 p0 p1).mono ?_; rintro e w1 ⟨v1, rfl, hr1, hb1⟩; have RO := Lib.hid hr1; have HB1 := Lib.hid hb1; have S1 := Lib.hid (show w1.heap[bs]? = _ from (hb1.block bs (lt_of_block HS.out)).trans HS.out); have m0 : w1.cell? ⟨bs, 0, none⟩ = some (.slice an ln cn) := block_cell S1.out; have m1 : w1.cell? ⟨bs, 1, none⟩ = some (.slice ad ld cd) := block_cell S1.out; clear hr1 hb1)
          | (go_at_call 18; refine (rplus_any _ _ n d E P _ _ _ _ w1 (RA.out.below HB1.out) RO.out hL).mono ?_; rintro e w2 ⟨_, rfl, ⟨an2, ln2, cn2, zn2, ad2, ld2, cd2, zd2, rfl, q1, q2, q3, q4, q5, q6, q7, q8⟩, hb2⟩; have Q1 := Lib.hid q1; have Q2 := Lib.hid q2; have Q3 := Lib.hid q3; have Q4 := Lib.hid q4; have Q7 := Lib.hid q7; have Q8 := Lib.hid q8; have HB2 := Lib.hid hb2; have S2 := Lib.hid (show w2.heap[bs]? = _ from (hb2.block bs (lt_of_block S1.out)).trans S1.out); have n0 : w2.cell? ⟨bs, 0, none⟩ = some (.slice an ln cn) := block_cell S2.out; have n1 : w2.cell? ⟨bs, 1, none⟩ = some (.slice ad ld cd) := block_cell S2.out; have f0 : w2.frozen? ⟨bs, 0, none⟩ = false := block_free S2.out; have f1 : w2.frozen? ⟨bs, 1, none⟩ = false := block_free S2.out; clear q1 q2 q3 q4 q7 q8 hb2))
      all_goals
        have hne : ∀ ad' : Addr, an2 = some ad' → ad'.block ≠ bs := fun ad' e => by have h1 := Q7.out ad' e; have h2 := HB1.out.size; have h3 := lt_of_block HS.out; simp at h2; omega
        have hne2 : ∀ ad' : Addr, ad2 = some ad' → ad'.block ≠ bs := fun ad' e => by have h1 := Q8.out ad' e; have h2 := HB1.out.size; have h3 := lt_of_block HS.out; simp at h2; omega
        go_wp2
        go_roundw
        case rel =>
          refine ⟨i + 1, an2, ln2, cn2, zn2, ad2, ld2, cd2, zd2, by go_num, by omega, two_set S2.out, (Q1.out.setCell _ _ hne).setCell _ _ hne, ?_, (Q3.out.setCell _ _ hne2).setCell _ _ hne2, ?_, by omega, by omega, ?_, ?_, ?_⟩
          · rw [TK.out, SN.out]; exact Q2.out
          · rw [TK.out, SN.out]; exact Q4.out
          · exact Q7.out.mono (by have h2 := HB1.out.size; have h3 := lt_of_block HS.out; simp at h2; omega)
          · exact Q8.out.mono (by have h2 := HB1.out.size; have h3 := lt_of_block HS.out; simp at h2; omega)
          · have h3 := lt_of_block HS.out
            exact (((HW.out.drew.trans (HB1.out.mono (by simp; omega))).trans (HB2.out.mono (by have h2 := HB1.out.size; simp at h2; omega))).setCell (Nat.le_refl _) _).setCell (Nat.le_refl _) _
        case measure => simp [intOf]; omega
    · have t1 : decide (i < len) = false := by simp; omega
      have EL := Lib.hid (show ws.take i = ws by rw [List.take_of_length_le (by rw [LN.out]; omega)])
      rw [EL.out] at IN ID
      have k0 : wr.cell? ⟨bs, 0, none⟩ = some (.slice an ln cn) := block_cell HS.out
      have k1 : wr.cell? ⟨bs, 1, none⟩ = some (.slice ad ld cd) := block_cell HS.out
      have T1 := Lib.hid (show wr.heap[w.heap.size]? = some (.cells #[.slice none 0 0, .slice none 0 0] 26 (0, 0)) from (HW.out.block _ (by omega)).trans T0.out)
      have r0 : wr.cell? ⟨w.heap.size, 0, none⟩ = some (.slice none 0 0) := block_cell T1.out
      have r1 : wr.cell? ⟨w.heap.size, 1, none⟩ = some (.slice none 0 0) := block_cell T1.out
      have f0 : wr.frozen? ⟨w.heap.size, 0, none⟩ = false := block_free T1.out
      have f1 : wr.frozen? ⟨w.heap.size, 1, none⟩ = false := block_free T1.out
      go_wp2
      have hne : ∀ ad' : Addr, an = some ad' → ad'.block ≠ w.heap.size := fun ad' e => by have h1 := FN.out ad' e; omega
      have hne2 : ∀ ad' : Addr, ad = some ad' → ad'.block ≠ w.heap.size := fun ad' e => by have h1 := FD.out ad' e; omega
      refine bodyPost_ret (v := .agg #[.slice an ln cn, .slice ad ld cd]) (by simp [results, Try.results12, go_sem, r0, r1]) rfl ⟨_, rfl, ⟨an, ln, cn, zn, ad, ld, cd, zd, rfl, ?_, IN.out, ?_, ID.out, by omega, by omega, FN.out.mono (by omega), FD.out.mono (by omega)⟩, ?_⟩
      · exact (RN.out.setCell _ _ hne).setCell _ _ hne
      · exact (RD.out.setCell _ _ hne2).setCell _ _ hne2
      · exact ((B0.out.trans (HW.out.mono (by omega))).setCell (Nat.le_refl _) _).setCell (Nat.le_refl _) _
end Go.Proofs.Ytenibpnifnlfeaa
