/-
  Package super: Use: contract.
-/
import Derived.Test.YtnlgophgglgneaaSzE
import Derived.Test.YtnlgophgglgneaaRqA
namespace Go.Proofs.Ytnlgophgglgneaa
open Go.RowKit

theorem cellsW_zero (n : Nat) : cellsW (List.replicate n ((0 : Int), (0 : Int))) = List.replicate (n * 2) (Value.int .i64 0) := by
  induction n with
  | zero => rfl
  | succ n ih =>
    rw [List.replicate_succ, cellsW, ih, Nat.succ_mul, List.replicate_succ', List.replicate_succ']
    rw [← List.replicate_succ', ← List.replicate_succ']
    rfl
theorem cellsW_len (l : List (Int × Int)) : (cellsW l).length = l.length * 2 := by
  induction l with
  | nil => rfl
  | cons p r ih => rw [cellsW, List.length_cons, List.length_cons, ih, List.length_cons, Nat.succ_mul]
theorem made_wgts (n : Nat) : madeCells (Value.agg #[.int .i64 0, .int .i64 0]).cells (n * 2) = (cellsW (List.replicate n ((0 : Int), (0 : Int)))).toArray := by
  rw [cellsW_zero, show (Value.agg #[.int .i64 0, .int .i64 0]).cells = #[Value.int .i64 0, Value.int .i64 0] from rfl]
  apply Array.ext
  · simp [madeCells]
  · intro i h1 h2
    simp only [madeCells, Array.getElem_map, Array.getElem_range, List.getElem_toArray, List.getElem_replicate]
    have h3 : i % (#[Value.int .i64 0, Value.int .i64 0] : Array Value).size = 0 ∨ i % (#[Value.int .i64 0, Value.int .i64 0] : Array Value).size = 1 := by
      show i % 2 = 0 ∨ i % 2 = 1
      omega
    rcases h3 with h | h <;> rw [h] <;> rfl
theorem make_wgts (n : Nat) (hn : n ≤ 1000) (w : World) : (Instr.makeSlice 89 (.int .i64 (n : Int)) (.int .i64 (n : Int))).run Try.prog w = .ok (.slice (some ⟨w.heap.size, 0, none⟩) n n) (w.alloc (.cells (cellsW (List.replicate n ((0 : Int), (0 : Int)))).toArray 32)) := by
  obtain ⟨i0, hi, hz0, hz1, hz2⟩ := info_parts Try.infoW
  have h := run_make (P := Try.prog) w 89 32 i0 (.agg #[.int .i64 0, .int .i64 0]) Try.underlying89 hi hz0 .i64 .i64 n n (by omega) (by omega) (by rw [hz2]; omega) (by omega)
  rw [hz1] at h
  rw [← made_wgts]
  simpa using h
/-- shares laid so far -/
def shW (ps : List (Int × Int)) (i len : Nat) : List (Int × Int) := (List.range len).map fun k => if k < i then (eP ps k, pP ps k) else (0, 0)
theorem shW_len (ps : List (Int × Int)) (i len : Nat) : (shW ps i len).length = len := by unfold shW; simp
theorem shW_zero (ps : List (Int × Int)) (len : Nat) : shW ps 0 len = List.replicate len (0, 0) := by
  unfold shW
  apply List.ext_getElem?
  intro j
  by_cases h : j < len
  · rw [List.getElem?_map, List.getElem?_range h, List.getElem?_replicate_of_lt h]; simp
  · rw [List.getElem?_eq_none (by simpa using h), List.getElem?_eq_none (by simpa using h)]
theorem shW_succ {ps : List (Int × Int)} {i len : Nat} (h : i < len) : (shW ps i len).set i (eP ps i, pP ps i) = shW ps (i + 1) len := by
  apply List.ext_getElem?
  intro j
  by_cases hj : j < len
  · by_cases e : j = i
    · subst e
      rw [List.getElem?_set_self (by rw [shW_len]; exact hj)]
      unfold shW
      rw [List.getElem?_map, List.getElem?_range hj]
      simp
    · rw [List.getElem?_set_ne (Ne.symm e)]
      unfold shW
      rw [List.getElem?_map, List.getElem?_map, List.getElem?_range hj]
      simp only [Option.map_some]
      congr 2
      exact propext ⟨fun _ => by omega, fun _ => by omega⟩
  · rw [List.getElem?_eq_none (by rw [List.length_set, shW_len]; omega), List.getElem?_eq_none (by rw [shW_len]; omega)]
theorem shW_all (ps : List (Int × Int)) : shW ps ps.length ps.length = ps := by
  apply List.ext_getElem?
  intro j
  by_cases hj : j < ps.length
  · unfold shW
    rw [List.getElem?_map, List.getElem?_range hj, List.getElem?_eq_getElem hj]
    simp only [Option.map_some, if_pos hj]
    unfold eP pP
    rw [List.getD_eq_getElem?_getD, List.getElem?_eq_getElem hj]
    rfl
  · rw [List.getElem?_eq_none (by rw [shW_len]; omega), List.getElem?_eq_none (by omega)]
theorem cellsW_set (l : List (Int × Int)) (i : Nat) (hi : i < l.length) (p : Int × Int) : ((cellsW l).set (i * 2) (.int .i64 p.1)).set (i * 2 + 1) (.int .i64 p.2) = cellsW (l.set i p) := by
  induction l generalizing i with
  | nil => simp at hi
  | cons q r ih =>
    cases i with
    | zero => rfl
    | succ i =>
      rw [show (i + 1) * 2 = i * 2 + 1 + 1 by omega]
      simp only [cellsW, List.set_cons_succ]
      rw [ih i (by simpa using hi)]
theorem fitW_may {ps : List (Int × Int)} (h : MayP ps) : ∀ p ∈ ps, FitW p := fun p hp => by
  obtain ⟨h1, h2, h3⟩ := h.each p hp
  exact ⟨by omega, by omega, by omega, by omega⟩
open Classical in
/-- what parts use: as a ratio -/
noncomputable def useR (ps : List (Int × Int)) : Int × Int := if MayP ps then sumR ps else (0, 1)
/-- what Use carries along -/
structure UseW (w W : World) (a : Option Addr) (len cap : Nat) (ps : List (Int × Int)) (gp i : Nat) : Prop where
  parts : RowP W a len cap ps
  box : Blk W 58 w.heap.size #[.slice none 0 0, .slice none 0 0]
  row : W.ownsRow gp 32 2 (.slice (some ⟨gp, 0, none⟩) len len) len (cellsW (shW ps i len))
  bel : Below w.heap.size w W
theorem UseW.below {w W W' : World} {a : Option Addr} {len cap : Nat} {ps : List (Int × Int)} {gp i : Nat} (h : UseW w W a len cap ps gp i) (hb : Below W.heap.size W W') : UseW w W' a len cap ps gp i := ⟨h.parts.below hb, h.box.below hb, owns_below h.row hb, below_next h.bel hb⟩
/-- .. as the least ratio, of at most 20 limbs -/
def GivesU (w : World) (ps : List (Int × Int)) (e : Ending) (w' : World) : Prop := ∃ v n d, e = .returned v ∧ Rat w' 0 20 v n d ∧ Lo n d ∧ n * (useR ps).2 = (useR ps).1 * d ∧ Below w.heap.size w w'
theorem Rat.boxed {W : World} {L : Nat} {v : Value} {n d : Int} {g : Nat} {x1 x2 : Option Addr} {l1 c1 l2 c2 : Nat} {T : TypeId} (h : Rat W 0 L v n d) (hg : W.heap[g]? = some (.cells #[.slice x1 l1 c1, .slice x2 l2 c2] T (0, 0))) (u1 u2 : Value) : Rat ((W.setCell ⟨g, 0, none⟩ u1).setCell ⟨g, 1, none⟩ u2) 0 L v n d := by
  obtain ⟨an, ln, cn, zn, ad, ld, cd, zd, rfl, q1, q2, q3, q4, q5⟩ := h
  exact ⟨an, ln, cn, zn, ad, ld, cd, zd, rfl, q1.box hg _ _, q2, q3.box hg _ _, q4, q5⟩
set_option maxRecDepth 20000 in
set_option maxHeartbeats 4000000 in
theorem suse_any (a : Option Addr) (len cap : Nat) (ps : List (Int × Int)) (w : World) (h : RowP w a len cap ps) :
    Calls Try.prog 34 #[.slice a len cap] w (GivesU w ps) := by
  obtain ⟨W1, hW1⟩ : ∃ W1, w.alloc (.cells #[.slice none 0 0, .slice none 0 0] 58) = W1 := ⟨_, rfl⟩
  have B1 := Lib.hid (show Below w.heap.size w W1 by rw [← hW1]; exact wbox _ _)
  have R1 := Lib.hid (show Blk W1 58 w.heap.size #[.slice none 0 0, .slice none 0 0] by rw [← hW1]; exact Blk.new w _ _)
  have H1 := Lib.hid (h.below B1.out)
  have LN := Lib.hid h.len
  have ⟨k1, k2⟩ := h.cap_le
  by_cases hM : MayP ps
  · have HM := Lib.hid hM
    have l1 : 1 ≤ len := by have := hM.some_; rw [h.len] at this; exact this
    have l8 : len ≤ 8 := by have := hM.few; rw [h.len] at this; exact this
    have UR := Lib.hid (show useR ps = sumR ps from if_pos hM)
    clear h hM
    go_enter Try.func34, Try.ntmps34
    go_wp2_with fail
    clear hW1
    refine (scheck_any a len cap ps W1 H1.out true ⟨(fun _ => HM.out), (fun _ => rfl)⟩).mono ?_
    rintro e w2 ⟨rfl, hb⟩
    have B2 := Lib.hid (below_next B1.out hb)
    have R2 := Lib.hid (R1.out.below hb)
    have H2 := Lib.hid (H1.out.below hb)
    clear hb B1 R1 H1
    have zw : w.heap.size < w2.heap.size := R2.out.lt
    obtain ⟨gp, hgp⟩ : ∃ gp, w2.heap.size = gp := ⟨_, rfl⟩
    obtain ⟨W3, hW3⟩ : ∃ W3, w2.alloc (.cells (cellsW (List.replicate len ((0 : Int), (0 : Int)))).toArray 32) = W3 := ⟨_, rfl⟩
    have U3 := Lib.hid (show UseW w W3 a len cap ps gp 0 from ⟨by rw [← hW3]; exact H2.out.below (wbox _ _), by rw [← hW3]; exact R2.out.alloc _, by
      rw [← hW3, shW_zero, ← hgp]
      refine ⟨by rw [cellsW_len]; simp, .inr ⟨w2.heap.size, len, _, rfl, Nat.le_refl _, heap_alloc_new _ _, Nat.le_refl _, by unfold maxLen; omega, by simp [cellsW_len], by rw [List.take_of_length_le (by simp [cellsW_len])]⟩⟩, by rw [← hW3]; exact below_next B2.out (wbox _ _)⟩)
    have hmk := make_wgts len (by omega) w2
    rw [hgp, hW3] at hmk
    have SEP := Lib.hid (show ∀ ba oa, a = some ⟨ba, oa, none⟩ → ba ≠ gp from fun ba oa e => by
      subst e
      obtain ⟨b', o', e', hc, _⟩ := H2.out.cell (i := 0) (by omega)
      simp only [Option.some.injEq, Addr.mk.injEq, and_true] at e'
      obtain ⟨rfl, rfl⟩ := e'
      have := World.block_lt_of_cell? _ _ hc
      rw [hgp] at this
      have h2 : ba < gp := this
      omega)
    rw [hgp] at zw
    clear hgp hW3
    go_wp2_with fail
    clear hmk
    go_loopw [15] (fun v wr => ∃ i : Nat, v = .int .i64 i ∧ i ≤ len ∧ UseW w wr a len cap ps gp i) (fun v _ => len - (intOf v).toNat)
    case atStart => exact ⟨0, rfl, by omega, U3.out⟩
    case round =>
      obtain ⟨i, rfl, i1, hW⟩ := hrel
      have S := Lib.hid hW
      clear hW
      by_cases go : i < len
      · have b1 : decide (i < len) = true := by simp; omega
        have b2 : decide ((i : Int) < (len : Int)) = true := by simp; omega
        have i0 : 0 ≤ (i : Int) := by omega
        have i2 : (i : Int) < (len : Int) := by omega
        have PS := Lib.hid (show ((cellsW (shW ps i len)).set (i * 2) (.int .i64 (eP ps i))).set (i * 2 + 1) (.int .i64 (pP ps i)) = cellsW (shW ps (i + 1) len) by rw [← shW_succ go]; exact cellsW_set _ i (by rw [shW_len]; exact go) (eP ps i, pP ps i))
        obtain ⟨ba, oa, rfl, hx, hy⟩ := S.out.parts.cell go
        obtain ⟨E1, hE⟩ : ∃ E, (ps.getD i (0, 0)).1 = E := ⟨_, rfl⟩
        obtain ⟨P1, hP⟩ : ∃ P, (ps.getD i (0, 0)).2 = P := ⟨_, rfl⟩
        rw [hE] at hx
        rw [hP] at hy
        have PP := Lib.hid (show eP ps i = E1 ∧ pP ps i = P1 from ⟨hE, hP⟩)
        rw [PP.out.1, PP.out.2] at PS
        clear hE hP
        obtain ⟨W4, hW4⟩ : ∃ W4, wr.alloc (.cells #[.int .i64 E1, .int .i64 P1] 62) = W4 := ⟨_, rfl⟩
        have X4 := Lib.hid (show Blk W4 62 wr.heap.size #[.int .i64 E1, .int .i64 P1] by rw [← hW4]; exact Blk.new _ _ _)
        have S4 := Lib.hid (show UseW w W4 (some ⟨ba, oa, none⟩) len cap ps gp i by rw [← hW4]; exact S.out.below (wbox _ _))
        have x0 := X4.out.cell 0
        have x1 := X4.out.cell 1
        simp at x0 x1
        have CS := Lib.hid (show ∃ u0 u1, W4.cell? ⟨gp, i * 2, none⟩ = some u0 ∧ W4.cell? ⟨gp, i * 2 + 1, none⟩ = some u1 from by
          have h1 := S4.out.row.cellAt (i * 2) (by omega)
          have h2 := S4.out.row.cellAt (i * 2 + 1) (by omega)
          rw [List.getElem?_eq_getElem (by rw [cellsW_len, shW_len]; omega)] at h1 h2
          exact ⟨_, _, h1, h2⟩)
        obtain ⟨u0, u1, y0, y1⟩ := CS.out
        have fz : ∀ o, W4.frozen? ⟨gp, o, none⟩ = false := fun o => S4.out.row.frozenAt o
        go_wp2
        go_roundw
        case rel =>
          refine ⟨i + 1, by go_num, by omega, ?_⟩
          have h1 := ((S4.out.row.stored (i * 2) (.int .i64 E1)).1.stored (i * 2 + 1) (.int .i64 P1)).1
          rw [PS.out] at h1
          exact ⟨(S4.out.parts.grown_set (p := ⟨gp, i * 2, none⟩) (SEP.out ba oa rfl)).grown_set (p := ⟨gp, i * 2 + 1, none⟩) (SEP.out ba oa rfl), (S4.out.box.far (p := ⟨gp, i * 2, none⟩) (by simp; omega) _).far (p := ⟨gp, i * 2 + 1, none⟩) (by simp; omega) _, h1, (S4.out.bel.setCell (by simp; omega) _).setCell (by simp; omega) _⟩
        case measure => simp [intOf]; omega
      · have b1 : decide (i < len) = false := by simp; omega
        have b2 : decide ((i : Int) < (len : Int)) = false := by simp; omega
        obtain rfl : i = len := by omega
        have EP := Lib.hid (show shW ps i i = ps by rw [← LN.out, shW_all])
        have RP := Lib.hid (show RowP wr (some ⟨gp, 0, none⟩) i i ps by
          have h1 := S.out.row
          rw [EP.out] at h1
          rw [← LN.out] at h1 ⊢
          obtain ⟨a', c', hv, hr, _⟩ := rowP_of_owns h1
          simp only [Value.slice.injEq, true_and] at hv
          obtain ⟨rfl, rfl⟩ := hv
          exact hr)
        go_wp2_with fail
        refine (qsum_any (some ⟨gp, 0, none⟩) i i ps wr RP.out (fitW_may HM.out) (by omega)).mono ?_
        rintro z w6 ⟨v, n, d, rfl, hr, hlo, heq, hb⟩
        have X := Lib.hid (S.out.box.below hb)
        have BB := Lib.hid (below_next S.out.bel hb)
        have LO := Lib.hid hlo
        have EQ := Lib.hid heq
        have RR := Lib.hid hr
        obtain ⟨an, ln, cn, zn, ad, ld, cd, zd, rfl, q1, q2, q3, q4, q5⟩ := hr
        clear hlo heq hb q1 q2 q3 q4 q5
        have x0 := X.out.cell 0; have x1 := X.out.cell 1
        simp at x0 x1
        have fz : ∀ o, w6.frozen? ⟨w.heap.size, o, none⟩ = false := fun o => X.out.free o
        go_wp2
        exact bodyPost_ret (v := .agg #[.slice an ln cn, .slice ad ld cd]) (by simp [results, Try.results34, go_sem, x0, x1]) rfl ⟨_, n, d, rfl, ((RR.out.boxed X.out _ _).mono (Nat.le_refl _) (by omega)), LO.out, by rw [UR.out]; exact EQ.out, (BB.out.setCell (Nat.le_refl _) _).setCell (Nat.le_refl _) _⟩
  · have HM := Lib.hid hM
    have UR := Lib.hid (show useR ps = (0, 1) from if_neg hM)
    clear h hM
    go_enter Try.func34, Try.ntmps34
    go_wp2_with fail
    clear hW1
    refine (scheck_any a len cap ps W1 H1.out false ⟨(fun h => by cases h), fun h => absurd h HM.out⟩).mono ?_
    rintro e w2 ⟨rfl, hb⟩
    have B2 := Lib.hid (below_next B1.out hb)
    have R2 := Lib.hid (R1.out.below hb)
    clear hb B1 R1 H1
    go_wp2_with fail
    refine (whole_any 0 w2 (by omega) (by omega)).mono ?_
    rintro z w6 ⟨v, rfl, hr, hb⟩
    have X := Lib.hid (R2.out.below hb)
    have BB := Lib.hid (below_next B2.out hb)
    have RR := Lib.hid hr
    obtain ⟨an, ln, cn, zn, ad, ld, cd, zd, rfl, q1, q2, q3, q4, q5⟩ := hr
    clear hb q1 q2 q3 q4 q5
    have x0 := X.out.cell 0; have x1 := X.out.cell 1
    simp at x0 x1
    have fz : ∀ o, w6.frozen? ⟨w.heap.size, o, none⟩ = false := fun o => X.out.free o
    go_wp2
    exact bodyPost_ret (v := .agg #[.slice an ln cn, .slice ad ld cd]) (by simp [results, Try.results34, go_sem, x0, x1]) rfl ⟨_, 0, 1, rfl, ((RR.out.boxed X.out _ _).mono (Nat.le_refl _) (by omega)), ⟨by omega, by omega, by decide⟩, by rw [UR.out], (BB.out.setCell (Nat.le_refl _) _).setCell (Nat.le_refl _) _⟩
end Go.Proofs.Ytnlgophgglgneaa
