/-
  Rows of pairs of numbers; what the laws' weights gives back: contract.
-/
import Derived.Test.YtenibpnifnlfeaaRat5
import Derived.Deep.AppendLies
namespace Go.Proofs.Ytenibpnifnlfeaa
open Go.RowKit

/-- the slice that leads to 'a', of 'len' elements of two numbers each, reads as ps -/
def RowP (W : World) (a : Option Addr) (len cap : Nat) (ps : List (Int × Int)) : Prop :=
  ps.length = len ∧ len ≤ cap ∧ cap ≤ 9223372036854775807 ∧ (a = none → cap = 0) ∧
    ∀ i, i < len → ∃ b off, a = some ⟨b, off, none⟩ ∧ W.cell? ⟨b, off + i * 2, none⟩ = some (.int .i64 (ps.getD i (0, 0)).1) ∧ W.cell? ⟨b, off + i * 2 + 1, none⟩ = some (.int .i64 (ps.getD i (0, 0)).2)
theorem RowP.len {W : World} {a : Option Addr} {len cap : Nat} {ps : List (Int × Int)} (h : RowP W a len cap ps) : ps.length = len := h.1
theorem RowP.cap_le {W : World} {a : Option Addr} {len cap : Nat} {ps : List (Int × Int)} (h : RowP W a len cap ps) : len ≤ cap ∧ cap ≤ 9223372036854775807 := ⟨h.2.1, h.2.2.1⟩
theorem RowP.cell {W : World} {a : Option Addr} {len cap : Nat} {ps : List (Int × Int)} (h : RowP W a len cap ps) {i : Nat} (hi : i < len) :
    ∃ b off, a = some ⟨b, off, none⟩ ∧ W.cell? ⟨b, off + i * 2, none⟩ = some (.int .i64 (ps.getD i (0, 0)).1) ∧ W.cell? ⟨b, off + i * 2 + 1, none⟩ = some (.int .i64 (ps.getD i (0, 0)).2) := h.2.2.2.2 i hi
theorem RowP.below {W W' : World} {a : Option Addr} {len cap : Nat} {ps : List (Int × Int)} (h : RowP W a len cap ps) (hb : Below W.heap.size W W') : RowP W' a len cap ps := by
  refine ⟨h.1, h.2.1, h.2.2.1, h.2.2.2.1, fun i hi => ?_⟩
  obtain ⟨b, off, ha, hc1, hc2⟩ := h.2.2.2.2 i hi
  exact ⟨b, off, ha, (hb.cell (World.block_lt_of_cell? _ _ hc1)).trans hc1, (hb.cell (World.block_lt_of_cell? _ _ hc2)).trans hc2⟩
/-- a weight's two cells -/
def cellsW : List (Int × Int) → List Value
  | [] => []
  | p :: r => .int .i64 p.1 :: .int .i64 p.2 :: cellsW r
theorem cellsW_append (x y : List (Int × Int)) : cellsW (x ++ y) = cellsW x ++ cellsW y := by
  induction x with
  | nil => rfl
  | cons p r ih => rw [List.cons_append, cellsW, cellsW, ih]; rfl
theorem cellsW_get (ps : List (Int × Int)) (i : Nat) (h : i < ps.length) : (cellsW ps)[i * 2]? = some (.int .i64 (ps.getD i (0, 0)).1) ∧ (cellsW ps)[i * 2 + 1]? = some (.int .i64 (ps.getD i (0, 0)).2) := by
  induction ps generalizing i with
  | nil => simp at h
  | cons p r ih =>
    cases i with
    | zero => simp [cellsW]
    | succ i =>
      have := ih i (by simpa using h)
      rw [show (i + 1) * 2 = i * 2 + 1 + 1 by omega, cellsW]
      simpa using this
theorem rowP_of_owns {W : World} {base : Nat} {e : TypeId} {v : Value} {ps : List (Int × Int)} (h : W.ownsRow base e 2 v ps.length (cellsW ps)) :
    ∃ a cap, v = .slice a ps.length cap ∧ RowP W a ps.length cap ps ∧ Fresh base a := by
  rcases h.2 with ⟨hv, hn⟩ | ⟨g, cap, cur, hv, hbg, _, hcap, hmx, _, _⟩
  · refine ⟨none, 0, by rw [hv, hn], ⟨rfl, by omega, by omega, (fun _ => rfl), (fun i hi => by omega)⟩, Fresh.none⟩
  · subst hv
    refine ⟨_, cap, rfl, ⟨rfl, hcap, by unfold maxLen at hmx; omega, (fun h => by cases h), fun i hi => ⟨g, 0, rfl, ?_, ?_⟩⟩, fun ad e => by cases e; exact hbg⟩
    · rw [Nat.zero_add, h.cellAt (i * 2) (by omega)]; exact (cellsW_get ps i hi).1
    · rw [Nat.zero_add, h.cellAt (i * 2 + 1) (by omega)]; exact (cellsW_get ps i hi).2
theorem Try.infoW : (Try.prog.info? 51).map (fun i => (i.zero, i.size, i.bytes)) = some (some (.agg #[.int .i64 0, .int .i64 0]), 2, 16) := by kernel_rfl

/-- a weight by two numbers -/
def mkW (p : Int × Int) : Int × Int := (bits .and .i64 p.1 1048575, 1 + bits .and .i64 p.2 1048575)
def GivesP (w : World) (ps : List (Int × Int)) (e : Ending) (w' : World) : Prop :=
  ∃ a len cap, e = .returned (.slice a len cap) ∧ RowP w' a len cap ps ∧ Below w.heap.size w w' ∧ Fresh w.heap.size a

theorem and_bd (x : Int) : 0 ≤ bits .and .i64 x 1048575 ∧ bits .and .i64 x 1048575 ≤ 1048575 := by
  have h : (BitVec.ofInt 64 x &&& BitVec.ofInt 64 1048575).toNat ≤ 1048575 := by
    rw [BitVec.toNat_and]
    exact Nat.and_le_right
  have e : bits .and .i64 x 1048575 = ((BitVec.ofInt 64 x &&& BitVec.ofInt 64 1048575).toNat : Int) := by
    show IntKind.i64.wrap ((BitVec.ofInt 64 x &&& BitVec.ofInt 64 1048575).toNat : Int) = _
    exact IntWalk.i64_in _ (by omega)
  omega
theorem takeP {ps : List (Int × Int)} {t : Nat} (h : t < ps.length) : ps.take (t + 1) = ps.take t ++ [ps.getD t (0, 0)] := by
  rw [List.take_succ_eq_append_getElem h, List.getD_eq_getElem?_getD, List.getElem?_eq_getElem h]; rfl

set_option maxHeartbeats 3200000 in
theorem weights_any (a : Option Addr) (len cap : Nat) (ps : List (Int × Int)) (w : World) (h : RowP w a len cap ps) :
    Calls Try.prog 11 #[.slice a len cap] w (GivesP w ((ps.take 8).map mkW)) := by
  obtain ⟨i0, hi, hz0, hz1, hz2⟩ := info_parts Try.infoW
  have H := Lib.hid h
  have LN := Lib.hid h.len
  have ⟨c1, c2⟩ := h.cap_le
  clear h
  go_enter Try.func11, Try.ntmps11
  go_wp2
  go_loopw [3, 4] (fun v u wr => ∃ i : Nat, u = .int .i64 i ∧ i ≤ 8 ∧ i ≤ len ∧ wr.ownsRow w.heap.size 51 2 v ((ps.take i).map mkW).length (cellsW ((ps.take i).map mkW)) ∧ Below w.heap.size w wr) (fun _ u _ => 8 - (intOf u).toNat)
  case atStart => exact ⟨0, rfl, by omega, by omega, World.ownsRow_nil _ _ _ _, Below.refl _ _⟩
  case round =>
    obtain ⟨i, rfl, i8, il, hown, hbel⟩ := hrel
    have HO := Lib.hid hown
    have HW := Lib.hid hbel
    have hsz := hbel.size
    have LI := Lib.hid (show ((ps.take i).map mkW).length = i by rw [List.length_map, List.length_take, LN.out]; omega)
    rw [LI.out] at HO
    clear hown hbel
    by_cases go : i < len ∧ i < 8
    · obtain ⟨g1, g2⟩ := go
      have t1 : decide (i < len) = true := by simp; omega
      have t2 : decide ((i : Int) < 8) = true := by simp; omega
      obtain ⟨ba, oa, rfl, hx, hy⟩ := (H.out.below HW.out).cell g1
      have hlt : ba < w.heap.size := by
        obtain ⟨b', o', he, h', _⟩ := H.out.cell g1
        simp only [Option.some.injEq, Addr.mk.injEq] at he
        obtain ⟨rfl, rfl, _⟩ := he
        exact World.block_lt_of_cell? _ _ h'
      obtain ⟨x, hxx⟩ : ∃ x, (ps.getD i (0, 0)).1 = x := ⟨_, rfl⟩
      obtain ⟨y, hyy⟩ : ∃ y, (ps.getD i (0, 0)).2 = y := ⟨_, rfl⟩
      rw [hxx] at hx
      rw [hyy] at hy
      have EX := Lib.hid (show mkW (ps.getD i (0, 0)) = (bits .and .i64 x 1048575, 1 + bits .and .i64 y 1048575) by unfold mkW; rw [hxx, hyy])
      clear hxx hyy
      obtain ⟨x1, x2⟩ := and_bd x
      obtain ⟨y1, y2⟩ := and_bd y
      obtain ⟨X, hX⟩ : ∃ X, bits .and .i64 x 1048575 = X := ⟨_, rfl⟩
      obtain ⟨Y, hY⟩ : ∃ Y, bits .and .i64 y 1048575 = Y := ⟨_, rfl⟩
      rw [hX, hY] at EX
      rw [hX] at x1 x2
      rw [hY] at y1 y2
      have j1 : (i : Int) < (len : Int) := by omega
      have j2 : 0 ≤ (i : Int) := by omega
      have wy : IntKind.i64.wrap (1 + Y) = 1 + Y := IntWalk.i64_in _ (by omega)
      have HFar := Lib.hid (show some ba ≠ u3.ownBlock from fun e => by have := (HO.out.lt _ e.symm).1; omega)
      go_wp2
      go_region_held3 (fun w' => w'.cell? ⟨ba, oa + i * 2, none⟩ = some (.int .i64 x) ∧ w'.cell? ⟨ba, oa + i * 2 + 1, none⟩ = some (.int .i64 y))
        (first
          | go_keep
          | (go_split_ands; exact ⟨(hgrow.cell_far _ (by simp; omega) HFar.out).trans (by assumption), (hgrow.cell_far _ (by simp; omega) HFar.out).trans (by assumption)⟩))
        ((refine step_append_lies _ (by rfl) _ _ _ (by rfl) w.heap.size 51 i0 _ 2 16 Try.underlying28 hi hz0 hz1 hz2 rfl (by omega) _ i (cellsW ((ps.take i).map mkW)) (by rfl) ((HO.out.alloc _).drew) ⟨wr.heap.size, 0, none⟩ 1 1 [.int .i64 X, .int .i64 (1 + Y)] (by rfl) (by rfl) (World.news_of_block (cs := #[.int .i64 X, .int .i64 (1 + Y)]) (t := 51) (fr := (0, 0)) (heap_alloc_new wr _)) (by simp [Value.oneCell']) (by omega) (by unfold maxLen; omega) (by omega) (by simp; omega) (wr.heap.size + 1) (by simp) ?_; intro gg cap2 w1 hown1 hgrow hat hlt1))
      all_goals
        have HO1 := Lib.hid hown1
        have HG1 := Lib.hid hgrow
        clear hown1 hgrow
        have EP := Lib.hid (show (ps.take (i + 1)).map mkW = (ps.take i).map mkW ++ [(X, 1 + Y)] by rw [takeP (by rw [LN.out]; exact g1), List.map_append, List.map_cons, EX.out]; rfl)
        clear hX hY
        go_wp2
        go_roundw
        case rel =>
          refine ⟨i + 1, by go_num, by omega, by omega, ?_, ?_⟩
          · rw [EP.out, cellsW_append, List.length_append, LI.out]
            exact HO1.out
          · exact ((HW.out.alloc hsz _).drew).grown HG1.out (by simp; omega) (fun g hg => (HO.out.lt g hg).1)
        case measure => simp [intOf]; omega
    · have EL := Lib.hid (show (ps.take i).map mkW = (ps.take 8).map mkW by
        by_cases h8 : i = 8
        · rw [h8]
        · rw [List.take_of_length_le (by rw [LN.out]; omega), List.take_of_length_le (by rw [LN.out]; omega)])
      obtain ⟨a', cap', hv, hrow, hfr⟩ := rowP_of_owns (ps := (ps.take i).map mkW) (by rw [LI.out]; exact HO.out)
      rw [LI.out] at hv hrow
      subst hv
      have HR := Lib.hid hrow
      have HF := Lib.hid hfr
      clear hrow hfr
      by_cases g1 : i < len
      · have t1 : decide (i < len) = true := by simp; omega
        have t2 : decide ((i : Int) < 8) = false := by simp; omega
        go_wp2
        go_ret
        exact ⟨_, _, _, rfl, by rw [← EL.out]; exact HR.out, HW.out, HF.out⟩
      · have t1 : decide (i < len) = false := by simp; omega
        go_wp2
        go_ret
        exact ⟨_, _, _, rfl, by rw [← EL.out]; exact HR.out, HW.out, HF.out⟩
end Go.Proofs.Ytenibpnifnlfeaa
