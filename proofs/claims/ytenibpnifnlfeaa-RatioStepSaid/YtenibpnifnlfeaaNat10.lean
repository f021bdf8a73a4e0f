/-
  Rows of bytes that the program made itself and may write; what slices.Reverse gives back: contract.
-/
import Derived.Test.YtenibpnifnlfeaaNat9
namespace Go.Proofs.Ytenibpnifnlfeaa
open Go.RowKit

/-- block g is a row of bytes that may be written; it begins with zs -/
def Mine8 (W : World) (g : Nat) (zs : List Int) : Prop :=
  ∃ cur, W.heap[g]? = some (.cells cur 5 (0, 0)) ∧ cur.toList.take zs.length = zs.map (Value.int .u8)

theorem Mine8.lt {W : World} {g : Nat} {zs : List Int} (h : Mine8 W g zs) : g < W.heap.size := by
  obtain ⟨cur, h1, _⟩ := h; exact lt_of_block h1
theorem Mine8.cell {W : World} {g : Nat} {zs : List Int} (h : Mine8 W g zs) {i : Nat} (hi : i < zs.length) : W.cell? ⟨g, i, none⟩ = some (.int .u8 (zs.getD i 0)) := by
  obtain ⟨cur, h1, h2⟩ := h
  rw [cell_of_row W g i cur 5 (0, 0) h1, ← Array.getElem?_toList, ← List.getElem?_take_of_lt (l := cur.toList) hi, h2, List.getElem?_map, List.getElem?_eq_getElem hi, List.getD_eq_getElem?_getD, List.getElem?_eq_getElem hi]
  rfl
theorem Mine8.free {W : World} {g : Nat} {zs : List Int} (h : Mine8 W g zs) (i : Nat) : W.frozen? ⟨g, i, none⟩ = false := by
  obtain ⟨cur, h1, _⟩ := h
  exact frozen_of_row W g i cur 5 h1
theorem Mine8.set {W : World} {g : Nat} {zs : List Int} (h : Mine8 W g zs) (i : Nat) (q : Int) : Mine8 (W.setCell ⟨g, i, none⟩ (.int .u8 q)) g (zs.set i q) := by
  obtain ⟨cur, h1, h2⟩ := h
  refine ⟨_, heap_setCell_same W g i cur 5 _ h1, ?_⟩
  rw [List.length_set, Array.toList_setIfInBounds, List.take_set, h2, List.map_set]
theorem Mine8.other {W : World} {g : Nat} {zs : List Int} (h : Mine8 W g zs) {a : Addr} (ha : g ≠ a.block) (u : Value) : Mine8 (W.setCell a u) g zs := by
  obtain ⟨cur, h1, h2⟩ := h
  exact ⟨cur, by rw [Below.heap_setCell _ _ _ _ ha]; exact h1, h2⟩
theorem Mine8.grown {W W' : World} {g : Nat} {zs : List Int} {row : Option Nat} (h : Mine8 W g zs) (hg : W.grownBy W' row) (hne : some g ≠ row) : Mine8 W' g zs := by
  have := h.lt
  obtain ⟨cur, h1, h2⟩ := h
  exact ⟨cur, by rw [hg.block g this hne]; exact h1, h2⟩
theorem Mine8.below {W W' : World} {g B : Nat} {zs : List Int} (h : Mine8 W g zs) (hb : Below B W W') (hg : g < B) : Mine8 W' g zs := by
  obtain ⟨cur, h1, h2⟩ := h
  exact ⟨cur, by rw [hb.block g hg]; exact h1, h2⟩
theorem Mine8.alloc {W : World} {g : Nat} {zs : List Int} (h : Mine8 W g zs) (o : Obj) : Mine8 (W.alloc o) g zs := by
  have := h.lt
  obtain ⟨cur, h1, h2⟩ := h
  exact ⟨cur, by rw [Below.heap_alloc _ _ _ this]; exact h1, h2⟩
theorem Mine8.drew {W : World} {g : Nat} {zs : List Int} (h : Mine8 W g zs) : Mine8 W.drew g zs := h
theorem Mine8.take {W : World} {g : Nat} {zs : List Int} (h : Mine8 W g zs) {m : Nat} (hm : m ≤ zs.length) : Mine8 W g (zs.take m) := by
  obtain ⟨cur, h1, h2⟩ := h
  refine ⟨cur, h1, ?_⟩
  rw [List.length_take, Nat.min_eq_left hm, List.map_take, ← h2, List.take_take, Nat.min_eq_left hm]
theorem Mine8.row {W : World} {g : Nat} {zs : List Int} (h : Mine8 W g zs) {cap : Nat} (h1 : zs.length ≤ cap) (h2 : cap ≤ 9223372036854775807) : Row .u8 W (some ⟨g, 0, none⟩) zs.length cap zs :=
  ⟨rfl, h1, h2, (fun e => by cases e), fun i hi => ⟨g, 0, rfl, by rw [Nat.zero_add]; exact h.cell hi⟩⟩
theorem mine8_of_owns {W : World} {base g n cap : Nat} {zs : List Int} (h : W.ownsRow base 5 1 (.slice (some ⟨g, 0, none⟩) n cap) n (zs.map (Value.int .u8))) : Mine8 W g zs := by
  have hl : zs.length = n := by have := h.1; simpa using this
  rcases h.2 with ⟨h', _⟩ | ⟨g', cap', cur, h', _, hg, _, _, _, htake⟩
  · simp at h'
  · simp only [Value.slice.injEq, Option.some.injEq, Addr.mk.injEq, and_true, true_and] at h'
    obtain ⟨rfl, rfl⟩ := h'
    exact ⟨cur, hg, by rw [hl]; simpa using htake⟩


/-- what a row is when its ends up to i have changed places -/
def Turned (zs ds : List Int) (i : Nat) : Prop :=
  ds.length = zs.length ∧ ∀ k, k < zs.length → ds.getD k 0 = if i ≤ k ∧ k + i < zs.length then zs.getD k 0 else zs.getD (zs.length - 1 - k) 0
theorem getD_reverse {zs : List Int} {k : Nat} (h : k < zs.length) : zs.reverse.getD k 0 = zs.getD (zs.length - 1 - k) 0 := by
  rw [List.getD_eq_getElem?_getD, List.getElem?_reverse h, ← List.getD_eq_getElem?_getD]
theorem list_ext_getD {x y : List Int} (hl : x.length = y.length) (h : ∀ k, k < y.length → x.getD k 0 = y.getD k 0) : x = y := by
  apply List.ext_getElem hl
  intro k h1 h2
  have := h k h2
  rw [List.getD_eq_getElem?_getD, List.getD_eq_getElem?_getD, List.getElem?_eq_getElem h1, List.getElem?_eq_getElem h2] at this
  simpa using this
theorem turned_start (zs : List Int) : Turned zs zs 0 := ⟨rfl, fun k hk => by rw [if_pos (by omega)]⟩
theorem turned_end {zs ds : List Int} {i : Nat} (h : Turned zs ds i) (hi : zs.length ≤ 2 * i + 1) : ds = zs.reverse := by
  refine list_ext_getD (by rw [h.1, List.length_reverse]) (fun k hk => ?_)
  rw [List.length_reverse] at hk
  rw [getD_reverse hk, h.2 k hk]
  by_cases g : i ≤ k ∧ k + i < zs.length
  · rw [if_pos g, show zs.length - 1 - k = k by omega]
  · rw [if_neg g]
theorem turned_swap {zs ds : List Int} {i j : Nat} (h : Turned zs ds i) (hij : i + j + 1 = zs.length) (hlt : i < j) : Turned zs ((ds.set i (ds.getD j 0)).set j (ds.getD i 0)) (i + 1) := by
  have hl := h.1
  refine ⟨by rw [List.length_set, List.length_set]; exact hl, fun k hk => ?_⟩
  have ei := h.2 i (by omega)
  have ej := h.2 j (by omega)
  have ek := h.2 k hk
  rw [if_pos (by omega)] at ei ej
  by_cases g1 : k = j
  · subst g1
    rw [if_neg (by omega), List.getD_eq_getElem?_getD, List.getElem?_set_self (by rw [List.length_set, hl]; exact hk), Option.getD_some, ei, show zs.length - 1 - k = i by omega]
  · rw [List.getD_eq_getElem?_getD, List.getElem?_set_ne (fun e => g1 e.symm)]
    by_cases g2 : k = i
    · subst g2
      rw [if_neg (by omega), List.getElem?_set_self (by rw [hl]; exact hk), Option.getD_some, ej, show zs.length - 1 - k = j by omega]
    · rw [List.getElem?_set_ne (fun e => g2 e.symm), ← List.getD_eq_getElem?_getD, ek]
      by_cases g3 : i ≤ k ∧ k + i < zs.length
      · rw [if_pos g3, if_pos (by omega)]
      · rw [if_neg g3, if_neg (by omega)]

theorem grown_drew {w w' : World} {row : Option Nat} (h : w.grownBy w' row) : w.grownBy w'.drew row := ⟨h.os, h.tape, h.output, h.size, h.block⟩
def Reverses (w : World) (g : Nat) (zs : List Int) (e : Ending) (w' : World) : Prop :=
  e = .returned (.tuple #[]) ∧ Mine8 w' g zs.reverse ∧ w.grownBy w' (some g)

theorem reverse_any (g n cap : Nat) (zs : List Int) (w : World) (hm : Mine8 w g zs) (hl : zs.length = n) (n1 : n ≤ 1000000) :
    Calls Try.prog 65 #[.slice (some ⟨g, 0, none⟩) n cap] w (Reverses w g zs) := by
  have HM := Lib.hid hm
  have HL := Lib.hid hl
  clear hm hl
  go_enter Try.func65, Try.ntmps65
  go_wp2
  go_loopw [2, 3] (fun u v wr => ∃ (i : Nat) (c : Int) (ds : List Int), u = .int .i64 i ∧ v = .int .i64 c ∧ i + c + 1 = n ∧ i ≤ n ∧ Turned zs ds i ∧ Mine8 wr g ds ∧ w.grownBy wr (some g)) (fun u v _ => (intOf v - intOf u + 2).toNat)
  case atStart => exact ⟨0, _, zs, rfl, rfl, by omega, by omega, turned_start zs, HM.out, ⟨rfl, rfl, rfl, Nat.le_refl _, fun _ _ _ => rfl⟩⟩
  case round =>
    obtain ⟨i, c, ds, rfl, rfl, hic, hin, htu, hmi, hgr⟩ := hrel
    have HT := Lib.hid htu
    have HMi := Lib.hid hmi
    have HG := Lib.hid hgr
    clear htu hmi hgr
    by_cases go : (i : Int) < c
    · obtain ⟨j, rfl⟩ := Int.eq_ofNat_of_zero_le (show 0 ≤ c by omega)
      have dl : ds.length = n := by rw [HT.out.1, HL.out]
      have gi := HMi.out.cell (i := i) (by omega)
      have gj := HMi.out.cell (i := j) (by omega)
      have fi := HMi.out.free i
      have fj := HMi.out.free j
      obtain ⟨x, hx⟩ : ∃ x, ds.getD i 0 = x := ⟨_, rfl⟩
      obtain ⟨y, hy⟩ : ∃ y, ds.getD j 0 = y := ⟨_, rfl⟩
      rw [hx] at gi
      rw [hy] at gj
      have HX := Lib.hid hx
      have HY := Lib.hid hy
      have DL := Lib.hid dl
      clear hx hy dl
      have i1 : (i : Int) < (n : Int) := by omega
      have i2 : 0 ≤ (i : Int) := by omega
      have j1 : (j : Int) < (n : Int) := by omega
      have j2 : 0 ≤ (j : Int) := by omega
      have hne : ¬ i = j := by omega
      have hne2 : ¬ j = i := by omega
      go_wp2
      go_region
      all_goals
        go_wp2
        go_roundw
        case rel =>
          have hs := turned_swap HT.out (j := j) (by rw [HL.out]; omega) (by omega)
          rw [HX.out, HY.out] at hs
          refine ⟨i + 1, _, _, by go_num, rfl, by omega, by omega, hs, ?_, ?_⟩
          · exact ((HMi.out.set i y).set j x)
          · exact grown_drew (grown_set (grown_set HG.out i _) j _)
        case measure => simp [intOf]; omega
    · have b1 : decide ((i : Int) < c) = false := by simp; omega
      have E := Lib.hid (turned_end HT.out (by rw [HL.out]; omega))
      go_wp2
      go_end0
      exact ⟨rfl, by rw [← E.out]; exact HMi.out, HG.out⟩
end Go.Proofs.Ytenibpnifnlfeaa
