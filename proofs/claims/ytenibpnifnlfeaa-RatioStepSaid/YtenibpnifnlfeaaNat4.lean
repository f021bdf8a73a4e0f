/-
  Rows of limbs that the program made itself and may write; what package nat's Of, divide, Clone and Div give back: contracts.
-/
import Derived.Test.YtenibpnifnlfeaaNat3
namespace Go.Proofs.Ytenibpnifnlfeaa
open Go.RowKit

/-- block g is a row of limbs that may be written; it begins with zs -/
def Mine (W : World) (g : Nat) (zs : List Int) : Prop :=
  ∃ cur, W.heap[g]? = some (.cells cur 38 (0, 0)) ∧ cur.toList.take zs.length = zs.map (Value.int .u32)

theorem Mine.lt {W : World} {g : Nat} {zs : List Int} (h : Mine W g zs) : g < W.heap.size := by
  obtain ⟨cur, h1, _⟩ := h; exact lt_of_block h1
theorem Mine.cell {W : World} {g : Nat} {zs : List Int} (h : Mine W g zs) {i : Nat} (hi : i < zs.length) : W.cell? ⟨g, i, none⟩ = some (.int .u32 (zs.getD i 0)) := by
  obtain ⟨cur, h1, h2⟩ := h
  rw [cell_of_row W g i cur 38 (0, 0) h1, ← Array.getElem?_toList, ← List.getElem?_take_of_lt (l := cur.toList) hi, h2, List.getElem?_map, List.getElem?_eq_getElem hi, List.getD_eq_getElem?_getD, List.getElem?_eq_getElem hi]
  rfl
theorem Mine.free {W : World} {g : Nat} {zs : List Int} (h : Mine W g zs) (i : Nat) : W.frozen? ⟨g, i, none⟩ = false := by
  obtain ⟨cur, h1, _⟩ := h
  exact frozen_of_row W g i cur 38 h1
theorem Mine.set {W : World} {g : Nat} {zs : List Int} (h : Mine W g zs) (i : Nat) (q : Int) : Mine (W.setCell ⟨g, i, none⟩ (.int .u32 q)) g (zs.set i q) := by
  obtain ⟨cur, h1, h2⟩ := h
  refine ⟨_, heap_setCell_same W g i cur 38 _ h1, ?_⟩
  rw [List.length_set, Array.toList_setIfInBounds, List.take_set, h2, List.map_set]
theorem Mine.other {W : World} {g : Nat} {zs : List Int} (h : Mine W g zs) {a : Addr} (ha : g ≠ a.block) (u : Value) : Mine (W.setCell a u) g zs := by
  obtain ⟨cur, h1, h2⟩ := h
  exact ⟨cur, by rw [Below.heap_setCell _ _ _ _ ha]; exact h1, h2⟩
theorem Mine.grown {W W' : World} {g : Nat} {zs : List Int} {row : Option Nat} (h : Mine W g zs) (hg : W.grownBy W' row) (hne : some g ≠ row) : Mine W' g zs := by
  have := h.lt
  obtain ⟨cur, h1, h2⟩ := h
  exact ⟨cur, by rw [hg.block g this hne]; exact h1, h2⟩
theorem Mine.below {W W' : World} {g B : Nat} {zs : List Int} (h : Mine W g zs) (hb : Below B W W') (hg : g < B) : Mine W' g zs := by
  obtain ⟨cur, h1, h2⟩ := h
  exact ⟨cur, by rw [hb.block g hg]; exact h1, h2⟩
theorem Mine.alloc {W : World} {g : Nat} {zs : List Int} (h : Mine W g zs) (o : Obj) : Mine (W.alloc o) g zs := by
  have := h.lt
  obtain ⟨cur, h1, h2⟩ := h
  exact ⟨cur, by rw [Below.heap_alloc _ _ _ this]; exact h1, h2⟩
theorem Mine.drew {W : World} {g : Nat} {zs : List Int} (h : Mine W g zs) : Mine W.drew g zs := h
theorem Mine.take {W : World} {g : Nat} {zs : List Int} (h : Mine W g zs) {m : Nat} (hm : m ≤ zs.length) : Mine W g (zs.take m) := by
  obtain ⟨cur, h1, h2⟩ := h
  refine ⟨cur, h1, ?_⟩
  rw [List.length_take, Nat.min_eq_left hm, List.map_take, ← h2, List.take_take, Nat.min_eq_left hm]
theorem Mine.row {W : World} {g : Nat} {zs : List Int} (h : Mine W g zs) {cap : Nat} (h1 : zs.length ≤ cap) (h2 : cap ≤ 9223372036854775807) : Row .u32 W (some ⟨g, 0, none⟩) zs.length cap zs :=
  ⟨rfl, h1, h2, (fun e => by cases e), fun i hi => ⟨g, 0, rfl, by rw [Nat.zero_add]; exact h.cell hi⟩⟩
theorem mine_of_owns {W : World} {base g n cap : Nat} {zs : List Int} (h : W.ownsRow base 38 1 (.slice (some ⟨g, 0, none⟩) n cap) n (zs.map (Value.int .u32))) : Mine W g zs := by
  have hl : zs.length = n := by have := h.1; simpa using this
  rcases h.2 with ⟨h', _⟩ | ⟨g', cap', cur, h', _, hg, _, _, _, htake⟩
  · simp at h'
  · simp only [Value.slice.injEq, Option.some.injEq, Addr.mk.injEq, and_true, true_and] at h'
    obtain ⟨rfl, rfl⟩ := h'
    exact ⟨cur, hg, by rw [hl]; simpa using htake⟩

theorem digs_two {n : Int} (n0 : 0 ≤ n) (n1 : n ≤ 18446744073709551615) : Digs 4294967296 [n % 4294967296, n / 4294967296] := fun z hz => by
  simp at hz
  rcases hz with rfl | rfl <;> omega

theorem nOf_any (n : Int) (w : World) (n0 : 0 ≤ n) (n1 : n ≤ 18446744073709551615) :
    Calls Try.prog 44 #[.int .u64 n] w (Gives .u32 w fun r => Is 4294967296 r n) := by
  obtain ⟨a5, c5, hv5, hrow5, _⟩ := row_of_owns (k := .u32) (zs := [n % 4294967296, n / 4294967296]) (World.ownsRow_lit (base := w.heap.size) (e := 38) (size := 1) w #[.int .u32 (n % 4294967296), .int .u32 (n / 4294967296)] 2 (Nat.le_refl _) (by unfold maxLen; omega) rfl)
  simp only [Value.slice.injEq] at hv5
  obtain ⟨rfl, _, rfl⟩ := hv5
  have HR := Lib.hid hrow5
  clear hrow5
  have HV := Lib.hid (show val 4294967296 [n % 4294967296, n / 4294967296] = n by simp [val]; omega)
  go_enter Try.func44, Try.ntmps44
  go_wp2_with (go_at_call 52; refine (ncut_any _ _ _ [n % 4294967296, n / 4294967296] _ HR.out (digs_two n0 n1)).mono ?_; rintro e w' ⟨m1, l1, rfl, hr1, hi1, rfl⟩; rw [HV.out] at hi1; have HR1 := Lib.hid hr1; have HI1 := Lib.hid hi1; clear hr1 hi1)
  go_ret
  exact ⟨_, _, _, _, rfl, HR1.out, HI1.out, (Below.refl _ _).alloc (Nat.le_refl _) _, (fun ad h => by cases h; exact Nat.le_refl _)⟩
end Go.Proofs.Ytenibpnifnlfeaa
