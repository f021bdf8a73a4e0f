/-
  Rows of truths; what package fluid's parts tells of one: the contract of its iterator.
-/
import Derived.RangeFuncNested
import Derived.RangeFuncBound
import Derived.RangeFuncCalls
import Derived.RangeFuncLeaves
import Derived.Shelf.Abstract
import Derived.Shelf.RegionOpen
import Derived.WalkKit
import Derived.OwnWalkIn
import Derived.TacticsInMore
import Derived.LoopNIn
import Derived.LoopIn
import Derived.Test.YtnmiiebfpeoafaaFl2
namespace Go.Proofs.Ytnmiiebfpeoafaa
open Go.RowKit Go.Shelf

/-- the slice reads as the truths bs -/
def RowB (W : World) (a : Option Addr) (len cap : Nat) (bs : List Bool) : Prop :=
  bs.length = len ∧ len ≤ cap ∧ cap ≤ 9223372036854775807 ∧ (a = none → cap = 0) ∧
    ∀ i, i < len → ∃ b off, a = some ⟨b, off, none⟩ ∧ W.cell? ⟨b, off + i, none⟩ = some (.bool (bs.getD i false))
theorem RowB.len {W : World} {a : Option Addr} {len cap : Nat} {bs : List Bool} (h : RowB W a len cap bs) : bs.length = len := h.1
theorem RowB.cap_le {W : World} {a : Option Addr} {len cap : Nat} {bs : List Bool} (h : RowB W a len cap bs) : len ≤ cap ∧ cap ≤ 9223372036854775807 := ⟨h.2.1, h.2.2.1⟩
theorem RowB.cell {W : World} {a : Option Addr} {len cap : Nat} {bs : List Bool} (h : RowB W a len cap bs) {i : Nat} (hi : i < len) :
    ∃ b off, a = some ⟨b, off, none⟩ ∧ W.cell? ⟨b, off + i, none⟩ = some (.bool (bs.getD i false)) := h.2.2.2.2 i hi
theorem RowB.below {W W' : World} {a : Option Addr} {len cap : Nat} {bs : List Bool} (h : RowB W a len cap bs) (hb : Below W.heap.size W W') : RowB W' a len cap bs := by
  refine ⟨h.1, h.2.1, h.2.2.1, h.2.2.2.1, fun i hi => ?_⟩
  obtain ⟨b, off, ha, hc⟩ := h.2.2.2.2 i hi
  exact ⟨b, off, ha, (hb.cell (World.block_lt_of_cell? _ _ hc)).trans hc⟩
theorem RowB.drew {W : World} {a : Option Addr} {len cap : Nat} {bs : List Bool} (h : RowB W a len cap bs) : RowB W.drew a len cap bs := h
theorem RowB.nil {W : World} : RowB W none 0 0 [] := ⟨rfl, by omega, by omega, (fun _ => rfl), (fun i hi => by omega)⟩
theorem RowB.none_cap {W : World} {len cap : Nat} {bs : List Bool} (h : RowB W none len cap bs) : len = 0 ∧ cap = 0 ∧ bs = [] := by
  have h1 := h.2.2.2.1 rfl
  have h2 := h.2.1
  have h3 := h.1
  exact ⟨by omega, h1, List.length_eq_zero_iff.mp (by omega)⟩
theorem RowB.take {W : World} {a : Option Addr} {len cap m : Nat} {bs : List Bool} (h : RowB W a len cap bs) (hm : m ≤ len) : RowB W a m cap (bs.take m) := by
  refine ⟨by rw [List.length_take, h.1]; omega, by have := h.2.1; omega, h.2.2.1, h.2.2.2.1, fun i hi => ?_⟩
  obtain ⟨b, off, ha, hc⟩ := h.2.2.2.2 i (by omega)
  refine ⟨b, off, ha, ?_⟩
  rw [List.getD_eq_getElem?_getD, List.getElem?_take_of_lt hi, ← List.getD_eq_getElem?_getD]
  exact hc

/-- how many are so -/
def runsI (bs : List Bool) : Int := (bs.count true : Int)
theorem runs_nil : runsI [] = 0 := rfl
theorem runs_bd (bs : List Bool) : 0 ≤ runsI bs ∧ runsI bs ≤ bs.length := by
  unfold runsI
  have := List.count_le_length (a := true) (l := bs)
  omega
theorem runs_yes {bs : List Bool} {k : Nat} (h : k < bs.length) (g : bs.getD k false = true) : runsI (bs.take (k + 1)) = runsI (bs.take k) + 1 := by
  unfold runsI
  rw [List.take_succ_eq_append_getElem h, List.count_append]
  rw [List.getD_eq_getElem?_getD, List.getElem?_eq_getElem h] at g
  simp at g
  simp [g]
theorem runs_no {bs : List Bool} {k : Nat} (h : k < bs.length) (g : bs.getD k false = false) : runsI (bs.take (k + 1)) = runsI (bs.take k) := by
  unfold runsI
  rw [List.take_succ_eq_append_getElem h, List.count_append]
  rw [List.getD_eq_getElem?_getD, List.getElem?_eq_getElem h] at g
  simp at g
  simp [g]
theorem runs_take_bd (bs : List Bool) (k : Nat) : 0 ≤ runsI (bs.take k) ∧ runsI (bs.take k) ≤ k := by
  have := runs_bd (bs.take k)
  have := List.length_take_le k bs
  omega
/-- what is told of the part of k slots -/
def partF (bs : List Bool) (k : Nat) : Int × Int := ((k : Int), runsI (bs.take k))
/-- what has come when k rounds are over -/
def upto (bs : List Bool) (k : Nat) : List (Int × Int) := (List.range k).map (partF bs)
theorem upto_succ (bs : List Bool) (k : Nat) : upto bs (k + 1) = upto bs k ++ [partF bs k] := by simp [upto, List.range_succ]
theorem upto_length (bs : List Bool) (k : Nat) : (upto bs k).length = k := by simp [upto]
theorem upto_mem {bs : List Bool} {k j : Nat} (h : j < k) : partF bs j ∈ upto bs k := by
  simp only [upto, List.mem_map, List.mem_range]; exact ⟨j, h, rfl⟩

/-- what a round keeps that goes on: what lies below n₀, and the row's own box -/
def Kept (n₀ Bs : Nat) (W W' : World) : Prop := Below n₀ W W' ∧ W'.heap[Bs]? = W.heap[Bs]?
theorem Kept.refl (n₀ Bs : Nat) (W : World) : Kept n₀ Bs W W := ⟨Below.refl _ _, rfl⟩
theorem Kept.trans {n₀ Bs : Nat} {A B C : World} (h : Kept n₀ Bs A B) (k : Kept n₀ Bs B C) : Kept n₀ Bs A C := ⟨h.1.trans k.1, k.2.trans h.2⟩
theorem kept_b {n₀ Bs : Nat} {w : World} (hn : n₀ ≤ w.heap.size) (hB : Bs < w.heap.size) (W : World) (l : Nat) (o o' : Obj) (hl : w.heap.size ≤ l) (h : W.heap[l]? = some o) (h1 : o.isCells = false) (h2 : o.isWalk = false) : Kept n₀ Bs W (W.putObj l o') :=
  ⟨belowK_b hn W l o o' hl h h1 h2, (grownBy_putObj' W l o').block Bs (by have := (Array.getElem?_eq_some_iff.1 h).1; omega) (fun e => by cases e; omega)⟩
theorem Kept.blk {n₀ Bs : Nat} {W W' : World} {T : TypeId} {cs : Array Value} (h : Kept n₀ Bs W W') (g : Blk W T Bs cs) : Blk W' T Bs cs := h.2.trans g
/-- the row, if it has any, lies below n₀ -/
def LowB (n₀ : Nat) (a : Option Addr) (len : Nat) : Prop := 0 < len → ∀ ad : Addr, a = some ad → ad.block < n₀
theorem RowB.kept {n₀ : Nat} {W W' : World} {a : Option Addr} {len cap : Nat} {bs : List Bool} (h : RowB W a len cap bs) (g : LowB n₀ a len) (hk : Below n₀ W W') : RowB W' a len cap bs := by
  refine ⟨h.1, h.2.1, h.2.2.1, h.2.2.2.1, fun i hi => ?_⟩
  obtain ⟨b, off, ha, hc⟩ := h.2.2.2.2 i hi
  exact ⟨b, off, ha, (hk.cell (p := ⟨b, off + i, none⟩) (show b < n₀ from g (by omega) _ ha)).trans hc⟩
theorem RowB.low {W : World} {a : Option Addr} {len cap : Nat} {bs : List Bool} (h : RowB W a len cap bs) : LowB W.heap.size a len := by
  intro hl ad e
  obtain ⟨b, off, ha, hc⟩ := h.2.2.2.2 0 hl
  rw [ha] at e
  cases e
  exact World.block_lt_of_cell? _ _ hc

/-- package fluid's parts: the row is boxed; the function value captures the box -/
theorem fparts_any (a : Option Addr) (len cap : Nat) (w : World) :
    Calls Try.prog 35 #[.slice a len cap] w fun e w' => e = .returned (.func (.func 44) #[] #[.pointer (some ⟨w.heap.size, 0, none⟩)]) ∧ w' = w.alloc (.cells #[.slice a len cap] 25) := by
  go_enter Try.func35, Try.ntmps35
  go_wp2
  go_ret
  exact ⟨rfl, rfl⟩

section
attribute [local go_sem] Oper.semAt_some
set_option maxRecDepth 100000 in
set_option maxHeartbeats 2000000 in
/-- the iterator: of each part of the row, from its beginning on; whatever the body does that keeps the row, and its box -/
theorem parts1_in (n : Nat) (hn : 1 ≤ n) (l Bs n₀ len cap : Nat) (a : Option Addr) (bs : List Bool) (hlen : len ≤ 4611686018427387904) (ha : LowB n₀ a len) (J Jx : List (Int × Int) → World → Prop)
    (hY : ∀ pre x W, J pre W → pre.length < len + 1 → YieldAt Fence.wide (n - 1) Try.prog l #[.int .i64 x.1, .int .i64 x.2] W fun e W' =>
      (e = .returned (.bool true) ∧ J (pre ++ [x]) W' ∧ Kept n₀ Bs W W') ∨ (e = .returned (.bool false) ∧ Jx (pre ++ [x]) W'))
    (W : World) (hBs : Blk W 25 Bs #[Value.slice a len cap]) (hRow : RowB W a len cap bs) (h0 : J [] W) :
    CallsIn Fence.wide n Try.prog 44 #[.func (.yield l) #[] #[], .pointer (some ⟨Bs, 0, none⟩)] W fun e W' => (∃ v, e = .returned v) ∧
      ((∃ ys, ys = upto bs (len + 1) ∧ J ys W') ∨ (∃ pre, (∃ k, k ≤ len + 1 ∧ pre = upto bs k) ∧ Jx pre W')) := by
  refine callsIn_of_wp Try.func44 rfl trivial ?_ rfl
  simp only [Try.ntmps44, List.size_toArray, List.length_cons, List.length_nil, Nat.reduceAdd, Nat.reduceSub, Array.replicate_succ, Array.replicate_zero, List.push_toArray, List.append_toArray, List.nil_append, List.cons_append]
  gi_wp2
  gi_loopw [3, 4] (fun s q wr => ∃ k : Nat, k ≤ len ∧ s = .int .i64 (k : Int) ∧ q = .int .i64 (runsI (bs.take k)) ∧ J (upto bs k) wr ∧ Blk wr 25 Bs #[Value.slice a len cap] ∧ RowB wr a len cap bs)
    (fun s _ _ => len - (intOf s).toNat)
  case atStart => exact ⟨0, Nat.zero_le _, rfl, rfl, h0, hBs, hRow⟩
  case round =>
    obtain ⟨k, hk, rfl, rfl, hJs, hL, hR'⟩ := hrel
    obtain ⟨fn, tmps, assign, body, hy, hR⟩ := hY _ (partF bs k) wr hJs (by rw [upto_length]; omega)
    dsimp only [partF] at hy
    obtain ⟨r0, r1⟩ := runs_take_bd bs k
    gi_wp2
    refine hR.mono ?_
    rintro e W3 (⟨rfl, hJ3, hk3⟩ | ⟨rfl, hJx3⟩)
    · have L := Lib.hid (hk3.blk hL)
      have R := Lib.hid (hR'.kept ha hk3.1)
      have c0 := L.out.cell 0
      simp at c0
      by_cases hlt : k < len
      · have d : decide ((k : Int) < (len : Int)) = true := by simp; omega
        obtain ⟨b, off, hab, hc⟩ := R.out.cell hlt
        subst hab
        have hkl : k < bs.length := by rw [R.out.len]; exact hlt
        have J3 := Lib.hid (show J (upto bs (k + 1)) W3 by rw [upto_succ]; exact hJ3)
        have wk : IntKind.i64.wrap ((k : Int) + 1) = (k : Int) + 1 := IntWalk.i64_in _ (by omega)
        have wr1 : IntKind.i64.wrap (runsI (bs.take k) + 1) = runsI (bs.take k) + 1 := IntWalk.i64_in _ (by omega)
        cases hv : bs.getD k false
        · rw [hv] at hc
          have Rn := Lib.hid (runs_no hkl hv)
          gi_wp2
          go_roundw
          case rel => exact ⟨k + 1, by omega, by simp, by rw [Rn.out], J3.out, L.out, R.out⟩
          case measure => simp [intOf]; omega
        · rw [hv] at hc
          have Rn := Lib.hid (runs_yes hkl hv)
          gi_wp2
          go_roundw
          case rel => exact ⟨k + 1, by omega, by simp, by rw [Rn.out], J3.out, L.out, R.out⟩
          case measure => simp [intOf]; omega
      · have d : decide ((k : Int) < (len : Int)) = false := by simp; omega
        obtain rfl : k = len := by omega
        gi_wp2
        go_end0
        exact ⟨⟨_, rfl⟩, .inl ⟨_, rfl, by rw [upto_succ]; exact hJ3⟩⟩
    · gi_wp2
      go_end0
      exact ⟨⟨_, rfl⟩, .inr ⟨_, ⟨k + 1, by omega, (upto_succ _ _).symm⟩, hJx3⟩⟩
/-- what parts hands back, as a sequence that stops -/
theorem parts_stops (n : Nat) (hn : 1 ≤ n) (Bs n₀ len cap : Nat) (a : Option Addr) (bs : List Bool) (hlen : len ≤ 4611686018427387904) (ha : LowB n₀ a len) (w : World) (hBs : Blk w 25 Bs #[Value.slice a len cap]) (hRow : RowB w a len cap bs) :
    SeqStopsK Fence.wide n Try.prog 44 #[.pointer (some ⟨Bs, 0, none⟩)] (fun x : Int × Int => #[Value.int .i64 x.1, Value.int .i64 x.2]) (Kept n₀ Bs) (fun ys => ys = upto bs (len + 1)) (fun pre => ∃ k, k ≤ len + 1 ∧ pre = upto bs k) (len + 1) w :=
  fun l J Jx W hW _ _ hY h0 => parts1_in n hn l Bs n₀ len cap a bs hlen ha J Jx hY W (hBs.below hW) (hRow.below hW) h0
end
end Go.Proofs.Ytnmiiebfpeoafaa
