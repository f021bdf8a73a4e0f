/-
  What package exact's Mul, Floor and Ceil give back of numbers that are not below 0, and package window's parts and its closure: contracts.
-/
import Derived.Test.YtnmiiebfpeoafaaWin2
import Derived.Laws.Rows
import Derived.OneCell
namespace Go.Proofs.Ytnmiiebfpeoafaa
open Go.RowKit

/-! ### blocks -/
/-- block g holds the cells cs, each free -/
def Blk (W : World) (T : TypeId) (g : Nat) (cs : Array Value) : Prop := W.heap[g]? = some (.cells cs T (0, 0))
theorem Blk.lt {W : World} {T : TypeId} {g : Nat} {cs : Array Value} (h : Blk W T g cs) : g < W.heap.size := lt_of_block h
theorem Blk.below {W W' : World} {T : TypeId} {g : Nat} {cs : Array Value} (h : Blk W T g cs) (hb : Below W.heap.size W W') : Blk W' T g cs := (hb.block g (lt_of_block h)).trans h
theorem Blk.cell {W : World} {T : TypeId} {g : Nat} {cs : Array Value} (h : Blk W T g cs) (j : Nat) : W.cell? ⟨g, j, none⟩ = cs[j]? := cell_of_row W g j cs T (0, 0) h
theorem Blk.free {W : World} {T : TypeId} {g : Nat} {cs : Array Value} (h : Blk W T g cs) (j : Nat) : W.frozen? ⟨g, j, none⟩ = false := frozen_of_row W g j cs T h
theorem Blk.drew {W : World} {T : TypeId} {g : Nat} {cs : Array Value} (h : Blk W T g cs) : Blk W.drew T g cs := h
theorem Blk.new (W : World) (T : TypeId) (cs : Array Value) : Blk (W.alloc (.cells cs T)) T W.heap.size cs := heap_alloc_new _ _
theorem wbox (w : World) (o : Obj) : Below w.heap.size w (w.alloc o) := (Below.refl _ _).alloc (Nat.le_refl _) _
theorem Blk.alloc {W : World} {T : TypeId} {g : Nat} {cs : Array Value} (h : Blk W T g cs) (o : Obj) : Blk (W.alloc o) T g cs := h.below (wbox W o)
theorem wsize (w : World) (o : Obj) : (w.alloc o).heap.size = w.heap.size + 1 := by simp
theorem Blk.new2 (W : World) (o : Obj) (T : TypeId) (cs : Array Value) : Blk ((W.alloc o).alloc (.cells cs T)) T (W.heap.size + 1) cs := by rw [← wsize W o]; exact Blk.new _ _ _
theorem wbox2 (w : World) (o1 o2 : Obj) : Below w.heap.size w ((w.alloc o1).alloc o2) := below_next (wbox w o1) (wbox _ o2)
theorem wbox3 (w : World) (o1 o2 o3 : Obj) : Below w.heap.size w (((w.alloc o1).alloc o2).alloc o3) := below_next (wbox2 w o1 o2) (wbox _ o3)

theorem emul_any (a b : Int) (w : World) (a0 : 0 ≤ a) (a1 : a ≤ 4611686018427387904) (b0 : 0 ≤ b) (b1 : b ≤ 4611686018427387904) (h : a * b ≤ 4611686018427387904) :
    Calls Try.prog 38 #[.int .i64 a, .int .i64 b] w fun e w' => e = .returned (.tuple #[.int .i64 (a * b), .int .i64 0]) ∧ w = w' := by
  by_cases h0 : a = 0
  · subst h0
    go_enter Try.func38, Try.ntmps38
    go_wp2
    go_ret2
    exact ⟨by rw [Int.zero_mul]; rfl, rfl⟩
  · have n0 : 0 ≤ a * b := Int.mul_nonneg a0 b0
    have hw : IntKind.i64.wrap (a * b) = a * b := IntWalk.i64_in _ (by omega)
    have hq : (a * b).tdiv a = b := Int.mul_tdiv_cancel_left b h0
    go_enter Try.func38, Try.ntmps38
    go_wp2
    go_ret2
    exact ⟨rfl, rfl⟩
theorem ediv_one (b : Int) (w : World) (b0 : 0 < b) : Calls Try.prog 42 #[.int .i64 b] w fun e w' => e = .returned (.int .i64 0) ∧ w = w' := by
  go_enter Try.func42, Try.ntmps42
  go_wp2
  go_ret
  exact ⟨rfl, rfl⟩
theorem efloor_any (a b : Int) (w : World) (a0 : 0 ≤ a) (a1 : a ≤ 4611686018427387904) (b0 : 0 < b) :
    Calls Try.prog 29 #[.int .i64 a, .int .i64 b] w fun e w' => e = .returned (.tuple #[.int .i64 (a / b), .int .i64 0]) ∧ w = w' := by
  have hm : a.tmod b = a % b := Int.tmod_eq_emod_of_nonneg a0
  have m0 := Int.emod_nonneg a (show b ≠ 0 by omega)
  have hd : a.tdiv b = a / b := Int.tdiv_eq_ediv_of_nonneg a0
  have d0 : 0 ≤ a / b := Int.ediv_nonneg a0 (by omega)
  have d1 : a / b ≤ a := Int.ediv_le_self _ a0
  have bt : decide (a % b < 0) = false := by simp; omega
  have nb : ¬ b = 0 := by omega
  go_enter Try.func29, Try.ntmps29
  go_wp2_with fail
  refine (ediv_one b _ b0).mono ?_
  rintro e w' ⟨rfl, rfl⟩
  go_wp2
  go_ret2
  exact ⟨rfl, rfl⟩
theorem eceil_any (a b : Int) (w : World) (a0 : 0 ≤ a) (a1 : a ≤ 4611686018427387904) (b0 : 0 < b) :
    Calls Try.prog 30 #[.int .i64 a, .int .i64 b] w fun e w' => e = .returned (.tuple #[.int .i64 (cdv a b), .int .i64 0]) ∧ w = w' := by
  have hm : a.tmod b = a % b := Int.tmod_eq_emod_of_nonneg a0
  have m0 := Int.emod_nonneg a (show b ≠ 0 by omega)
  have hd : a.tdiv b = a / b := Int.tdiv_eq_ediv_of_nonneg a0
  have d0 : 0 ≤ a / b := Int.ediv_nonneg a0 (by omega)
  have d1 : a / b ≤ a := Int.ediv_le_self _ a0
  have nb : ¬ b = 0 := by omega
  have HC := Lib.hid (cdv_part (a := a) b0)
  by_cases g : a % b = 0
  · have HE := Lib.hid (show cdv a b = a / b by rw [HC.out, if_pos g]; omega)
    clear HC
    have bt : decide (0 < a % b) = false := by simp; omega
    clear g m0
    go_enter Try.func30, Try.ntmps30
    go_wp2_with fail
    refine (ediv_one b _ b0).mono ?_
    rintro e w' ⟨rfl, rfl⟩
    go_wp2
    go_ret2
    exact ⟨by rw [HE.out]; rfl, rfl⟩
  · have HE := Lib.hid (show cdv a b = a / b + 1 by rw [HC.out, if_neg g])
    clear HC
    have bt : decide (0 < a % b) = true := by simp; omega
    clear g m0
    go_enter Try.func30, Try.ntmps30
    go_wp2_with fail
    refine (ediv_one b _ b0).mono ?_
    rintro e w' ⟨rfl, rfl⟩
    go_wp2
    go_ret2
    exact ⟨by rw [HE.out]; rfl, rfl⟩

end Go.Proofs.Ytnmiiebfpeoafaa
