/-
  What package exact's Mul, Floor and Ceil give back of numbers that are not below 0, and package window's parts and its closure: contracts.
-/
import Derived.Test.YtgfhlllddfdapaaWin2
import Derived.Laws.Rows
import Derived.OneCell
namespace Go.Proofs.Ytgfhlllddfdapaa
open Go.RowKit

/-! ### blocks -/
/-- block g holds the cells cs, each free -/
def Blk (W : World) (T : TypeId) (g : Nat) (cs : Array Value) : Prop := W.heap[g]? = some (.cells cs T (0, 0))
theorem Blk.lt {W : World} {T : TypeId} {g : Nat} {cs : Array Value} (h : Blk W T g cs) : g < W.heap.size := lt_of_block h
theorem Blk.below {W W' : World} {T : TypeId} {g : Nat} {cs : Array Value} (h : Blk W T g cs) (hb : Below W.heap.size W W') : Blk W' T g cs := (hb.block g (lt_of_block h)).trans h
theorem Blk.cell {W : World} {T : TypeId} {g : Nat} {cs : Array Value} (h : Blk W T g cs) (j : Nat) : W.cell? ⟨g, j, none⟩ = cs[j]? := cell_of_row W g j cs T (0, 0) h
theorem Blk.free {W : World} {T : TypeId} {g : Nat} {cs : Array Value} (h : Blk W T g cs) (j : Nat) : W.frozen? ⟨g, j, none⟩ = false := frozen_of_row W g j cs T h
theorem Blk.drew {W : World} {T : TypeId} {g : Nat} {cs : Array Value} (h : Blk W T g cs) : Blk W.drew T g cs := h
theorem Blk.new (W : World) (T : TypeId) (cs : Array Value) : Blk (W.alloc (.cells cs T)) T W.heap.size cs := heap_alloc_new _ _
theorem wbox (w : World) (o : Obj) : Below w.heap.size w (w.alloc o) := (Below.refl _ _).alloc (Nat.le_refl _) _
theorem Blk.alloc {W : World} {T : TypeId} {g : Nat} {cs : Array Value} (h : Blk W T g cs) (o : Obj) : Blk (W.alloc o) T g cs := h.below (wbox W o)
theorem wsize (w : World) (o : Obj) : (w.alloc o).heap.size = w.heap.size + 1 := by simp
theorem Blk.new2 (W : World) (o : Obj) (T : TypeId) (cs : Array Value) : Blk ((W.alloc o).alloc (.cells cs T)) T (W.heap.size + 1) cs := by rw [← wsize W o]; exact Blk.new _ _ _
theorem wbox2 (w : World) (o1 o2 : Obj) : Below w.heap.size w ((w.alloc o1).alloc o2) := below_next (wbox w o1) (wbox _ o2)
theorem wbox3 (w : World) (o1 o2 o3 : Obj) : Below w.heap.size w (((w.alloc o1).alloc o2).alloc o3) := below_next (wbox2 w o1 o2) (wbox _ o3)

theorem emul_any (a b : Int) (w : World) (a0 : 0 ≤ a) (a1 : a ≤ 4611686018427387904) (b0 : 0 ≤ b) (b1 : b ≤ 4611686018427387904) (h : a * b ≤ 4611686018427387904) :
    Calls Try.prog 30 #[.int .i64 a, .int .i64 b] w fun e w' => e = .returned (.tuple #[.int .i64 (a * b), .int .i64 0]) ∧ w = w' := by
  by_cases h0 : a = 0
  · subst h0
    go_enter Try.func30, Try.ntmps30
    go_wp2
    go_ret2
    exact ⟨by rw [Int.zero_mul]; rfl, rfl⟩
  · have n0 : 0 ≤ a * b := Int.mul_nonneg a0 b0
    have hw : IntKind.i64.wrap (a * b) = a * b := IntWalk.i64_in _ (by omega)
    have hq : (a * b).tdiv a = b := Int.mul_tdiv_cancel_left b h0
    go_enter Try.func30, Try.ntmps30
    go_wp2
    go_ret2
    exact ⟨rfl, rfl⟩
theorem ediv_one (b : Int) (w : World) (b0 : 0 < b) : Calls Try.prog 31 #[.int .i64 b] w fun e w' => e = .returned (.int .i64 0) ∧ w = w' := by
  go_enter Try.func31, Try.ntmps31
  go_wp2
  go_ret
  exact ⟨rfl, rfl⟩
theorem efloor_any (a b : Int) (w : World) (a0 : 0 ≤ a) (a1 : a ≤ 4611686018427387904) (b0 : 0 < b) :
    Calls Try.prog 27 #[.int .i64 a, .int .i64 b] w fun e w' => e = .returned (.tuple #[.int .i64 (a / b), .int .i64 0]) ∧ w = w' := by
  have hm : a.tmod b = a % b := Int.tmod_eq_emod_of_nonneg a0
  have m0 := Int.emod_nonneg a (show b ≠ 0 by omega)
  have hd : a.tdiv b = a / b := Int.tdiv_eq_ediv_of_nonneg a0
  have d0 : 0 ≤ a / b := Int.ediv_nonneg a0 (by omega)
  have d1 : a / b ≤ a := Int.ediv_le_self _ a0
  have bt : decide (a % b < 0) = false := by simp; omega
  have nb : ¬ b = 0 := by omega
  go_enter Try.func27, Try.ntmps27
  go_wp2_with fail
  refine (ediv_one b _ b0).mono ?_
  rintro e w' ⟨rfl, rfl⟩
  go_wp2
  go_ret2
  exact ⟨rfl, rfl⟩
theorem eceil_any (a b : Int) (w : World) (a0 : 0 ≤ a) (a1 : a ≤ 4611686018427387904) (b0 : 0 < b) :
    Calls Try.prog 28 #[.int .i64 a, .int .i64 b] w fun e w' => e = .returned (.tuple #[.int .i64 (cdv a b), .int .i64 0]) ∧ w = w' := by
  have hm : a.tmod b = a % b := Int.tmod_eq_emod_of_nonneg a0
  have m0 := Int.emod_nonneg a (show b ≠ 0 by omega)
  have hd : a.tdiv b = a / b := Int.tdiv_eq_ediv_of_nonneg a0
  have d0 : 0 ≤ a / b := Int.ediv_nonneg a0 (by omega)
  have d1 : a / b ≤ a := Int.ediv_le_self _ a0
  have nb : ¬ b = 0 := by omega
  have HC := Lib.hid (cdv_part (a := a) b0)
  by_cases g : a % b = 0
  · have HE := Lib.hid (show cdv a b = a / b by rw [HC.out, if_pos g]; omega)
    clear HC
    have bt : decide (0 < a % b) = false := by simp; omega
    clear g m0
    go_enter Try.func28, Try.ntmps28
    go_wp2_with fail
    refine (ediv_one b _ b0).mono ?_
    rintro e w' ⟨rfl, rfl⟩
    go_wp2
    go_ret2
    exact ⟨by rw [HE.out]; rfl, rfl⟩
  · have HE := Lib.hid (show cdv a b = a / b + 1 by rw [HC.out, if_neg g])
    clear HC
    have bt : decide (0 < a % b) = true := by simp; omega
    clear g m0
    go_enter Try.func28, Try.ntmps28
    go_wp2_with fail
    refine (ediv_one b _ b0).mono ?_
    rintro e w' ⟨rfl, rfl⟩
    go_wp2
    go_ret2
    exact ⟨by rw [HE.out]; rfl, rfl⟩

/-- the function value that parts makes: k times a by b, rounded by function f -/
def Part (W : World) (f : Nat) (a b : Int) (v : Value) : Prop :=
  ∃ p q r : Nat, v = .func (.func 29) #[] #[.pointer (some ⟨p, 0, none⟩), .pointer (some ⟨q, 0, none⟩), .pointer (some ⟨r, 0, none⟩)] ∧
    W.cell? ⟨p, 0, none⟩ = some (.int .i64 a) ∧ W.cell? ⟨q, 0, none⟩ = some (.func (.func f) #[] #[]) ∧ W.cell? ⟨r, 0, none⟩ = some (.int .i64 b)
theorem Part.below {W W' : World} {f : Nat} {a b : Int} {v : Value} (h : Part W f a b v) (hb : Below W.heap.size W W') : Part W' f a b v := by
  obtain ⟨p, q, r, rfl, h1, h2, h3⟩ := h
  exact ⟨p, q, r, rfl, (hb.cell (p := ⟨p, 0, none⟩) (World.block_lt_of_cell? _ _ h1)).trans h1, (hb.cell (p := ⟨q, 0, none⟩) (World.block_lt_of_cell? _ _ h2)).trans h2, (hb.cell (p := ⟨r, 0, none⟩) (World.block_lt_of_cell? _ _ h3)).trans h3⟩
theorem down_any (k a b : Int) (p q r : Nat) (w : World) (h1 : w.cell? ⟨p, 0, none⟩ = some (.int .i64 a)) (h2 : w.cell? ⟨q, 0, none⟩ = some (.func (.func 27) #[] #[])) (h3 : w.cell? ⟨r, 0, none⟩ = some (.int .i64 b))
    (k0 : 0 ≤ k) (k1 : k ≤ 4611686018427387904) (a0 : 0 ≤ a) (a1 : a ≤ 4611686018427387904) (b0 : 0 < b) (h : k * a ≤ 4611686018427387904) (v : Int) (hv : k * a / b = v) :
    Calls Try.prog 29 #[.int .i64 k, .pointer (some ⟨p, 0, none⟩), .pointer (some ⟨q, 0, none⟩), .pointer (some ⟨r, 0, none⟩)] w fun e w' => e = .returned (.int .i64 v) ∧ w = w' := by
  subst hv
  have n0 := Lib.hid (Int.mul_nonneg k0 a0)
  have H := Lib.hid h
  clear h
  go_enter Try.func29, Try.ntmps29
  go_wp2_with fail
  refine (emul_any k a _ k0 k1 a0 a1 H.out).mono ?_
  rintro e w' ⟨rfl, rfl⟩
  go_wp2_with fail
  refine (efloor_any (k * a) b _ n0.out H.out b0).mono ?_
  rintro e w' ⟨rfl, rfl⟩
  go_wp2
  go_ret
  exact ⟨rfl, rfl⟩
theorem up_any (k a b : Int) (p q r : Nat) (w : World) (h1 : w.cell? ⟨p, 0, none⟩ = some (.int .i64 a)) (h2 : w.cell? ⟨q, 0, none⟩ = some (.func (.func 28) #[] #[])) (h3 : w.cell? ⟨r, 0, none⟩ = some (.int .i64 b))
    (k0 : 0 ≤ k) (k1 : k ≤ 4611686018427387904) (a0 : 0 ≤ a) (a1 : a ≤ 4611686018427387904) (b0 : 0 < b) (h : k * a ≤ 4611686018427387904) (v : Int) (hv : cdv (k * a) b = v) :
    Calls Try.prog 29 #[.int .i64 k, .pointer (some ⟨p, 0, none⟩), .pointer (some ⟨q, 0, none⟩), .pointer (some ⟨r, 0, none⟩)] w fun e w' => e = .returned (.int .i64 v) ∧ w = w' := by
  subst hv
  have n0 := Lib.hid (Int.mul_nonneg k0 a0)
  have H := Lib.hid h
  clear h
  go_enter Try.func29, Try.ntmps29
  go_wp2_with fail
  refine (emul_any k a _ k0 k1 a0 a1 H.out).mono ?_
  rintro e w' ⟨rfl, rfl⟩
  go_wp2_with fail
  refine (eceil_any (k * a) b _ n0.out H.out b0).mono ?_
  rintro e w' ⟨rfl, rfl⟩
  go_wp2
  go_ret
  exact ⟨rfl, rfl⟩
theorem parts_any (f : Nat) (a b : Int) (w : World) :
    Calls Try.prog 26 #[.func (.func f) #[] #[], .int .i64 a, .int .i64 b] w fun e w' => ∃ v, e = .returned v ∧ Part w' f a b v ∧ Below w.heap.size w w' := by
  have hmf : ∀ (fn : Fn) (first cap : Array Value) (w : World), (Instr.makeFunc fn first cap).run Try.prog w = .ok (.func fn first cap) w := fun _ _ _ _ => rfl
  go_enter Try.func26, Try.ntmps26
  go_wp2
  go_ret
  refine ⟨_, rfl, ⟨_, _, _, rfl, ((Blk.new2 w (Obj.cells #[Value.func (Fn.func f) #[] #[]] 45) 2 #[Value.int .i64 a]).alloc (Obj.cells #[Value.int .i64 b] 2)).cell 0, (((Blk.new w 45 #[Value.func (Fn.func f) #[] #[]]).alloc (Obj.cells #[Value.int .i64 a] 2)).alloc (Obj.cells #[Value.int .i64 b] 2)).cell 0, ?_⟩, wbox3 _ _ _ _⟩
  have h := Blk.new2 (w.alloc (Obj.cells #[Value.func (Fn.func f) #[] #[]] 45)) (Obj.cells #[Value.int .i64 a] 2) 2 #[Value.int .i64 b]
  rw [wsize] at h
  exact h.cell 0
end Go.Proofs.Ytgfhlllddfdapaa
