/-
  Ratios by value: words; what the document's Plus and Cmp of ratios give back: contracts.
  What the document's Plus of ratios gives back: contract.
  What the document's Of, Check and gcd, and the laws' same, give back of ratios: contracts.
  What the document's Check, gcd, Little and Least, and the laws' same, give back of ratios: contracts.
  What the document's Little and Least give back of ratios: contracts.
  Rows of pairs of numbers; what the laws' weights gives back: contract.
  What the document's Sum of weights gives back: contract.
-/
import Derived.Test.YtbonilmlfelmpaaNatP
import Derived.Deep.RegionHeld3
import Derived.Deep.AppendLies
namespace Go.Proofs.Ytbonilmlfelmpaa
open Go.RowKit

/-- a ratio by value: n by d, of at most L limbs each; its rows lie from block 'base' on -/
def Rat (W : World) (base L : Nat) (v : Value) (n d : Int) : Prop :=
  ∃ an ln cn zn ad ld cd zd, v = .agg #[.slice an ln cn, .slice ad ld cd] ∧ Row .u32 W an ln cn zn ∧ Is 4294967296 zn n ∧ Row .u32 W ad ld cd zd ∧ Is 4294967296 zd d ∧ ln ≤ L ∧ ld ≤ L ∧ Fresh base an ∧ Fresh base ad
theorem Rat.below {W W' : World} {base L : Nat} {v : Value} {n d : Int} (h : Rat W base L v n d) (hb : Below W.heap.size W W') : Rat W' base L v n d := by
  obtain ⟨an, ln, cn, zn, ad, ld, cd, zd, rfl, h1, h2, h3, h4, h5⟩ := h
  exact ⟨an, ln, cn, zn, ad, ld, cd, zd, rfl, h1.below hb, h2, h3.below hb, h4, h5⟩
theorem Rat.mono {W : World} {base base' L L' : Nat} {v : Value} {n d : Int} (h : Rat W base L v n d) (hb : base' ≤ base) (hL : L ≤ L') : Rat W base' L' v n d := by
  obtain ⟨an, ln, cn, zn, ad, ld, cd, zd, rfl, h1, h2, h3, h4, h5, h6, h7, h8⟩ := h
  exact ⟨an, ln, cn, zn, ad, ld, cd, zd, rfl, h1, h2, h3, h4, by omega, by omega, h7.mono hb, h8.mono hb⟩
/-- a call that answers such a ratio, and writes nothing that was there -/
def GivesR (w : World) (L : Nat) (n d : Int) (e : Ending) (w' : World) : Prop :=
  ∃ v, e = .returned v ∧ Rat w' w.heap.size L v n d ∧ Below w.heap.size w w'

theorem lim_pow {zs : List Int} {n : Int} {p : Nat} (h : Is 4294967296 zs n) (hl : zs.length ≤ p) : 0 ≤ n ∧ n < 4294967296 ^ p := by
  have h1 := val_lt (by omega) h.1
  rw [h.2.2] at h1
  have h2 := ipow_le (B := 4294967296) (by omega) hl
  exact ⟨h.nonneg (by omega), by omega⟩
theorem lim_add {zs : List Int} {m n : Int} {p : Nat} (h : Is 4294967296 zs (m + n)) (hm : m < 4294967296 ^ p) (hn : n < 4294967296 ^ p) : zs.length ≤ p + 1 := by
  refine h.len_le (by omega) ?_
  rw [Int.pow_succ]
  have := ipow_pos (B := 4294967296) (by omega) p
  omega
theorem lim_mul {m n : Int} {p q : Nat} (hm : 0 ≤ m ∧ m < 4294967296 ^ p) (hn : 0 ≤ n ∧ n < 4294967296 ^ q) : m * n < 4294967296 ^ (p + q) := by
  rw [Int.pow_add]
  have h1 : m * n ≤ m * 4294967296 ^ q := Int.mul_le_mul_of_nonneg_left (by omega) hm.1
  have h2 : m * 4294967296 ^ q < 4294967296 ^ p * 4294967296 ^ q := Int.mul_lt_mul_of_pos_right hm.2 (ipow_pos (by omega) q)
  omega
theorem Try.infoRat : (Try.prog.info? 33).map (fun i => (i.zero, i.size, i.bytes)) = some (some (.agg #[.slice none 0 0, .slice none 0 0]), 2, 48) := by kernel_rfl

theorem four_kept {w w' : World} {b : Nat} {v1 v2 v3 v4 : Value} (hb : Below w.heap.size w w')
    (h : w.cell? ⟨b, 0, none⟩ = some v1 ∧ w.cell? ⟨b, 1, none⟩ = some v2 ∧ w.cell? ⟨b + 1, 0, none⟩ = some v3 ∧ w.cell? ⟨b + 1, 1, none⟩ = some v4) (hz : b + 2 ≤ w.heap.size) :
    w'.cell? ⟨b, 0, none⟩ = some v1 ∧ w'.cell? ⟨b, 1, none⟩ = some v2 ∧ w'.cell? ⟨b + 1, 0, none⟩ = some v3 ∧ w'.cell? ⟨b + 1, 1, none⟩ = some v4 :=
  ⟨(hb.cell (p := ⟨b, 0, none⟩) (show b < _ by omega)).trans h.1, (hb.cell (p := ⟨b, 1, none⟩) (show b < _ by omega)).trans h.2.1, (hb.cell (p := ⟨b + 1, 0, none⟩) (show b + 1 < _ by omega)).trans h.2.2.1, (hb.cell (p := ⟨b + 1, 1, none⟩) (show b + 1 < _ by omega)).trans h.2.2.2⟩

theorem rcmp_any (v u : Value) (n1 d1 n2 d2 : Int) (b1 b2 L1 L2 : Nat) (w : World) (h1 : Rat w b1 L1 v n1 d1) (h2 : Rat w b2 L2 u n2 d2) (hL : L1 + L2 ≤ 50) :
    Calls Try.prog 10 #[v, u] w fun e w' => e = .returned (.int .i64 (cmpI (n1 * d2) (n2 * d1))) ∧ Below w.heap.size w w' := by
  obtain ⟨a1, l1, c1, z1, a2, l2, c2, z2, rfl, r1, i1, r2, i2, hl1, hl2, _, _⟩ := h1
  obtain ⟨a3, l3, c3, z3, a4, l4, c4, z4, rfl, r3, i3, r4, i4, hl3, hl4, _, _⟩ := h2
  have R1 := Lib.hid r1; have R2 := Lib.hid r2; have R3 := Lib.hid r3; have R4 := Lib.hid r4
  have I1 := Lib.hid i1; have I2 := Lib.hid i2; have I3 := Lib.hid i3; have I4 := Lib.hid i4
  clear r1 r2 r3 r4 i1 i2 i3 i4
  go_enter Try.func10, Try.ntmps10
  go_wp2
  obtain ⟨W0, hW0⟩ : ∃ W0, (w.alloc (Obj.cells #[Value.slice a1 l1 c1, Value.slice a2 l2 c2] 33)).alloc (Obj.cells #[Value.slice a3 l3 c3, Value.slice a4 l4 c4] 33) = W0 := ⟨_, rfl⟩
  have k1 : W0.drew.cell? ⟨w.heap.size, 0, none⟩ = some (.slice a1 l1 c1) := by rw [← hW0]; simp
  have k2 : W0.drew.cell? ⟨w.heap.size, 1, none⟩ = some (.slice a2 l2 c2) := by rw [← hW0]; simp
  have k3 : W0.drew.cell? ⟨w.heap.size + 1, 0, none⟩ = some (.slice a3 l3 c3) := by rw [← hW0]; simp
  have k4 : W0.drew.cell? ⟨w.heap.size + 1, 1, none⟩ = some (.slice a4 l4 c4) := by rw [← hW0]; simp
  have B0 := Lib.hid (show Below w.heap.size w W0.drew by rw [← hW0]; exact (((Below.refl _ _).alloc (Nat.le_refl _) _).alloc (by simp) _).drew)
  have Z0 : w.heap.size + 2 ≤ W0.drew.heap.size := by rw [← hW0]; simp
  have K1 := Lib.hid k1; have K2 := Lib.hid k2; have K3 := Lib.hid k3; have K4 := Lib.hid k4
  rw [hW0]
  clear hW0
  have p1 := lim_pow I1.out (p := L1) (by rw [R1.out.len]; exact hl1)
  have p2 := lim_pow I2.out (p := L1) (by rw [R2.out.len]; exact hl2)
  have p3 := lim_pow I3.out (p := L2) (by rw [R3.out.len]; exact hl3)
  have p4 := lim_pow I4.out (p := L2) (by rw [R4.out.len]; exact hl4)
  have P1 := Lib.hid (lim_mul p1 p4); have P2 := Lib.hid (lim_mul p3 p2)
  clear p1 p2 p3 p4
  have o1 : l1 ≤ 50 := by omega
  have o2 : l2 ≤ 50 := by omega
  have o3 : l3 ≤ 50 := by omega
  have o4 : l4 ≤ 50 := by omega
  go_region_held3 (fun w' => w'.cell? ⟨w.heap.size, 0, none⟩ = some (.slice a1 l1 c1) ∧ w'.cell? ⟨w.heap.size, 1, none⟩ = some (.slice a2 l2 c2) ∧ w'.cell? ⟨w.heap.size + 1, 0, none⟩ = some (.slice a3 l3 c3) ∧ w'.cell? ⟨w.heap.size + 1, 1, none⟩ = some (.slice a4 l4 c4))
    (first | exact ⟨K1.out, K2.out, K3.out, K4.out⟩ | exact four_kept HB3.out (four_kept HB2.out (four_kept HB1.out ⟨K1.out, K2.out, K3.out, K4.out⟩ Z0) Z1) Z2 | exact four_kept HB2.out (four_kept HB1.out ⟨K1.out, K2.out, K3.out, K4.out⟩ Z0) Z1 | exact four_kept HB1.out ⟨K1.out, K2.out, K3.out, K4.out⟩ Z0)
    (first
      | (go_at_call 33; ((with_reducible refine (Mul_any a1 l1 c1 z1 n1 a4 l4 c4 z4 d2 W0.drew (R1.out.below B0.out) I1.out (R4.out.below B0.out) I4.out o1 o4).mono ?_)); rintro e w1 ⟨x1, m1, q1, y1, rfl, hr, hi, hb, _⟩; have HR1 := Lib.hid hr; have HI1 := Lib.hid hi; have HB1 := Lib.hid hb; have Z1 := Nat.le_trans Z0 hb.size; clear hr hi hb)
      | (go_at_call 33; ((with_reducible refine (Mul_any a3 l3 c3 z3 n2 a2 l2 c2 z2 d1 w1 ((R3.out.below B0.out).below HB1.out) I3.out ((R2.out.below B0.out).below HB1.out) I2.out o3 o2).mono ?_)); rintro e w2 ⟨x2, m2, q2, y2, rfl, hr, hi, hb, _⟩; have HR2 := Lib.hid hr; have HI2 := Lib.hid hi; have HB2 := Lib.hid hb; have Z2 := Nat.le_trans Z1 hb.size; clear hr hi hb)
      | (go_at_call 32; refine (Cmp_any x1 m1 q1 y1 (n1 * d2) x2 m2 q2 y2 (n2 * d1) w2 (HR1.out.below HB2.out) HI1.out HR2.out HI2.out (by rw [← HR1.out.len]; exact Nat.le_trans (HI1.out.len_le (by omega) P1.out) hL) (by rw [← HR2.out.len]; exact Nat.le_trans (HI2.out.len_le (by omega) P2.out) (by omega))).mono ?_; rintro e w3 ⟨rfl, hb⟩; have HB3 := Lib.hid hb; clear hb))
  all_goals
    go_wp2
    go_ret
    exact ⟨rfl, below_next (below_next (below_next B0.out HB1.out) HB2.out) HB3.out⟩
end Go.Proofs.Ytbonilmlfelmpaa
namespace Go.Proofs.Ytbonilmlfelmpaa
open Go.RowKit

theorem cell_old (w : World) (o : Obj) {p : Addr} (h : p.block < w.heap.size) : (w.alloc o).cell? p = w.cell? p := ((Below.refl w.heap.size w).alloc (Nat.le_refl _) o).cell (p := p) h
theorem free_new (w : World) (x : Array Value) (t : TypeId) (j : Nat) : (w.alloc (.cells x t)).frozen? ⟨w.heap.size, j, none⟩ = false := by simp
theorem size_alloc (w : World) (o : Obj) : (w.alloc o).heap.size = w.heap.size + 1 := by simp
theorem three_boxes (w : World) (x y z : Array Value) (t1 t2 t3 : TypeId) :
    (∀ j, (((w.alloc (.cells x t1)).alloc (.cells y t2)).alloc (.cells z t3)).cell? ⟨w.heap.size, j, none⟩ = x[j]?) ∧
    (∀ j, (((w.alloc (.cells x t1)).alloc (.cells y t2)).alloc (.cells z t3)).cell? ⟨w.heap.size + 1, j, none⟩ = y[j]?) ∧
    (∀ j, (((w.alloc (.cells x t1)).alloc (.cells y t2)).alloc (.cells z t3)).cell? ⟨w.heap.size + 2, j, none⟩ = z[j]?) ∧
    (∀ j, (((w.alloc (.cells x t1)).alloc (.cells y t2)).alloc (.cells z t3)).frozen? ⟨w.heap.size + 2, j, none⟩ = false) ∧
    Below w.heap.size w (((w.alloc (.cells x t1)).alloc (.cells y t2)).alloc (.cells z t3)) ∧
    (((w.alloc (.cells x t1)).alloc (.cells y t2)).alloc (.cells z t3)).heap.size = w.heap.size + 3 := by
  have s1 := size_alloc w (.cells x t1)
  have s2 := size_alloc (w.alloc (.cells x t1)) (.cells y t2)
  have s3 := size_alloc ((w.alloc (.cells x t1)).alloc (.cells y t2)) (.cells z t3)
  refine ⟨fun j => ?_, fun j => ?_, fun j => ?_, fun j => ?_, ?_, by omega⟩
  · rw [cell_old _ _ (show w.heap.size < _ by omega), cell_old _ _ (show w.heap.size < _ by omega)]
    exact World.cell?_alloc_at _ _ _ _ rfl
  · rw [cell_old _ _ (show w.heap.size + 1 < _ by omega), ← s1]
    exact World.cell?_alloc_at _ _ _ _ rfl
  · rw [show w.heap.size + 2 = ((w.alloc (.cells x t1)).alloc (.cells y t2)).heap.size by omega]
    exact World.cell?_alloc_at _ _ _ _ rfl
  · rw [show w.heap.size + 2 = ((w.alloc (.cells x t1)).alloc (.cells y t2)).heap.size by omega]
    exact free_new _ _ _ _
  · exact (((Below.refl _ _).alloc (Nat.le_refl _) _).alloc (by omega) _).alloc (by omega) _

end Go.Proofs.Ytbonilmlfelmpaa
namespace Go.Proofs.Ytbonilmlfelmpaa
open Go.RowKit

theorem two_boxes (w : World) (x y : Array Value) (t1 t2 : TypeId) :
    (∀ j, ((w.alloc (.cells x t1)).alloc (.cells y t2)).cell? ⟨w.heap.size, j, none⟩ = x[j]?) ∧
    (∀ j, ((w.alloc (.cells x t1)).alloc (.cells y t2)).cell? ⟨w.heap.size + 1, j, none⟩ = y[j]?) ∧
    (∀ j, ((w.alloc (.cells x t1)).alloc (.cells y t2)).frozen? ⟨w.heap.size + 1, j, none⟩ = false) ∧
    Below w.heap.size w ((w.alloc (.cells x t1)).alloc (.cells y t2)) ∧
    ((w.alloc (.cells x t1)).alloc (.cells y t2)).heap.size = w.heap.size + 2 := by
  have s1 := size_alloc w (.cells x t1)
  have s2 := size_alloc (w.alloc (.cells x t1)) (.cells y t2)
  refine ⟨fun j => ?_, fun j => ?_, fun j => ?_, ?_, by omega⟩
  · rw [cell_old _ _ (show w.heap.size < _ by omega)]
    exact World.cell?_alloc_at _ _ _ _ rfl
  · rw [← s1]
    exact World.cell?_alloc_at _ _ _ _ rfl
  · rw [← s1]
    exact free_new _ _ _ _
  · exact ((Below.refl _ _).alloc (Nat.le_refl _) _).alloc (by omega) _

theorem one_limb {zs : List Int} {n : Int} (h : Is 4294967296 zs n) (hn : n < 4294967296) : zs.length ≤ 1 := h.len_le (by omega) (by simpa using hn)

theorem pair_kept {w w' : World} {b : Nat} {v1 v2 : Value} (hb : Below w.heap.size w w') (h : w.cell? ⟨b, 0, none⟩ = some v1 ∧ w.cell? ⟨b, 1, none⟩ = some v2) (hz : b < w.heap.size) :
    w'.cell? ⟨b, 0, none⟩ = some v1 ∧ w'.cell? ⟨b, 1, none⟩ = some v2 :=
  ⟨(hb.cell (p := ⟨b, 0, none⟩) hz).trans h.1, (hb.cell (p := ⟨b, 1, none⟩) hz).trans h.2⟩
theorem pair_kept2 {w : World} {b o1 o2 : Nat} {v1 v2 u1 u2 : Value} (h : w.cell? ⟨b, 0, none⟩ = some v1 ∧ w.cell? ⟨b, 1, none⟩ = some v2) :
    ((w.setCell ⟨b + 1, o1, none⟩ u1).setCell ⟨b + 1, o2, none⟩ u2).cell? ⟨b, 0, none⟩ = some v1 ∧ ((w.setCell ⟨b + 1, o1, none⟩ u1).setCell ⟨b + 1, o2, none⟩ u2).cell? ⟨b, 1, none⟩ = some v2 := by
  have e : ((w.setCell ⟨b + 1, o1, none⟩ u1).setCell ⟨b + 1, o2, none⟩ u2).heap[b]? = w.heap[b]? := by
    rw [Below.heap_setCell _ _ _ _ (by simp), Below.heap_setCell _ _ _ _ (by simp)]
  exact ⟨(World.cell?_of_block (w := w) e).trans h.1, (World.cell?_of_block (w := w) e).trans h.2⟩

end Go.Proofs.Ytbonilmlfelmpaa
namespace Go.Proofs.Ytbonilmlfelmpaa
open Go.RowKit

theorem below_box (w : World) (o : Obj) : Below w.heap.size w (w.alloc o) := (Below.refl _ _).alloc (Nat.le_refl _) _

end Go.Proofs.Ytbonilmlfelmpaa
namespace Go.Proofs.Ytbonilmlfelmpaa
open Go.RowKit

theorem is_one_limb {zs : List Int} {n : Int} (h : Is 4294967296 zs n) (hl : zs.length = 1) : zs.getD 0 0 = n := by
  match zs, hl with
  | [x], _ => have := h.2.2; simpa [val] using this
theorem is_no_limb {zs : List Int} {n : Int} (h : Is 4294967296 zs n) (hl : zs.length = 0) : n = 0 := by
  match zs, hl with
  | [], _ => have := h.2.2; simpa [val] using this.symm

theorem below_three (w : World) (o1 o2 o3 : Obj) : Below w.heap.size w (((w.alloc o1).alloc o2).alloc o3) := (((Below.refl _ _).alloc (Nat.le_refl _) _).alloc (by simp) _).alloc (by simp; omega) _

theorem below_two (w : World) (o1 o2 : Obj) : Below w.heap.size w ((w.alloc o1).alloc o2) := ((Below.refl _ _).alloc (Nat.le_refl _) _).alloc (by simp) _
end Go.Proofs.Ytbonilmlfelmpaa
namespace Go.Proofs.Ytbonilmlfelmpaa
open Go.RowKit

/-- the slice that leads to 'a', of 'len' elements of two numbers each, reads as ps -/
def RowP (W : World) (a : Option Addr) (len cap : Nat) (ps : List (Int × Int)) : Prop :=
  ps.length = len ∧ len ≤ cap ∧ cap ≤ 9223372036854775807 ∧ (a = none → cap = 0) ∧
    ∀ i, i < len → ∃ b off, a = some ⟨b, off, none⟩ ∧ W.cell? ⟨b, off + i * 2, none⟩ = some (.int .i64 (ps.getD i (0, 0)).1) ∧ W.cell? ⟨b, off + i * 2 + 1, none⟩ = some (.int .i64 (ps.getD i (0, 0)).2)
theorem RowP.len {W : World} {a : Option Addr} {len cap : Nat} {ps : List (Int × Int)} (h : RowP W a len cap ps) : ps.length = len := h.1
theorem RowP.cap_le {W : World} {a : Option Addr} {len cap : Nat} {ps : List (Int × Int)} (h : RowP W a len cap ps) : len ≤ cap ∧ cap ≤ 9223372036854775807 := ⟨h.2.1, h.2.2.1⟩
theorem RowP.cell {W : World} {a : Option Addr} {len cap : Nat} {ps : List (Int × Int)} (h : RowP W a len cap ps) {i : Nat} (hi : i < len) :
    ∃ b off, a = some ⟨b, off, none⟩ ∧ W.cell? ⟨b, off + i * 2, none⟩ = some (.int .i64 (ps.getD i (0, 0)).1) ∧ W.cell? ⟨b, off + i * 2 + 1, none⟩ = some (.int .i64 (ps.getD i (0, 0)).2) := h.2.2.2.2 i hi
theorem RowP.below {W W' : World} {a : Option Addr} {len cap : Nat} {ps : List (Int × Int)} (h : RowP W a len cap ps) (hb : Below W.heap.size W W') : RowP W' a len cap ps := by
  refine ⟨h.1, h.2.1, h.2.2.1, h.2.2.2.1, fun i hi => ?_⟩
  obtain ⟨b, off, ha, hc1, hc2⟩ := h.2.2.2.2 i hi
  exact ⟨b, off, ha, (hb.cell (World.block_lt_of_cell? _ _ hc1)).trans hc1, (hb.cell (World.block_lt_of_cell? _ _ hc2)).trans hc2⟩
/-- a weight's two cells -/
def cellsW : List (Int × Int) → List Value
  | [] => []
  | p :: r => .int .i64 p.1 :: .int .i64 p.2 :: cellsW r
theorem cellsW_append (x y : List (Int × Int)) : cellsW (x ++ y) = cellsW x ++ cellsW y := by
  induction x with
  | nil => rfl
  | cons p r ih => rw [List.cons_append, cellsW, cellsW, ih]; rfl
theorem cellsW_get (ps : List (Int × Int)) (i : Nat) (h : i < ps.length) : (cellsW ps)[i * 2]? = some (.int .i64 (ps.getD i (0, 0)).1) ∧ (cellsW ps)[i * 2 + 1]? = some (.int .i64 (ps.getD i (0, 0)).2) := by
  induction ps generalizing i with
  | nil => simp at h
  | cons p r ih =>
    cases i with
    | zero => simp [cellsW]
    | succ i =>
      have := ih i (by simpa using h)
      rw [show (i + 1) * 2 = i * 2 + 1 + 1 by omega, cellsW]
      simpa using this
theorem rowP_of_owns {W : World} {base : Nat} {e : TypeId} {v : Value} {ps : List (Int × Int)} (h : W.ownsRow base e 2 v ps.length (cellsW ps)) :
    ∃ a cap, v = .slice a ps.length cap ∧ RowP W a ps.length cap ps ∧ Fresh base a := by
  rcases h.2 with ⟨hv, hn⟩ | ⟨g, cap, cur, hv, hbg, _, hcap, hmx, _, _⟩
  · refine ⟨none, 0, by rw [hv, hn], ⟨rfl, by omega, by omega, (fun _ => rfl), (fun i hi => by omega)⟩, Fresh.none⟩
  · subst hv
    refine ⟨_, cap, rfl, ⟨rfl, hcap, by unfold maxLen at hmx; omega, (fun h => by cases h), fun i hi => ⟨g, 0, rfl, ?_, ?_⟩⟩, fun ad e => by cases e; exact hbg⟩
    · rw [Nat.zero_add, h.cellAt (i * 2) (by omega)]; exact (cellsW_get ps i hi).1
    · rw [Nat.zero_add, h.cellAt (i * 2 + 1) (by omega)]; exact (cellsW_get ps i hi).2
theorem Try.infoW : (Try.prog.info? 26).map (fun i => (i.zero, i.size, i.bytes)) = some (some (.agg #[.int .i64 0, .int .i64 0]), 2, 16) := by kernel_rfl

/-- a weight by two numbers -/
def mkW (p : Int × Int) : Int × Int := (bits .and .i64 p.1 1048575, 1 + bits .and .i64 p.2 1048575)
def GivesP (w : World) (ps : List (Int × Int)) (e : Ending) (w' : World) : Prop :=
  ∃ a len cap, e = .returned (.slice a len cap) ∧ RowP w' a len cap ps ∧ Below w.heap.size w w' ∧ Fresh w.heap.size a

theorem and_bd (x : Int) : 0 ≤ bits .and .i64 x 1048575 ∧ bits .and .i64 x 1048575 ≤ 1048575 := by
  have h : (BitVec.ofInt 64 x &&& BitVec.ofInt 64 1048575).toNat ≤ 1048575 := by
    rw [BitVec.toNat_and]
    exact Nat.and_le_right
  have e : bits .and .i64 x 1048575 = ((BitVec.ofInt 64 x &&& BitVec.ofInt 64 1048575).toNat : Int) := by
    show IntKind.i64.wrap ((BitVec.ofInt 64 x &&& BitVec.ofInt 64 1048575).toNat : Int) = _
    exact IntWalk.i64_in _ (by omega)
  omega
theorem takeP {ps : List (Int × Int)} {t : Nat} (h : t < ps.length) : ps.take (t + 1) = ps.take t ++ [ps.getD t (0, 0)] := by
  rw [List.take_succ_eq_append_getElem h, List.getD_eq_getElem?_getD, List.getElem?_eq_getElem h]; rfl

end Go.Proofs.Ytbonilmlfelmpaa
namespace Go.Proofs.Ytbonilmlfelmpaa
open Go.RowKit

/-- the document's sum of weights, as it comes -/
def sumR (ws : List (Int × Int)) : Int × Int := ws.foldl (fun r p => (r.1 * p.2 + p.1 * r.2, r.2 * p.2)) (0, 1)
theorem sumR_snoc (ws : List (Int × Int)) (p : Int × Int) : sumR (ws ++ [p]) = ((sumR ws).1 * p.2 + p.1 * (sumR ws).2, (sumR ws).2 * p.2) := by
  unfold sumR; rw [List.foldl_append]; rfl
def OkW (p : Int × Int) : Prop := 0 ≤ p.1 ∧ p.1 < 4294967296 ∧ 0 ≤ p.2 ∧ p.2 < 4294967296
theorem two_set {w : World} {b : Nat} {u0 u1 x y : Value} {t : TypeId} (h : w.heap[b]? = some (.cells #[u0, u1] t (0, 0))) : ((w.setCell ⟨b, 0, none⟩ x).setCell ⟨b, 1, none⟩ y).heap[b]? = some (.cells #[x, y] t (0, 0)) := by
  have h1 := heap_setCell_same w b 0 #[u0, u1] t x h
  have h2 := heap_setCell_same (w.setCell ⟨b, 0, none⟩ x) b 1 _ t y h1
  exact h2
theorem block_cell {w : World} {b j : Nat} {cs : Array Value} {t : TypeId} (h : w.heap[b]? = some (.cells cs t (0, 0))) : w.cell? ⟨b, j, none⟩ = cs[j]? := cell_of_row w b j cs t (0, 0) h
theorem block_free {w : World} {b j : Nat} {cs : Array Value} {t : TypeId} (h : w.heap[b]? = some (.cells cs t (0, 0))) : w.frozen? ⟨b, j, none⟩ = false := frozen_of_row w b j cs t h

end Go.Proofs.Ytbonilmlfelmpaa
