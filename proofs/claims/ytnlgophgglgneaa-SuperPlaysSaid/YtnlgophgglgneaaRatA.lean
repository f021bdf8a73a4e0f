/-
  Ratios by value: words; what the document's Plus and Cmp of ratios give back: contracts.
  What the document's Plus of ratios gives back: contract.
  What the document's Of, Check and gcd, and the laws' same, give back of ratios: contracts.
  What the document's Check, gcd, Little and Least, and the laws' same, give back of ratios: contracts.
  What the document's Little and Least give back of ratios: contracts.
  Rows of pairs of numbers; what the laws' weights gives back: contract.
  What the document's Sum of weights gives back: contract.
-/
import Derived.Test.YtnlgophgglgneaaNatP
import Derived.Deep.RegionHeld3
import Derived.Deep.AppendLies
namespace Go.Proofs.Ytnlgophgglgneaa
open Go.RowKit

/-- a ratio by value: n by d, of at most L limbs each; its rows lie from block 'base' on -/
def Rat (W : World) (base L : Nat) (v : Value) (n d : Int) : Prop :=
  ∃ an ln cn zn ad ld cd zd, v = .agg #[.slice an ln cn, .slice ad ld cd] ∧ Row .u32 W an ln cn zn ∧ Is 4294967296 zn n ∧ Row .u32 W ad ld cd zd ∧ Is 4294967296 zd d ∧ ln ≤ L ∧ ld ≤ L ∧ Fresh base an ∧ Fresh base ad
theorem Rat.below {W W' : World} {base L : Nat} {v : Value} {n d : Int} (h : Rat W base L v n d) (hb : Below W.heap.size W W') : Rat W' base L v n d := by
  obtain ⟨an, ln, cn, zn, ad, ld, cd, zd, rfl, h1, h2, h3, h4, h5⟩ := h
  exact ⟨an, ln, cn, zn, ad, ld, cd, zd, rfl, h1.below hb, h2, h3.below hb, h4, h5⟩
theorem Rat.mono {W : World} {base base' L L' : Nat} {v : Value} {n d : Int} (h : Rat W base L v n d) (hb : base' ≤ base) (hL : L ≤ L') : Rat W base' L' v n d := by
  obtain ⟨an, ln, cn, zn, ad, ld, cd, zd, rfl, h1, h2, h3, h4, h5, h6, h7, h8⟩ := h
  exact ⟨an, ln, cn, zn, ad, ld, cd, zd, rfl, h1, h2, h3, h4, by omega, by omega, h7.mono hb, h8.mono hb⟩
/-- a call that answers such a ratio, and writes nothing that was there -/
def GivesR (w : World) (L : Nat) (n d : Int) (e : Ending) (w' : World) : Prop :=
  ∃ v, e = .returned v ∧ Rat w' w.heap.size L v n d ∧ Below w.heap.size w w'

theorem lim_pow {zs : List Int} {n : Int} {p : Nat} (h : Is 4294967296 zs n) (hl : zs.length ≤ p) : 0 ≤ n ∧ n < 4294967296 ^ p := by
  have h1 := val_lt (by omega) h.1
  rw [h.2.2] at h1
  have h2 := ipow_le (B := 4294967296) (by omega) hl
  exact ⟨h.nonneg (by omega), by omega⟩
theorem lim_add {zs : List Int} {m n : Int} {p : Nat} (h : Is 4294967296 zs (m + n)) (hm : m < 4294967296 ^ p) (hn : n < 4294967296 ^ p) : zs.length ≤ p + 1 := by
  refine h.len_le (by omega) ?_
  rw [Int.pow_succ]
  have := ipow_pos (B := 4294967296) (by omega) p
  omega
theorem lim_mul {m n : Int} {p q : Nat} (hm : 0 ≤ m ∧ m < 4294967296 ^ p) (hn : 0 ≤ n ∧ n < 4294967296 ^ q) : m * n < 4294967296 ^ (p + q) := by
  rw [Int.pow_add]
  have h1 : m * n ≤ m * 4294967296 ^ q := Int.mul_le_mul_of_nonneg_left (by omega) hm.1
  have h2 : m * 4294967296 ^ q < 4294967296 ^ p * 4294967296 ^ q := Int.mul_lt_mul_of_pos_right hm.2 (ipow_pos (by omega) q)
  omega
theorem Try.infoRat : (Try.prog.info? 58).map (fun i => (i.zero, i.size, i.bytes)) = some (some (.agg #[.slice none 0 0, .slice none 0 0]), 2, 48) := by kernel_rfl

theorem four_kept {w w' : World} {b : Nat} {v1 v2 v3 v4 : Value} (hb : Below w.heap.size w w')
    (h : w.cell? ⟨b, 0, none⟩ = some v1 ∧ w.cell? ⟨b, 1, none⟩ = some v2 ∧ w.cell? ⟨b + 1, 0, none⟩ = some v3 ∧ w.cell? ⟨b + 1, 1, none⟩ = some v4) (hz : b + 2 ≤ w.heap.size) :
    w'.cell? ⟨b, 0, none⟩ = some v1 ∧ w'.cell? ⟨b, 1, none⟩ = some v2 ∧ w'.cell? ⟨b + 1, 0, none⟩ = some v3 ∧ w'.cell? ⟨b + 1, 1, none⟩ = some v4 :=
  ⟨(hb.cell (p := ⟨b, 0, none⟩) (show b < _ by omega)).trans h.1, (hb.cell (p := ⟨b, 1, none⟩) (show b < _ by omega)).trans h.2.1, (hb.cell (p := ⟨b + 1, 0, none⟩) (show b + 1 < _ by omega)).trans h.2.2.1, (hb.cell (p := ⟨b + 1, 1, none⟩) (show b + 1 < _ by omega)).trans h.2.2.2⟩

theorem rcmp_any (v u : Value) (n1 d1 n2 d2 : Int) (b1 b2 L1 L2 : Nat) (w : World) (h1 : Rat w b1 L1 v n1 d1) (h2 : Rat w b2 L2 u n2 d2) (hL : L1 + L2 ≤ 50) :
    Calls Try.prog 29 #[v, u] w fun e w' => e = .returned (.int .i64 (cmpI (n1 * d2) (n2 * d1))) ∧ Below w.heap.size w w' := by
  obtain ⟨a1, l1, c1, z1, a2, l2, c2, z2, rfl, r1, i1, r2, i2, hl1, hl2, _, _⟩ := h1
  obtain ⟨a3, l3, c3, z3, a4, l4, c4, z4, rfl, r3, i3, r4, i4, hl3, hl4, _, _⟩ := h2
  have R1 := Lib.hid r1; have R2 := Lib.hid r2; have R3 := Lib.hid r3; have R4 := Lib.hid r4
  have I1 := Lib.hid i1; have I2 := Lib.hid i2; have I3 := Lib.hid i3; have I4 := Lib.hid i4
  clear r1 r2 r3 r4 i1 i2 i3 i4
  go_enter Try.func29, Try.ntmps29
  go_wp2
  obtain ⟨W0, hW0⟩ : ∃ W0, (w.alloc (Obj.cells #[Value.slice a1 l1 c1, Value.slice a2 l2 c2] 58)).alloc (Obj.cells #[Value.slice a3 l3 c3, Value.slice a4 l4 c4] 58) = W0 := ⟨_, rfl⟩
  have k1 : W0.drew.cell? ⟨w.heap.size, 0, none⟩ = some (.slice a1 l1 c1) := by rw [← hW0]; simp
  have k2 : W0.drew.cell? ⟨w.heap.size, 1, none⟩ = some (.slice a2 l2 c2) := by rw [← hW0]; simp
  have k3 : W0.drew.cell? ⟨w.heap.size + 1, 0, none⟩ = some (.slice a3 l3 c3) := by rw [← hW0]; simp
  have k4 : W0.drew.cell? ⟨w.heap.size + 1, 1, none⟩ = some (.slice a4 l4 c4) := by rw [← hW0]; simp
  have B0 := Lib.hid (show Below w.heap.size w W0.drew by rw [← hW0]; exact (((Below.refl _ _).alloc (Nat.le_refl _) _).alloc (by simp) _).drew)
  have Z0 : w.heap.size + 2 ≤ W0.drew.heap.size := by rw [← hW0]; simp
  have K1 := Lib.hid k1; have K2 := Lib.hid k2; have K3 := Lib.hid k3; have K4 := Lib.hid k4
  rw [hW0]
  clear hW0
  have p1 := lim_pow I1.out (p := L1) (by rw [R1.out.len]; exact hl1)
  have p2 := lim_pow I2.out (p := L1) (by rw [R2.out.len]; exact hl2)
  have p3 := lim_pow I3.out (p := L2) (by rw [R3.out.len]; exact hl3)
  have p4 := lim_pow I4.out (p := L2) (by rw [R4.out.len]; exact hl4)
  have P1 := Lib.hid (lim_mul p1 p4); have P2 := Lib.hid (lim_mul p3 p2)
  clear p1 p2 p3 p4
  have o1 : l1 ≤ 50 := by omega
  have o2 : l2 ≤ 50 := by omega
  have o3 : l3 ≤ 50 := by omega
  have o4 : l4 ≤ 50 := by omega
  go_region_held3 (fun w' => w'.cell? ⟨w.heap.size, 0, none⟩ = some (.slice a1 l1 c1) ∧ w'.cell? ⟨w.heap.size, 1, none⟩ = some (.slice a2 l2 c2) ∧ w'.cell? ⟨w.heap.size + 1, 0, none⟩ = some (.slice a3 l3 c3) ∧ w'.cell? ⟨w.heap.size + 1, 1, none⟩ = some (.slice a4 l4 c4))
    (first | exact ⟨K1.out, K2.out, K3.out, K4.out⟩ | exact four_kept HB3.out (four_kept HB2.out (four_kept HB1.out ⟨K1.out, K2.out, K3.out, K4.out⟩ Z0) Z1) Z2 | exact four_kept HB2.out (four_kept HB1.out ⟨K1.out, K2.out, K3.out, K4.out⟩ Z0) Z1 | exact four_kept HB1.out ⟨K1.out, K2.out, K3.out, K4.out⟩ Z0)
    (first
      | (go_at_call 57; ((with_reducible refine (Mul_any a1 l1 c1 z1 n1 a4 l4 c4 z4 d2 W0.drew (R1.out.below B0.out) I1.out (R4.out.below B0.out) I4.out o1 o4).mono ?_)); rintro e w1 ⟨x1, m1, q1, y1, rfl, hr, hi, hb, _⟩; have HR1 := Lib.hid hr; have HI1 := Lib.hid hi; have HB1 := Lib.hid hb; have Z1 := Nat.le_trans Z0 hb.size; clear hr hi hb)
      | (go_at_call 57; ((with_reducible refine (Mul_any a3 l3 c3 z3 n2 a2 l2 c2 z2 d1 w1 ((R3.out.below B0.out).below HB1.out) I3.out ((R2.out.below B0.out).below HB1.out) I2.out o3 o2).mono ?_)); rintro e w2 ⟨x2, m2, q2, y2, rfl, hr, hi, hb, _⟩; have HR2 := Lib.hid hr; have HI2 := Lib.hid hi; have HB2 := Lib.hid hb; have Z2 := Nat.le_trans Z1 hb.size; clear hr hi hb)
      | (go_at_call 56; refine (Cmp_any x1 m1 q1 y1 (n1 * d2) x2 m2 q2 y2 (n2 * d1) w2 (HR1.out.below HB2.out) HI1.out HR2.out HI2.out (by rw [← HR1.out.len]; exact Nat.le_trans (HI1.out.len_le (by omega) P1.out) hL) (by rw [← HR2.out.len]; exact Nat.le_trans (HI2.out.len_le (by omega) P2.out) (by omega))).mono ?_; rintro e w3 ⟨rfl, hb⟩; have HB3 := Lib.hid hb; clear hb))
  all_goals
    go_wp2
    go_ret
    exact ⟨rfl, below_next (below_next (below_next B0.out HB1.out) HB2.out) HB3.out⟩
end Go.Proofs.Ytnlgophgglgneaa
namespace Go.Proofs.Ytnlgophgglgneaa
open Go.RowKit

theorem cell_old (w : World) (o : Obj) {p : Addr} (h : p.block < w.heap.size) : (w.alloc o).cell? p = w.cell? p := ((Below.refl w.heap.size w).alloc (Nat.le_refl _) o).cell (p := p) h
theorem free_new (w : World) (x : Array Value) (t : TypeId) (j : Nat) : (w.alloc (.cells x t)).frozen? ⟨w.heap.size, j, none⟩ = false := by simp
theorem size_alloc (w : World) (o : Obj) : (w.alloc o).heap.size = w.heap.size + 1 := by simp
theorem three_boxes (w : World) (x y z : Array Value) (t1 t2 t3 : TypeId) :
    (∀ j, (((w.alloc (.cells x t1)).alloc (.cells y t2)).alloc (.cells z t3)).cell? ⟨w.heap.size, j, none⟩ = x[j]?) ∧
    (∀ j, (((w.alloc (.cells x t1)).alloc (.cells y t2)).alloc (.cells z t3)).cell? ⟨w.heap.size + 1, j, none⟩ = y[j]?) ∧
    (∀ j, (((w.alloc (.cells x t1)).alloc (.cells y t2)).alloc (.cells z t3)).cell? ⟨w.heap.size + 2, j, none⟩ = z[j]?) ∧
    (∀ j, (((w.alloc (.cells x t1)).alloc (.cells y t2)).alloc (.cells z t3)).frozen? ⟨w.heap.size + 2, j, none⟩ = false) ∧
    Below w.heap.size w (((w.alloc (.cells x t1)).alloc (.cells y t2)).alloc (.cells z t3)) ∧
    (((w.alloc (.cells x t1)).alloc (.cells y t2)).alloc (.cells z t3)).heap.size = w.heap.size + 3 := by
  have s1 := size_alloc w (.cells x t1)
  have s2 := size_alloc (w.alloc (.cells x t1)) (.cells y t2)
  have s3 := size_alloc ((w.alloc (.cells x t1)).alloc (.cells y t2)) (.cells z t3)
  refine ⟨fun j => ?_, fun j => ?_, fun j => ?_, fun j => ?_, ?_, by omega⟩
  · rw [cell_old _ _ (show w.heap.size < _ by omega), cell_old _ _ (show w.heap.size < _ by omega)]
    exact World.cell?_alloc_at _ _ _ _ rfl
  · rw [cell_old _ _ (show w.heap.size + 1 < _ by omega), ← s1]
    exact World.cell?_alloc_at _ _ _ _ rfl
  · rw [show w.heap.size + 2 = ((w.alloc (.cells x t1)).alloc (.cells y t2)).heap.size by omega]
    exact World.cell?_alloc_at _ _ _ _ rfl
  · rw [show w.heap.size + 2 = ((w.alloc (.cells x t1)).alloc (.cells y t2)).heap.size by omega]
    exact free_new _ _ _ _
  · exact (((Below.refl _ _).alloc (Nat.le_refl _) _).alloc (by omega) _).alloc (by omega) _

theorem rplus_any (v u : Value) (n1 d1 n2 d2 : Int) (b1 b2 L1 L2 : Nat) (w : World) (h1 : Rat w b1 L1 v n1 d1) (h2 : Rat w b2 L2 u n2 d2) (hL : L1 + L2 ≤ 50) :
    Calls Try.prog 30 #[v, u] w (GivesR w (L1 + L2 + 1) (n1 * d2 + n2 * d1) (d1 * d2)) := by
  obtain ⟨a1, l1, c1, z1, a2, l2, c2, z2, rfl, r1, i1, r2, i2, hl1, hl2, _, _⟩ := h1
  obtain ⟨a3, l3, c3, z3, a4, l4, c4, z4, rfl, r3, i3, r4, i4, hl3, hl4, _, _⟩ := h2
  have R1 := Lib.hid r1; have R2 := Lib.hid r2; have R3 := Lib.hid r3; have R4 := Lib.hid r4
  have I1 := Lib.hid i1; have I2 := Lib.hid i2; have I3 := Lib.hid i3; have I4 := Lib.hid i4
  clear r1 r2 r3 r4 i1 i2 i3 i4
  go_enter Try.func30, Try.ntmps30
  go_wp2
  obtain ⟨W0, hW0⟩ : ∃ W0, ((w.alloc (Obj.cells #[Value.slice a1 l1 c1, Value.slice a2 l2 c2] 58)).alloc (Obj.cells #[Value.slice a3 l3 c3, Value.slice a4 l4 c4] 58)).alloc (Obj.cells #[Value.slice none 0 0, Value.slice none 0 0] 58) = W0 := ⟨_, rfl⟩
  have BX := three_boxes w #[Value.slice a1 l1 c1, Value.slice a2 l2 c2] #[Value.slice a3 l3 c3, Value.slice a4 l4 c4] #[Value.slice none 0 0, Value.slice none 0 0] 58 58 58
  rw [hW0] at BX
  have k1 : W0.drew.cell? ⟨w.heap.size, 0, none⟩ = some (.slice a1 l1 c1) := BX.1 0
  have k2 : W0.drew.cell? ⟨w.heap.size, 1, none⟩ = some (.slice a2 l2 c2) := BX.1 1
  have k3 : W0.drew.cell? ⟨w.heap.size + 1, 0, none⟩ = some (.slice a3 l3 c3) := BX.2.1 0
  have k4 : W0.drew.cell? ⟨w.heap.size + 1, 1, none⟩ = some (.slice a4 l4 c4) := BX.2.1 1
  have B0 := Lib.hid (show Below w.heap.size w W0.drew from BX.2.2.2.2.1.drew)
  have SZ : W0.drew.heap.size = w.heap.size + 3 := BX.2.2.2.2.2
  have Z0 : w.heap.size + 2 ≤ W0.drew.heap.size := by omega
  have Y0 := Lib.hid (show w.heap.size + 2 < W0.drew.heap.size by omega)
  have X0 := Lib.hid (show W0.drew.cell? ⟨w.heap.size + 2, 0, none⟩ = some (.slice none 0 0) from BX.2.2.1 0)
  have X1 := Lib.hid (show W0.drew.cell? ⟨w.heap.size + 2, 1, none⟩ = some (.slice none 0 0) from BX.2.2.1 1)
  have X2 := Lib.hid (show W0.drew.frozen? ⟨w.heap.size + 2, 0, none⟩ = false from BX.2.2.2.1 0)
  have X3 := Lib.hid (show W0.drew.frozen? ⟨w.heap.size + 2, 1, none⟩ = false from BX.2.2.2.1 1)
  clear BX SZ
  have K1 := Lib.hid k1; have K2 := Lib.hid k2; have K3 := Lib.hid k3; have K4 := Lib.hid k4
  rw [hW0]
  clear hW0
  have p1 := lim_pow I1.out (p := L1) (by rw [R1.out.len]; exact hl1)
  have p2 := lim_pow I2.out (p := L1) (by rw [R2.out.len]; exact hl2)
  have p3 := lim_pow I3.out (p := L2) (by rw [R3.out.len]; exact hl3)
  have p4 := lim_pow I4.out (p := L2) (by rw [R4.out.len]; exact hl4)
  have P1 := Lib.hid (lim_mul p1 p4); have P2 := Lib.hid (lim_mul p3 p2); have P3 := Lib.hid (lim_mul p2 p4)
  clear p1 p2 p3 p4
  have o1 : l1 ≤ 50 := by omega
  have o2 : l2 ≤ 50 := by omega
  have o3 : l3 ≤ 50 := by omega
  have o4 : l4 ≤ 50 := by omega
  go_region_held3 (fun w' => w'.cell? ⟨w.heap.size, 0, none⟩ = some (.slice a1 l1 c1) ∧ w'.cell? ⟨w.heap.size, 1, none⟩ = some (.slice a2 l2 c2) ∧ w'.cell? ⟨w.heap.size + 1, 0, none⟩ = some (.slice a3 l3 c3) ∧ w'.cell? ⟨w.heap.size + 1, 1, none⟩ = some (.slice a4 l4 c4))
    (first | exact ⟨K1.out, K2.out, K3.out, K4.out⟩ | exact four_kept HB3.out (four_kept HB2.out (four_kept HB1.out ⟨K1.out, K2.out, K3.out, K4.out⟩ Z0) Z1) Z2 | exact four_kept HB2.out (four_kept HB1.out ⟨K1.out, K2.out, K3.out, K4.out⟩ Z0) Z1 | exact four_kept HB1.out ⟨K1.out, K2.out, K3.out, K4.out⟩ Z0)
    (first
      | (go_at_call 57; ((with_reducible refine (Mul_any a1 l1 c1 z1 n1 a4 l4 c4 z4 d2 W0.drew (R1.out.below B0.out) I1.out (R4.out.below B0.out) I4.out o1 o4).mono ?_)); rintro e w1 ⟨x1, m1, q1, y1, rfl, hr, hi, hb, _⟩; have HR1 := Lib.hid hr; have HI1 := Lib.hid hi; have HB1 := Lib.hid hb; have Z1 := Nat.le_trans Z0 hb.size; clear hr hi hb)
      | (go_at_call 57; ((with_reducible refine (Mul_any a3 l3 c3 z3 n2 a2 l2 c2 z2 d1 w1 ((R3.out.below B0.out).below HB1.out) I3.out ((R2.out.below B0.out).below HB1.out) I2.out o3 o2).mono ?_)); rintro e w2 ⟨x2, m2, q2, y2, rfl, hr, hi, hb, _⟩; have HR2 := Lib.hid hr; have HI2 := Lib.hid hi; have HB2 := Lib.hid hb; have Z2 := Nat.le_trans Z1 hb.size; clear hr hi hb)
      | (go_at_call 58; refine (Add_any x1 m1 q1 y1 (n1 * d2) x2 m2 q2 y2 (n2 * d1) w2 (HR1.out.below HB2.out) HI1.out HR2.out HI2.out (by rw [← HR1.out.len]; exact Nat.le_trans (HI1.out.len_le (by omega) P1.out) hL) (by rw [← HR2.out.len]; exact Nat.le_trans (HI2.out.len_le (by omega) P2.out) (by omega))).mono ?_; rintro e w3 ⟨x3, m3, q3, y3, rfl, hr, hi, hb, hf⟩; have HR3 := Lib.hid hr; have HI3 := Lib.hid hi; have HB3 := Lib.hid hb; have HF3 := Lib.hid hf; have Z3 := Nat.le_trans Z2 hb.size; clear hr hi hb hf))
  all_goals
    have FK := Lib.hid (four_kept HB3.out (four_kept HB2.out (four_kept HB1.out ⟨K1.out, K2.out, K3.out, K4.out⟩ Z0) Z1) Z2)
    have g2 := FK.out.2.1
    have g4 := FK.out.2.2.2
    have BB := Lib.hid (below_next (below_next HB1.out HB2.out) HB3.out)
    go_wp2_with fail
    refine (Mul_any a2 l2 c2 z2 d1 a4 l4 c4 z4 d2 w3 ((R2.out.below B0.out).below BB.out) I2.out ((R4.out.below B0.out).below BB.out) I4.out o2 o4).mono ?_
    rintro e w4 ⟨x4, m4, q4, y4, rfl, hr, hi, hb, hf⟩
    have HR4 := Lib.hid hr; have HI4 := Lib.hid hi; have HB4 := Lib.hid hb; have HF4 := Lib.hid hf
    clear hr hi hb hf g2 g4
    have BC := Lib.hid (below_next BB.out HB4.out)
    have s0 := (BC.out.cell (p := ⟨w.heap.size + 2, 0, none⟩) Y0.out).trans X0.out
    have s1 := (BC.out.cell (p := ⟨w.heap.size + 2, 1, none⟩) Y0.out).trans X1.out
    have s2 := (BC.out.frozen (p := ⟨w.heap.size + 2, 0, none⟩) Y0.out).trans X2.out
    have s3 := (BC.out.frozen (p := ⟨w.heap.size + 2, 1, none⟩) Y0.out).trans X3.out
    go_wp2
    have hn3 : ∀ ad : Addr, x3 = some ad → ad.block ≠ w.heap.size + 2 := fun ad e => by have h1 := HF3.out ad e; have h2 := (below_next HB1.out HB2.out).size; have := Y0.out; omega
    have hn4 : ∀ ad : Addr, x4 = some ad → ad.block ≠ w.heap.size + 2 := fun ad e => by have h1 := HF4.out ad e; have h2 := BB.out.size; have := Y0.out; omega
    refine bodyPost_ret (v := .agg #[.slice x3 m3 q3, .slice x4 m4 q4]) (by simp [results, Try.results30, go_sem, s0, s1]) rfl ⟨_, rfl, ⟨x3, m3, q3, y3, x4, m4, q4, y4, rfl, ?_, HI3.out, ?_, HI4.out, ?_, ?_, ?_, ?_⟩, ?_⟩
    · exact ((HR3.out.below HB4.out).setCell _ _ hn3).setCell _ _ hn3
    · exact (HR4.out.setCell _ _ hn4).setCell _ _ hn4
    · rw [← HR3.out.len]; exact lim_add HI3.out P1.out (Nat.add_comm L2 L1 ▸ P2.out)
    · rw [← HR4.out.len]; exact Nat.le_trans (HI4.out.len_le (by omega) P3.out) (by omega)
    · exact HF3.out.mono (by have h2 := (below_next HB1.out HB2.out).size; have := Y0.out; omega)
    · exact HF4.out.mono (by have h2 := BB.out.size; have := Y0.out; omega)
    · exact ((below_next B0.out BC.out).setCell (show w.heap.size ≤ w.heap.size + 2 by omega) _).setCell (show w.heap.size ≤ w.heap.size + 2 by omega) _
end Go.Proofs.Ytnlgophgglgneaa
namespace Go.Proofs.Ytnlgophgglgneaa
open Go.RowKit

theorem two_boxes (w : World) (x y : Array Value) (t1 t2 : TypeId) :
    (∀ j, ((w.alloc (.cells x t1)).alloc (.cells y t2)).cell? ⟨w.heap.size, j, none⟩ = x[j]?) ∧
    (∀ j, ((w.alloc (.cells x t1)).alloc (.cells y t2)).cell? ⟨w.heap.size + 1, j, none⟩ = y[j]?) ∧
    (∀ j, ((w.alloc (.cells x t1)).alloc (.cells y t2)).frozen? ⟨w.heap.size + 1, j, none⟩ = false) ∧
    Below w.heap.size w ((w.alloc (.cells x t1)).alloc (.cells y t2)) ∧
    ((w.alloc (.cells x t1)).alloc (.cells y t2)).heap.size = w.heap.size + 2 := by
  have s1 := size_alloc w (.cells x t1)
  have s2 := size_alloc (w.alloc (.cells x t1)) (.cells y t2)
  refine ⟨fun j => ?_, fun j => ?_, fun j => ?_, ?_, by omega⟩
  · rw [cell_old _ _ (show w.heap.size < _ by omega)]
    exact World.cell?_alloc_at _ _ _ _ rfl
  · rw [← s1]
    exact World.cell?_alloc_at _ _ _ _ rfl
  · rw [← s1]
    exact free_new _ _ _ _
  · exact ((Below.refl _ _).alloc (Nat.le_refl _) _).alloc (by omega) _

theorem one_limb {zs : List Int} {n : Int} (h : Is 4294967296 zs n) (hn : n < 4294967296) : zs.length ≤ 1 := h.len_le (by omega) (by simpa using hn)

theorem pair_kept {w w' : World} {b : Nat} {v1 v2 : Value} (hb : Below w.heap.size w w') (h : w.cell? ⟨b, 0, none⟩ = some v1 ∧ w.cell? ⟨b, 1, none⟩ = some v2) (hz : b < w.heap.size) :
    w'.cell? ⟨b, 0, none⟩ = some v1 ∧ w'.cell? ⟨b, 1, none⟩ = some v2 :=
  ⟨(hb.cell (p := ⟨b, 0, none⟩) hz).trans h.1, (hb.cell (p := ⟨b, 1, none⟩) hz).trans h.2⟩
theorem pair_kept2 {w : World} {b o1 o2 : Nat} {v1 v2 u1 u2 : Value} (h : w.cell? ⟨b, 0, none⟩ = some v1 ∧ w.cell? ⟨b, 1, none⟩ = some v2) :
    ((w.setCell ⟨b + 1, o1, none⟩ u1).setCell ⟨b + 1, o2, none⟩ u2).cell? ⟨b, 0, none⟩ = some v1 ∧ ((w.setCell ⟨b + 1, o1, none⟩ u1).setCell ⟨b + 1, o2, none⟩ u2).cell? ⟨b, 1, none⟩ = some v2 := by
  have e : ((w.setCell ⟨b + 1, o1, none⟩ u1).setCell ⟨b + 1, o2, none⟩ u2).heap[b]? = w.heap[b]? := by
    rw [Below.heap_setCell _ _ _ _ (by simp), Below.heap_setCell _ _ _ _ (by simp)]
  exact ⟨(World.cell?_of_block (w := w) e).trans h.1, (World.cell?_of_block (w := w) e).trans h.2⟩

theorem rof_any (E P : Int) (w : World) (e0 : 0 ≤ E) (e1 : E < 4294967296) (p0 : 0 ≤ P) (p1 : P < 4294967296) :
    Calls Try.prog 28 #[.agg #[.int .i64 E, .int .i64 P]] w (GivesR w 1 E P) := by
  have E9 : E ≤ 18446744073709551615 := by omega
  have P9 : P ≤ 18446744073709551615 := by omega
  have x1 : IntKind.u64.wrap E = E := IntWalk.u64_in _ (by omega)
  have x2 : IntKind.u64.wrap P = P := IntWalk.u64_in _ (by omega)
  go_enter Try.func28, Try.ntmps28
  go_wp2
  obtain ⟨W0, hW0⟩ : ∃ W0, (w.alloc (Obj.cells #[Value.int .i64 E, Value.int .i64 P] 32)).alloc (Obj.cells #[Value.slice none 0 0, Value.slice none 0 0] 58) = W0 := ⟨_, rfl⟩
  have BX := two_boxes w #[Value.int .i64 E, Value.int .i64 P] #[Value.slice none 0 0, Value.slice none 0 0] 32 58
  rw [hW0] at BX
  have k1 : W0.drew.cell? ⟨w.heap.size, 0, none⟩ = some (.int .i64 E) := BX.1 0
  have k2 : W0.drew.cell? ⟨w.heap.size, 1, none⟩ = some (.int .i64 P) := BX.1 1
  have B0 := Lib.hid (show Below w.heap.size w W0.drew from BX.2.2.2.1.drew)
  have SZ : W0.drew.heap.size = w.heap.size + 2 := BX.2.2.2.2
  have Z0 : w.heap.size < W0.drew.heap.size := by omega
  have Y0 := Lib.hid (show w.heap.size + 1 < W0.drew.heap.size by omega)
  have X0 := Lib.hid (show W0.drew.cell? ⟨w.heap.size + 1, 0, none⟩ = some (.slice none 0 0) from BX.2.1 0)
  have X1 := Lib.hid (show W0.drew.cell? ⟨w.heap.size + 1, 1, none⟩ = some (.slice none 0 0) from BX.2.1 1)
  have X2 := Lib.hid (show W0.drew.frozen? ⟨w.heap.size + 1, 0, none⟩ = false from BX.2.2.1 0)
  have X3 := Lib.hid (show W0.drew.frozen? ⟨w.heap.size + 1, 1, none⟩ = false from BX.2.2.1 1)
  have K1 := Lib.hid k1; have K2 := Lib.hid k2
  clear BX SZ
  rw [hW0]
  clear hW0
  go_region_held3 (fun w' => w'.cell? ⟨w.heap.size, 0, none⟩ = some (.int .i64 E) ∧ w'.cell? ⟨w.heap.size, 1, none⟩ = some (.int .i64 P))
    (first | exact ⟨K1.out, K2.out⟩ | exact pair_kept2 (pair_kept HB2.out (pair_kept HB1.out ⟨K1.out, K2.out⟩ Z0) Z1) | exact pair_kept HB2.out (pair_kept HB1.out ⟨K1.out, K2.out⟩ Z0) Z1 | exact pair_kept HB1.out ⟨K1.out, K2.out⟩ Z0)
    (first
      | (go_at_call 55; ((with_reducible refine (of_any E W0.drew e0 E9).mono ?_)); rintro e w1 ⟨a1, l1, c1, z1, rfl, hr, hi, hb, hf⟩; have HR1 := Lib.hid hr; have HI1 := Lib.hid hi; have HB1 := Lib.hid hb; have HF1 := Lib.hid hf; have Z1 := Nat.lt_of_lt_of_le Z0 hb.size; clear hr hi hb hf)
      | (go_at_call 55; ((with_reducible refine (of_any P w1 p0 P9).mono ?_)); rintro e w2 ⟨a2, l2, c2, z2, rfl, hr, hi, hb, hf⟩; have HR2 := Lib.hid hr; have HI2 := Lib.hid hi; have HB2 := Lib.hid hb; have HF2 := Lib.hid hf; have BB := Lib.hid (below_next HB1.out hb); have s0 := (BB.out.cell (p := ⟨w.heap.size + 1, 0, none⟩) Y0.out).trans X0.out; have s1 := (BB.out.cell (p := ⟨w.heap.size + 1, 1, none⟩) Y0.out).trans X1.out; have s2 := (BB.out.frozen (p := ⟨w.heap.size + 1, 0, none⟩) Y0.out).trans X2.out; have s3 := (BB.out.frozen (p := ⟨w.heap.size + 1, 1, none⟩) Y0.out).trans X3.out; clear hr hi hb hf))
  all_goals
    go_wp2
    have hn1 : ∀ ad : Addr, a1 = some ad → ad.block ≠ w.heap.size + 1 := fun ad e => by have h1 := HF1.out ad e; have := Y0.out; omega
    have hn2 : ∀ ad : Addr, a2 = some ad → ad.block ≠ w.heap.size + 1 := fun ad e => by have h1 := HF2.out ad e; have h2 := HB1.out.size; have := Y0.out; omega
    refine bodyPost_ret (v := .agg #[.slice a1 l1 c1, .slice a2 l2 c2]) (by simp [results, Try.results28, go_sem, s0, s1]) rfl ⟨_, rfl, ⟨a1, l1, c1, z1, a2, l2, c2, z2, rfl, ?_, HI1.out, ?_, HI2.out, ?_, ?_, ?_, ?_⟩, ?_⟩
    · exact ((HR1.out.below HB2.out).setCell _ _ hn1).setCell _ _ hn1
    · exact (HR2.out.setCell _ _ hn2).setCell _ _ hn2
    · rw [← HR1.out.len]; exact one_limb HI1.out e1
    · rw [← HR2.out.len]; exact one_limb HI2.out p1
    · exact HF1.out.mono (by have := Y0.out; omega)
    · exact HF2.out.mono (by have := HB1.out.size; have := Y0.out; omega)
    · exact ((below_next B0.out BB.out).setCell (show w.heap.size ≤ w.heap.size + 1 by omega) _).setCell (show w.heap.size ≤ w.heap.size + 1 by omega) _
end Go.Proofs.Ytnlgophgglgneaa
namespace Go.Proofs.Ytnlgophgglgneaa
open Go.RowKit

theorem below_box (w : World) (o : Obj) : Below w.heap.size w (w.alloc o) := (Below.refl _ _).alloc (Nat.le_refl _) _

end Go.Proofs.Ytnlgophgglgneaa
namespace Go.Proofs.Ytnlgophgglgneaa
open Go.RowKit

theorem is_one_limb {zs : List Int} {n : Int} (h : Is 4294967296 zs n) (hl : zs.length = 1) : zs.getD 0 0 = n := by
  match zs, hl with
  | [x], _ => have := h.2.2; simpa [val] using this
theorem is_no_limb {zs : List Int} {n : Int} (h : Is 4294967296 zs n) (hl : zs.length = 0) : n = 0 := by
  match zs, hl with
  | [], _ => have := h.2.2; simpa [val] using this.symm

theorem below_three (w : World) (o1 o2 o3 : Obj) : Below w.heap.size w (((w.alloc o1).alloc o2).alloc o3) := (((Below.refl _ _).alloc (Nat.le_refl _) _).alloc (by simp) _).alloc (by simp; omega) _

theorem below_two (w : World) (o1 o2 : Obj) : Below w.heap.size w ((w.alloc o1).alloc o2) := ((Below.refl _ _).alloc (Nat.le_refl _) _).alloc (by simp) _
end Go.Proofs.Ytnlgophgglgneaa
namespace Go.Proofs.Ytnlgophgglgneaa
open Go.RowKit

/-- the slice that leads to 'a', of 'len' elements of two numbers each, reads as ps -/
def RowP (W : World) (a : Option Addr) (len cap : Nat) (ps : List (Int × Int)) : Prop :=
  ps.length = len ∧ len ≤ cap ∧ cap ≤ 9223372036854775807 ∧ (a = none → cap = 0) ∧
    ∀ i, i < len → ∃ b off, a = some ⟨b, off, none⟩ ∧ W.cell? ⟨b, off + i * 2, none⟩ = some (.int .i64 (ps.getD i (0, 0)).1) ∧ W.cell? ⟨b, off + i * 2 + 1, none⟩ = some (.int .i64 (ps.getD i (0, 0)).2)
theorem RowP.len {W : World} {a : Option Addr} {len cap : Nat} {ps : List (Int × Int)} (h : RowP W a len cap ps) : ps.length = len := h.1
theorem RowP.cap_le {W : World} {a : Option Addr} {len cap : Nat} {ps : List (Int × Int)} (h : RowP W a len cap ps) : len ≤ cap ∧ cap ≤ 9223372036854775807 := ⟨h.2.1, h.2.2.1⟩
theorem RowP.cell {W : World} {a : Option Addr} {len cap : Nat} {ps : List (Int × Int)} (h : RowP W a len cap ps) {i : Nat} (hi : i < len) :
    ∃ b off, a = some ⟨b, off, none⟩ ∧ W.cell? ⟨b, off + i * 2, none⟩ = some (.int .i64 (ps.getD i (0, 0)).1) ∧ W.cell? ⟨b, off + i * 2 + 1, none⟩ = some (.int .i64 (ps.getD i (0, 0)).2) := h.2.2.2.2 i hi
theorem RowP.below {W W' : World} {a : Option Addr} {len cap : Nat} {ps : List (Int × Int)} (h : RowP W a len cap ps) (hb : Below W.heap.size W W') : RowP W' a len cap ps := by
  refine ⟨h.1, h.2.1, h.2.2.1, h.2.2.2.1, fun i hi => ?_⟩
  obtain ⟨b, off, ha, hc1, hc2⟩ := h.2.2.2.2 i hi
  exact ⟨b, off, ha, (hb.cell (World.block_lt_of_cell? _ _ hc1)).trans hc1, (hb.cell (World.block_lt_of_cell? _ _ hc2)).trans hc2⟩
/-- a weight's two cells -/
def cellsW : List (Int × Int) → List Value
  | [] => []
  | p :: r => .int .i64 p.1 :: .int .i64 p.2 :: cellsW r
theorem cellsW_append (x y : List (Int × Int)) : cellsW (x ++ y) = cellsW x ++ cellsW y := by
  induction x with
  | nil => rfl
  | cons p r ih => rw [List.cons_append, cellsW, cellsW, ih]; rfl
theorem cellsW_get (ps : List (Int × Int)) (i : Nat) (h : i < ps.length) : (cellsW ps)[i * 2]? = some (.int .i64 (ps.getD i (0, 0)).1) ∧ (cellsW ps)[i * 2 + 1]? = some (.int .i64 (ps.getD i (0, 0)).2) := by
  induction ps generalizing i with
  | nil => simp at h
  | cons p r ih =>
    cases i with
    | zero => simp [cellsW]
    | succ i =>
      have := ih i (by simpa using h)
      rw [show (i + 1) * 2 = i * 2 + 1 + 1 by omega, cellsW]
      simpa using this
theorem rowP_of_owns {W : World} {base : Nat} {e : TypeId} {v : Value} {ps : List (Int × Int)} (h : W.ownsRow base e 2 v ps.length (cellsW ps)) :
    ∃ a cap, v = .slice a ps.length cap ∧ RowP W a ps.length cap ps ∧ Fresh base a := by
  rcases h.2 with ⟨hv, hn⟩ | ⟨g, cap, cur, hv, hbg, _, hcap, hmx, _, _⟩
  · refine ⟨none, 0, by rw [hv, hn], ⟨rfl, by omega, by omega, (fun _ => rfl), (fun i hi => by omega)⟩, Fresh.none⟩
  · subst hv
    refine ⟨_, cap, rfl, ⟨rfl, hcap, by unfold maxLen at hmx; omega, (fun h => by cases h), fun i hi => ⟨g, 0, rfl, ?_, ?_⟩⟩, fun ad e => by cases e; exact hbg⟩
    · rw [Nat.zero_add, h.cellAt (i * 2) (by omega)]; exact (cellsW_get ps i hi).1
    · rw [Nat.zero_add, h.cellAt (i * 2 + 1) (by omega)]; exact (cellsW_get ps i hi).2
theorem Try.infoW : (Try.prog.info? 32).map (fun i => (i.zero, i.size, i.bytes)) = some (some (.agg #[.int .i64 0, .int .i64 0]), 2, 16) := by kernel_rfl

/-- a weight by two numbers -/
def mkW (p : Int × Int) : Int × Int := (bits .and .i64 p.1 1048575, 1 + bits .and .i64 p.2 1048575)
def GivesP (w : World) (ps : List (Int × Int)) (e : Ending) (w' : World) : Prop :=
  ∃ a len cap, e = .returned (.slice a len cap) ∧ RowP w' a len cap ps ∧ Below w.heap.size w w' ∧ Fresh w.heap.size a

theorem and_bd (x : Int) : 0 ≤ bits .and .i64 x 1048575 ∧ bits .and .i64 x 1048575 ≤ 1048575 := by
  have h : (BitVec.ofInt 64 x &&& BitVec.ofInt 64 1048575).toNat ≤ 1048575 := by
    rw [BitVec.toNat_and]
    exact Nat.and_le_right
  have e : bits .and .i64 x 1048575 = ((BitVec.ofInt 64 x &&& BitVec.ofInt 64 1048575).toNat : Int) := by
    show IntKind.i64.wrap ((BitVec.ofInt 64 x &&& BitVec.ofInt 64 1048575).toNat : Int) = _
    exact IntWalk.i64_in _ (by omega)
  omega
theorem takeP {ps : List (Int × Int)} {t : Nat} (h : t < ps.length) : ps.take (t + 1) = ps.take t ++ [ps.getD t (0, 0)] := by
  rw [List.take_succ_eq_append_getElem h, List.getD_eq_getElem?_getD, List.getElem?_eq_getElem h]; rfl

end Go.Proofs.Ytnlgophgglgneaa
namespace Go.Proofs.Ytnlgophgglgneaa
open Go.RowKit

/-- the document's sum of weights, as it comes -/
def sumR (ws : List (Int × Int)) : Int × Int := ws.foldl (fun r p => (r.1 * p.2 + p.1 * r.2, r.2 * p.2)) (0, 1)
theorem sumR_snoc (ws : List (Int × Int)) (p : Int × Int) : sumR (ws ++ [p]) = ((sumR ws).1 * p.2 + p.1 * (sumR ws).2, (sumR ws).2 * p.2) := by
  unfold sumR; rw [List.foldl_append]; rfl
def OkW (p : Int × Int) : Prop := 0 ≤ p.1 ∧ p.1 < 4294967296 ∧ 0 ≤ p.2 ∧ p.2 < 4294967296
theorem two_set {w : World} {b : Nat} {u0 u1 x y : Value} {t : TypeId} (h : w.heap[b]? = some (.cells #[u0, u1] t (0, 0))) : ((w.setCell ⟨b, 0, none⟩ x).setCell ⟨b, 1, none⟩ y).heap[b]? = some (.cells #[x, y] t (0, 0)) := by
  have h1 := heap_setCell_same w b 0 #[u0, u1] t x h
  have h2 := heap_setCell_same (w.setCell ⟨b, 0, none⟩ x) b 1 _ t y h1
  exact h2
theorem block_cell {w : World} {b j : Nat} {cs : Array Value} {t : TypeId} (h : w.heap[b]? = some (.cells cs t (0, 0))) : w.cell? ⟨b, j, none⟩ = cs[j]? := cell_of_row w b j cs t (0, 0) h
theorem block_free {w : World} {b j : Nat} {cs : Array Value} {t : TypeId} (h : w.heap[b]? = some (.cells cs t (0, 0))) : w.frozen? ⟨b, j, none⟩ = false := frozen_of_row w b j cs t h

set_option maxHeartbeats 4000000 in
theorem rsum_any (a : Option Addr) (len cap : Nat) (ws : List (Int × Int)) (w : World) (h : RowP w a len cap ws) (hw : ∀ p ∈ ws, OkW p) (hl : len ≤ 20) :
    Calls Try.prog 54 #[.slice a len cap] w (GivesR w (2 * len + 1) (sumR ws).1 (sumR ws).2) := by
  have H := Lib.hid h
  have HWs := Lib.hid hw
  have LN := Lib.hid h.len
  have ⟨c1, c2⟩ := h.cap_le
  clear h hw
  go_enter Try.func54, Try.ntmps54
  go_wp2
  obtain ⟨W0, hW0⟩ : ∃ W0, ((w.alloc (Obj.cells #[Value.slice none 0 0, Value.slice none 0 0] 58)).alloc (Obj.cells #[Value.int .u32 1] 107)).alloc (Obj.cells #[Value.slice none 0 0, Value.slice (some ⟨w.heap.size + 1, 0, none⟩) 1 1] 58) = W0 := ⟨_, rfl⟩
  have BX := three_boxes w #[Value.slice none 0 0, Value.slice none 0 0] #[Value.int .u32 1] #[Value.slice none 0 0, Value.slice (some ⟨w.heap.size + 1, 0, none⟩) 1 1] 58 107 58
  obtain ⟨bs, hbs⟩ : ∃ bs, w.heap.size + 1 + 1 = bs := ⟨_, rfl⟩
  have S0 := Lib.hid (show W0.heap[bs]? = some (.cells #[.slice none 0 0, .slice (some ⟨w.heap.size + 1, 0, none⟩) 1 1] 58 (0, 0)) by
    rw [← hW0, ← hbs, show w.heap.size + 1 + 1 = ((w.alloc (Obj.cells #[Value.slice none 0 0, Value.slice none 0 0] 58)).alloc (Obj.cells #[Value.int .u32 1] 107)).heap.size by simp]
    exact heap_alloc_new _ _)
  have T0 := Lib.hid (show W0.heap[w.heap.size]? = some (.cells #[.slice none 0 0, .slice none 0 0] 58 (0, 0)) by
    rw [← hW0, Below.heap_alloc _ _ _ (by simp; omega), Below.heap_alloc _ _ _ (by simp)]
    exact heap_alloc_new _ _)
  rw [hW0, hbs]
  rw [hW0] at BX
  have B0 := Lib.hid BX.2.2.2.2.1
  have Z0 : W0.heap.size = bs + 1 := by have := BX.2.2.2.2.2; omega
  have R0 := Lib.hid (show Row .u32 W0 (some ⟨w.heap.size + 1, 0, none⟩) 1 1 [1] from ⟨rfl, by omega, by omega, (fun e => by cases e), fun i hi => ⟨w.heap.size + 1, 0, rfl, by
    obtain rfl : i = 0 := (by omega)
    exact BX.2.1 0⟩⟩)
  clear hW0 BX
  go_loopw [4] (fun u wr => ∃ (i : Nat) (an : Option Addr) (ln cn : Nat) (zn : List Int) (ad : Option Addr) (ld cd : Nat) (zd : List Int), u = .int .i64 i ∧ i ≤ len ∧ wr.heap[bs]? = some (.cells #[.slice an ln cn, .slice ad ld cd] 58 (0, 0)) ∧ Row .u32 wr an ln cn zn ∧ Is 4294967296 zn (sumR (ws.take i)).1 ∧ Row .u32 wr ad ld cd zd ∧ Is 4294967296 zd (sumR (ws.take i)).2 ∧ ln ≤ 2 * i + 1 ∧ ld ≤ 2 * i + 1 ∧ Fresh (w.heap.size + 1) an ∧ Fresh (w.heap.size + 1) ad ∧ Below bs W0 wr) (fun u _ => len - (intOf u).toNat)
  case atStart => exact ⟨0, none, 0, 0, [], some ⟨w.heap.size + 1, 0, none⟩, 1, 1, [1], rfl, by omega, S0.out, Row.nil, is_nil, R0.out, ⟨fun z hz => by simp at hz; subst hz; omega, by unfold Top; decide, by simp [val, sumR]⟩, by omega, by omega, Fresh.none, (fun ad e => by cases e; exact Nat.le_refl _), Below.refl _ _⟩
  case round =>
    obtain ⟨i, an, ln, cn, zn, ad, ld, cd, zd, rfl, il, hS, hrn, hin, hrd, hid, hln, hld, hfn, hfd, hbel⟩ := hrel
    have HS := Lib.hid hS
    have RN := Lib.hid hrn; have IN := Lib.hid hin; have RD := Lib.hid hrd; have ID := Lib.hid hid; have FN := Lib.hid hfn; have FD := Lib.hid hfd
    have HW := Lib.hid hbel
    have hsz := hbel.size
    clear hS hrn hin hrd hid hfn hfd hbel
    by_cases go : i < len
    · have t1 : decide (i < len) = true := by simp; omega
      obtain ⟨ba, oa, rfl, hx0, hy0⟩ := H.out.cell go
      have hlt : ba < w.heap.size := World.block_lt_of_cell? _ _ hx0
      obtain ⟨p, hp⟩ : ∃ p, ws.getD i (0, 0) = p := ⟨_, rfl⟩
      rw [hp] at hx0 hy0
      have hok : OkW p := by
        rw [← hp, List.getD_eq_getElem?_getD, List.getElem?_eq_getElem (by rw [LN.out]; exact go)]
        exact HWs.out _ (List.getElem_mem _)
      obtain ⟨E, P⟩ := p
      obtain ⟨e0, e1, p0, p1⟩ := hok
      have BWr := Lib.hid (show Below w.heap.size w wr from B0.out.trans (HW.out.mono (by omega)))
      have gx : wr.cell? ⟨ba, oa + i * 2, none⟩ = some (.int .i64 E) := (BWr.out.cell (p := ⟨ba, oa + i * 2, none⟩) hlt).trans hx0
      have gy : wr.cell? ⟨ba, oa + i * 2 + 1, none⟩ = some (.int .i64 P) := (BWr.out.cell (p := ⟨ba, oa + i * 2 + 1, none⟩) hlt).trans hy0
      have k0 : wr.cell? ⟨bs, 0, none⟩ = some (.slice an ln cn) := block_cell HS.out
      have k1 : wr.cell? ⟨bs, 1, none⟩ = some (.slice ad ld cd) := block_cell HS.out
      have SN := Lib.hid (sumR_snoc (ws.take i) (E, P))
      have TK := Lib.hid (show ws.take (i + 1) = ws.take i ++ [(E, P)] by rw [takeP (by rw [LN.out]; exact go), hp])
      clear hx0 hy0 hp
      have j1 : (i : Int) < (len : Int) := by omega
      have j2 : 0 ≤ (i : Int) := by omega
      have hL : 2 * i + 1 + 1 ≤ 50 := by omega
      obtain ⟨n, hn⟩ : ∃ n, (sumR (ws.take i)).1 = n := ⟨_, rfl⟩
      obtain ⟨d, hd⟩ : ∃ d, (sumR (ws.take i)).2 = d := ⟨_, rfl⟩
      rw [hn] at IN SN
      rw [hd] at ID SN
      clear hn hd
      have RA := Lib.hid (show Rat wr.drew 0 (2 * i + 1) (.agg #[.slice an ln cn, .slice ad ld cd]) n d from ⟨an, ln, cn, zn, ad, ld, cd, zd, rfl, RN.out, IN.out, RD.out, ID.out, hln, hld, FN.out.mono (Nat.zero_le _), FD.out.mono (Nat.zero_le _)⟩)
      go_wp2
      go_region_with
        (first
          | (go_at_call 28; refine (rof_any E P wr.drew e0 e1 p0 p1).mono ?_; rintro e w1 ⟨v1, rfl, hr1, hb1⟩; have RO := Lib.hid hr1; have HB1 := Lib.hid hb1; have S1 := Lib.hid (show w1.heap[bs]? = _ from (hb1.block bs (lt_of_block HS.out)).trans HS.out); have m0 : w1.cell? ⟨bs, 0, none⟩ = some (.slice an ln cn) := block_cell S1.out; have m1 : w1.cell? ⟨bs, 1, none⟩ = some (.slice ad ld cd) := block_cell S1.out; clear hr1 hb1)
          | (go_at_call 30; refine (rplus_any _ _ n d E P _ _ _ _ w1 (RA.out.below HB1.out) RO.out hL).mono ?_; rintro e w2 ⟨_, rfl, ⟨an2, ln2, cn2, zn2, ad2, ld2, cd2, zd2, rfl, q1, q2, q3, q4, q5, q6, q7, q8⟩, hb2⟩; have Q1 := Lib.hid q1; have Q2 := Lib.hid q2; have Q3 := Lib.hid q3; have Q4 := Lib.hid q4; have Q7 := Lib.hid q7; have Q8 := Lib.hid q8; have HB2 := Lib.hid hb2; have S2 := Lib.hid (show w2.heap[bs]? = _ from (hb2.block bs (lt_of_block S1.out)).trans S1.out); have n0 : w2.cell? ⟨bs, 0, none⟩ = some (.slice an ln cn) := block_cell S2.out; have n1 : w2.cell? ⟨bs, 1, none⟩ = some (.slice ad ld cd) := block_cell S2.out; have f0 : w2.frozen? ⟨bs, 0, none⟩ = false := block_free S2.out; have f1 : w2.frozen? ⟨bs, 1, none⟩ = false := block_free S2.out; clear q1 q2 q3 q4 q7 q8 hb2))
      all_goals
        have hne : ∀ ad' : Addr, an2 = some ad' → ad'.block ≠ bs := fun ad' e => by have h1 := Q7.out ad' e; have h2 := HB1.out.size; have h3 := lt_of_block HS.out; simp at h2; omega
        have hne2 : ∀ ad' : Addr, ad2 = some ad' → ad'.block ≠ bs := fun ad' e => by have h1 := Q8.out ad' e; have h2 := HB1.out.size; have h3 := lt_of_block HS.out; simp at h2; omega
        go_wp2
        go_roundw
        case rel =>
          refine ⟨i + 1, an2, ln2, cn2, zn2, ad2, ld2, cd2, zd2, by go_num, by omega, two_set S2.out, (Q1.out.setCell _ _ hne).setCell _ _ hne, ?_, (Q3.out.setCell _ _ hne2).setCell _ _ hne2, ?_, by omega, by omega, ?_, ?_, ?_⟩
          · rw [TK.out, SN.out]; exact Q2.out
          · rw [TK.out, SN.out]; exact Q4.out
          · exact Q7.out.mono (by have h2 := HB1.out.size; have h3 := lt_of_block HS.out; simp at h2; omega)
          · exact Q8.out.mono (by have h2 := HB1.out.size; have h3 := lt_of_block HS.out; simp at h2; omega)
          · have h3 := lt_of_block HS.out
            exact (((HW.out.drew.trans (HB1.out.mono (by simp; omega))).trans (HB2.out.mono (by have h2 := HB1.out.size; simp at h2; omega))).setCell (Nat.le_refl _) _).setCell (Nat.le_refl _) _
        case measure => simp [intOf]; omega
    · have t1 : decide (i < len) = false := by simp; omega
      have EL := Lib.hid (show ws.take i = ws by rw [List.take_of_length_le (by rw [LN.out]; omega)])
      rw [EL.out] at IN ID
      have k0 : wr.cell? ⟨bs, 0, none⟩ = some (.slice an ln cn) := block_cell HS.out
      have k1 : wr.cell? ⟨bs, 1, none⟩ = some (.slice ad ld cd) := block_cell HS.out
      have T1 := Lib.hid (show wr.heap[w.heap.size]? = some (.cells #[.slice none 0 0, .slice none 0 0] 58 (0, 0)) from (HW.out.block _ (by omega)).trans T0.out)
      have r0 : wr.cell? ⟨w.heap.size, 0, none⟩ = some (.slice none 0 0) := block_cell T1.out
      have r1 : wr.cell? ⟨w.heap.size, 1, none⟩ = some (.slice none 0 0) := block_cell T1.out
      have f0 : wr.frozen? ⟨w.heap.size, 0, none⟩ = false := block_free T1.out
      have f1 : wr.frozen? ⟨w.heap.size, 1, none⟩ = false := block_free T1.out
      go_wp2
      have hne : ∀ ad' : Addr, an = some ad' → ad'.block ≠ w.heap.size := fun ad' e => by have h1 := FN.out ad' e; omega
      have hne2 : ∀ ad' : Addr, ad = some ad' → ad'.block ≠ w.heap.size := fun ad' e => by have h1 := FD.out ad' e; omega
      refine bodyPost_ret (v := .agg #[.slice an ln cn, .slice ad ld cd]) (by simp [results, Try.results54, go_sem, r0, r1]) rfl ⟨_, rfl, ⟨an, ln, cn, zn, ad, ld, cd, zd, rfl, ?_, IN.out, ?_, ID.out, by omega, by omega, FN.out.mono (by omega), FD.out.mono (by omega)⟩, ?_⟩
      · exact (RN.out.setCell _ _ hne).setCell _ _ hne
      · exact (RD.out.setCell _ _ hne2).setCell _ _ hne2
      · exact ((B0.out.trans (HW.out.mono (by omega))).setCell (Nat.le_refl _) _).setCell (Nat.le_refl _) _
end Go.Proofs.Ytnlgophgglgneaa
