/-
  Ratios by value: words; what the document's Plus and Cmp of ratios give back: contracts.
-/
import Derived.Test.YtenibpnifnlfeaaNatRef9
import Derived.Deep.RegionHeld3
namespace Go.Proofs.Ytenibpnifnlfeaa
open Go.RowKit

/-- a ratio by value: n by d, of at most L limbs each; its rows lie from block 'base' on -/
def Rat (W : World) (base L : Nat) (v : Value) (n d : Int) : Prop :=
  ∃ an ln cn zn ad ld cd zd, v = .agg #[.slice an ln cn, .slice ad ld cd] ∧ Row .u32 W an ln cn zn ∧ Is 4294967296 zn n ∧ Row .u32 W ad ld cd zd ∧ Is 4294967296 zd d ∧ ln ≤ L ∧ ld ≤ L ∧ Fresh base an ∧ Fresh base ad
theorem Rat.below {W W' : World} {base L : Nat} {v : Value} {n d : Int} (h : Rat W base L v n d) (hb : Below W.heap.size W W') : Rat W' base L v n d := by
  obtain ⟨an, ln, cn, zn, ad, ld, cd, zd, rfl, h1, h2, h3, h4, h5⟩ := h
  exact ⟨an, ln, cn, zn, ad, ld, cd, zd, rfl, h1.below hb, h2, h3.below hb, h4, h5⟩
theorem Rat.mono {W : World} {base base' L L' : Nat} {v : Value} {n d : Int} (h : Rat W base L v n d) (hb : base' ≤ base) (hL : L ≤ L') : Rat W base' L' v n d := by
  obtain ⟨an, ln, cn, zn, ad, ld, cd, zd, rfl, h1, h2, h3, h4, h5, h6, h7, h8⟩ := h
  exact ⟨an, ln, cn, zn, ad, ld, cd, zd, rfl, h1, h2, h3, h4, by omega, by omega, h7.mono hb, h8.mono hb⟩
/-- a call that answers such a ratio, and writes nothing that was there -/
def GivesR (w : World) (L : Nat) (n d : Int) (e : Ending) (w' : World) : Prop :=
  ∃ v, e = .returned v ∧ Rat w' w.heap.size L v n d ∧ Below w.heap.size w w'

theorem lim_pow {zs : List Int} {n : Int} {p : Nat} (h : Is 4294967296 zs n) (hl : zs.length ≤ p) : 0 ≤ n ∧ n < 4294967296 ^ p := by
  have h1 := val_lt (by omega) h.1
  rw [h.2.2] at h1
  have h2 := ipow_le (B := 4294967296) (by omega) hl
  exact ⟨h.nonneg (by omega), by omega⟩
theorem lim_add {zs : List Int} {m n : Int} {p : Nat} (h : Is 4294967296 zs (m + n)) (hm : m < 4294967296 ^ p) (hn : n < 4294967296 ^ p) : zs.length ≤ p + 1 := by
  refine h.len_le (by omega) ?_
  rw [Int.pow_succ]
  have := ipow_pos (B := 4294967296) (by omega) p
  omega
theorem lim_mul {m n : Int} {p q : Nat} (hm : 0 ≤ m ∧ m < 4294967296 ^ p) (hn : 0 ≤ n ∧ n < 4294967296 ^ q) : m * n < 4294967296 ^ (p + q) := by
  rw [Int.pow_add]
  have h1 : m * n ≤ m * 4294967296 ^ q := Int.mul_le_mul_of_nonneg_left (by omega) hm.1
  have h2 : m * 4294967296 ^ q < 4294967296 ^ p * 4294967296 ^ q := Int.mul_lt_mul_of_pos_right hm.2 (ipow_pos (by omega) q)
  omega
theorem Try.infoRat : (Try.prog.info? 26).map (fun i => (i.zero, i.size, i.bytes)) = some (some (.agg #[.slice none 0 0, .slice none 0 0]), 2, 48) := by kernel_rfl

theorem four_kept {w w' : World} {b : Nat} {v1 v2 v3 v4 : Value} (hb : Below w.heap.size w w')
    (h : w.cell? ⟨b, 0, none⟩ = some v1 ∧ w.cell? ⟨b, 1, none⟩ = some v2 ∧ w.cell? ⟨b + 1, 0, none⟩ = some v3 ∧ w.cell? ⟨b + 1, 1, none⟩ = some v4) (hz : b + 2 ≤ w.heap.size) :
    w'.cell? ⟨b, 0, none⟩ = some v1 ∧ w'.cell? ⟨b, 1, none⟩ = some v2 ∧ w'.cell? ⟨b + 1, 0, none⟩ = some v3 ∧ w'.cell? ⟨b + 1, 1, none⟩ = some v4 :=
  ⟨(hb.cell (p := ⟨b, 0, none⟩) (show b < _ by omega)).trans h.1, (hb.cell (p := ⟨b, 1, none⟩) (show b < _ by omega)).trans h.2.1, (hb.cell (p := ⟨b + 1, 0, none⟩) (show b + 1 < _ by omega)).trans h.2.2.1, (hb.cell (p := ⟨b + 1, 1, none⟩) (show b + 1 < _ by omega)).trans h.2.2.2⟩

theorem rcmp_any (v u : Value) (n1 d1 n2 d2 : Int) (b1 b2 L1 L2 : Nat) (w : World) (h1 : Rat w b1 L1 v n1 d1) (h2 : Rat w b2 L2 u n2 d2) (hL : L1 + L2 ≤ 50) :
    Calls Try.prog 14 #[v, u] w fun e w' => e = .returned (.int .i64 (cmpI (n1 * d2) (n2 * d1))) ∧ Below w.heap.size w w' := by
  obtain ⟨a1, l1, c1, z1, a2, l2, c2, z2, rfl, r1, i1, r2, i2, hl1, hl2, _, _⟩ := h1
  obtain ⟨a3, l3, c3, z3, a4, l4, c4, z4, rfl, r3, i3, r4, i4, hl3, hl4, _, _⟩ := h2
  have R1 := Lib.hid r1; have R2 := Lib.hid r2; have R3 := Lib.hid r3; have R4 := Lib.hid r4
  have I1 := Lib.hid i1; have I2 := Lib.hid i2; have I3 := Lib.hid i3; have I4 := Lib.hid i4
  clear r1 r2 r3 r4 i1 i2 i3 i4
  go_enter Try.func14, Try.ntmps14
  go_wp2
  obtain ⟨W0, hW0⟩ : ∃ W0, (w.alloc (Obj.cells #[Value.slice a1 l1 c1, Value.slice a2 l2 c2] 26)).alloc (Obj.cells #[Value.slice a3 l3 c3, Value.slice a4 l4 c4] 26) = W0 := ⟨_, rfl⟩
  have k1 : W0.drew.cell? ⟨w.heap.size, 0, none⟩ = some (.slice a1 l1 c1) := by rw [← hW0]; simp
  have k2 : W0.drew.cell? ⟨w.heap.size, 1, none⟩ = some (.slice a2 l2 c2) := by rw [← hW0]; simp
  have k3 : W0.drew.cell? ⟨w.heap.size + 1, 0, none⟩ = some (.slice a3 l3 c3) := by rw [← hW0]; simp
  have k4 : W0.drew.cell? ⟨w.heap.size + 1, 1, none⟩ = some (.slice a4 l4 c4) := by rw [← hW0]; simp
  have B0 := Lib.hid (show Below w.heap.size w W0.drew by rw [← hW0]; exact (((Below.refl _ _).alloc (Nat.le_refl _) _).alloc (by simp) _).drew)
  have Z0 : w.heap.size + 2 ≤ W0.drew.heap.size := by rw [← hW0]; simp
  have K1 := Lib.hid k1; have K2 := Lib.hid k2; have K3 := Lib.hid k3; have K4 := Lib.hid k4
  rw [hW0]
  clear hW0
  have p1 := lim_pow I1.out (p := L1) (by rw [R1.out.len]; exact hl1)
  have p2 := lim_pow I2.out (p := L1) (by rw [R2.out.len]; exact hl2)
  have p3 := lim_pow I3.out (p := L2) (by rw [R3.out.len]; exact hl3)
  have p4 := lim_pow I4.out (p := L2) (by rw [R4.out.len]; exact hl4)
  have P1 := Lib.hid (lim_mul p1 p4); have P2 := Lib.hid (lim_mul p3 p2)
  clear p1 p2 p3 p4
  have o1 : l1 ≤ 50 := by omega
  have o2 : l2 ≤ 50 := by omega
  have o3 : l3 ≤ 50 := by omega
  have o4 : l4 ≤ 50 := by omega
  go_region_held3 (fun w' => w'.cell? ⟨w.heap.size, 0, none⟩ = some (.slice a1 l1 c1) ∧ w'.cell? ⟨w.heap.size, 1, none⟩ = some (.slice a2 l2 c2) ∧ w'.cell? ⟨w.heap.size + 1, 0, none⟩ = some (.slice a3 l3 c3) ∧ w'.cell? ⟨w.heap.size + 1, 1, none⟩ = some (.slice a4 l4 c4))
    (first | exact ⟨K1.out, K2.out, K3.out, K4.out⟩ | exact four_kept HB3.out (four_kept HB2.out (four_kept HB1.out ⟨K1.out, K2.out, K3.out, K4.out⟩ Z0) Z1) Z2 | exact four_kept HB2.out (four_kept HB1.out ⟨K1.out, K2.out, K3.out, K4.out⟩ Z0) Z1 | exact four_kept HB1.out ⟨K1.out, K2.out, K3.out, K4.out⟩ Z0)
    (first
      | (go_at_call 33; ((with_reducible refine (Mul_any a1 l1 c1 z1 n1 a4 l4 c4 z4 d2 W0.drew (R1.out.below B0.out) I1.out (R4.out.below B0.out) I4.out o1 o4).mono ?_)); rintro e w1 ⟨x1, m1, q1, y1, rfl, hr, hi, hb, _⟩; have HR1 := Lib.hid hr; have HI1 := Lib.hid hi; have HB1 := Lib.hid hb; have Z1 := Nat.le_trans Z0 hb.size; clear hr hi hb)
      | (go_at_call 33; ((with_reducible refine (Mul_any a3 l3 c3 z3 n2 a2 l2 c2 z2 d1 w1 ((R3.out.below B0.out).below HB1.out) I3.out ((R2.out.below B0.out).below HB1.out) I2.out o3 o2).mono ?_)); rintro e w2 ⟨x2, m2, q2, y2, rfl, hr, hi, hb, _⟩; have HR2 := Lib.hid hr; have HI2 := Lib.hid hi; have HB2 := Lib.hid hb; have Z2 := Nat.le_trans Z1 hb.size; clear hr hi hb)
      | (go_at_call 32; refine (Cmp_any x1 m1 q1 y1 (n1 * d2) x2 m2 q2 y2 (n2 * d1) w2 (HR1.out.below HB2.out) HI1.out HR2.out HI2.out (by rw [← HR1.out.len]; exact Nat.le_trans (HI1.out.len_le (by omega) P1.out) hL) (by rw [← HR2.out.len]; exact Nat.le_trans (HI2.out.len_le (by omega) P2.out) (by omega))).mono ?_; rintro e w3 ⟨rfl, hb⟩; have HB3 := Lib.hid hb; clear hb))
  all_goals
    go_wp2
    go_ret
    exact ⟨rfl, below_next (below_next (below_next B0.out HB1.out) HB2.out) HB3.out⟩
end Go.Proofs.Ytenibpnifnlfeaa
