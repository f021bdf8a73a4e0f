/-
  What the document's Plus of ratios gives back: contract.
-/
import Derived.Test.YtenibpnifnlfeaaRat1
namespace Go.Proofs.Ytenibpnifnlfeaa
open Go.RowKit

theorem cell_old (w : World) (o : Obj) {p : Addr} (h : p.block < w.heap.size) : (w.alloc o).cell? p = w.cell? p := ((Below.refl w.heap.size w).alloc (Nat.le_refl _) o).cell (p := p) h
theorem free_new (w : World) (x : Array Value) (t : TypeId) (j : Nat) : (w.alloc (.cells x t)).frozen? ⟨w.heap.size, j, none⟩ = false := by simp
theorem size_alloc (w : World) (o : Obj) : (w.alloc o).heap.size = w.heap.size + 1 := by simp
theorem three_boxes (w : World) (x y z : Array Value) (t1 t2 t3 : TypeId) :
    (∀ j, (((w.alloc (.cells x t1)).alloc (.cells y t2)).alloc (.cells z t3)).cell? ⟨w.heap.size, j, none⟩ = x[j]?) ∧
    (∀ j, (((w.alloc (.cells x t1)).alloc (.cells y t2)).alloc (.cells z t3)).cell? ⟨w.heap.size + 1, j, none⟩ = y[j]?) ∧
    (∀ j, (((w.alloc (.cells x t1)).alloc (.cells y t2)).alloc (.cells z t3)).cell? ⟨w.heap.size + 2, j, none⟩ = z[j]?) ∧
    (∀ j, (((w.alloc (.cells x t1)).alloc (.cells y t2)).alloc (.cells z t3)).frozen? ⟨w.heap.size + 2, j, none⟩ = false) ∧
    Below w.heap.size w (((w.alloc (.cells x t1)).alloc (.cells y t2)).alloc (.cells z t3)) ∧
    (((w.alloc (.cells x t1)).alloc (.cells y t2)).alloc (.cells z t3)).heap.size = w.heap.size + 3 := by
  have s1 := size_alloc w (.cells x t1)
  have s2 := size_alloc (w.alloc (.cells x t1)) (.cells y t2)
  have s3 := size_alloc ((w.alloc (.cells x t1)).alloc (.cells y t2)) (.cells z t3)
  refine ⟨fun j => ?_, fun j => ?_, fun j => ?_, fun j => ?_, ?_, by omega⟩
  · rw [cell_old _ _ (show w.heap.size < _ by omega), cell_old _ _ (show w.heap.size < _ by omega)]
    exact World.cell?_alloc_at _ _ _ _ rfl
  · rw [cell_old _ _ (show w.heap.size + 1 < _ by omega), ← s1]
    exact World.cell?_alloc_at _ _ _ _ rfl
  · rw [show w.heap.size + 2 = ((w.alloc (.cells x t1)).alloc (.cells y t2)).heap.size by omega]
    exact World.cell?_alloc_at _ _ _ _ rfl
  · rw [show w.heap.size + 2 = ((w.alloc (.cells x t1)).alloc (.cells y t2)).heap.size by omega]
    exact free_new _ _ _ _
  · exact (((Below.refl _ _).alloc (Nat.le_refl _) _).alloc (by omega) _).alloc (by omega) _

theorem rplus_any (v u : Value) (n1 d1 n2 d2 : Int) (b1 b2 L1 L2 : Nat) (w : World) (h1 : Rat w b1 L1 v n1 d1) (h2 : Rat w b2 L2 u n2 d2) (hL : L1 + L2 ≤ 50) :
    Calls Try.prog 18 #[v, u] w (GivesR w (L1 + L2 + 1) (n1 * d2 + n2 * d1) (d1 * d2)) := by
  obtain ⟨a1, l1, c1, z1, a2, l2, c2, z2, rfl, r1, i1, r2, i2, hl1, hl2, _, _⟩ := h1
  obtain ⟨a3, l3, c3, z3, a4, l4, c4, z4, rfl, r3, i3, r4, i4, hl3, hl4, _, _⟩ := h2
  have R1 := Lib.hid r1; have R2 := Lib.hid r2; have R3 := Lib.hid r3; have R4 := Lib.hid r4
  have I1 := Lib.hid i1; have I2 := Lib.hid i2; have I3 := Lib.hid i3; have I4 := Lib.hid i4
  clear r1 r2 r3 r4 i1 i2 i3 i4
  go_enter Try.func18, Try.ntmps18
  go_wp2
  obtain ⟨W0, hW0⟩ : ∃ W0, ((w.alloc (Obj.cells #[Value.slice a1 l1 c1, Value.slice a2 l2 c2] 26)).alloc (Obj.cells #[Value.slice a3 l3 c3, Value.slice a4 l4 c4] 26)).alloc (Obj.cells #[Value.slice none 0 0, Value.slice none 0 0] 26) = W0 := ⟨_, rfl⟩
  have BX := three_boxes w #[Value.slice a1 l1 c1, Value.slice a2 l2 c2] #[Value.slice a3 l3 c3, Value.slice a4 l4 c4] #[Value.slice none 0 0, Value.slice none 0 0] 26 26 26
  rw [hW0] at BX
  have k1 : W0.drew.cell? ⟨w.heap.size, 0, none⟩ = some (.slice a1 l1 c1) := BX.1 0
  have k2 : W0.drew.cell? ⟨w.heap.size, 1, none⟩ = some (.slice a2 l2 c2) := BX.1 1
  have k3 : W0.drew.cell? ⟨w.heap.size + 1, 0, none⟩ = some (.slice a3 l3 c3) := BX.2.1 0
  have k4 : W0.drew.cell? ⟨w.heap.size + 1, 1, none⟩ = some (.slice a4 l4 c4) := BX.2.1 1
  have B0 := Lib.hid (show Below w.heap.size w W0.drew from BX.2.2.2.2.1.drew)
  have SZ : W0.drew.heap.size = w.heap.size + 3 := BX.2.2.2.2.2
  have Z0 : w.heap.size + 2 ≤ W0.drew.heap.size := by omega
  have Y0 := Lib.hid (show w.heap.size + 2 < W0.drew.heap.size by omega)
  have X0 := Lib.hid (show W0.drew.cell? ⟨w.heap.size + 2, 0, none⟩ = some (.slice none 0 0) from BX.2.2.1 0)
  have X1 := Lib.hid (show W0.drew.cell? ⟨w.heap.size + 2, 1, none⟩ = some (.slice none 0 0) from BX.2.2.1 1)
  have X2 := Lib.hid (show W0.drew.frozen? ⟨w.heap.size + 2, 0, none⟩ = false from BX.2.2.2.1 0)
  have X3 := Lib.hid (show W0.drew.frozen? ⟨w.heap.size + 2, 1, none⟩ = false from BX.2.2.2.1 1)
  clear BX SZ
  have K1 := Lib.hid k1; have K2 := Lib.hid k2; have K3 := Lib.hid k3; have K4 := Lib.hid k4
  rw [hW0]
  clear hW0
  have p1 := lim_pow I1.out (p := L1) (by rw [R1.out.len]; exact hl1)
  have p2 := lim_pow I2.out (p := L1) (by rw [R2.out.len]; exact hl2)
  have p3 := lim_pow I3.out (p := L2) (by rw [R3.out.len]; exact hl3)
  have p4 := lim_pow I4.out (p := L2) (by rw [R4.out.len]; exact hl4)
  have P1 := Lib.hid (lim_mul p1 p4); have P2 := Lib.hid (lim_mul p3 p2); have P3 := Lib.hid (lim_mul p2 p4)
  clear p1 p2 p3 p4
  have o1 : l1 ≤ 50 := by omega
  have o2 : l2 ≤ 50 := by omega
  have o3 : l3 ≤ 50 := by omega
  have o4 : l4 ≤ 50 := by omega
  go_region_held3 (fun w' => w'.cell? ⟨w.heap.size, 0, none⟩ = some (.slice a1 l1 c1) ∧ w'.cell? ⟨w.heap.size, 1, none⟩ = some (.slice a2 l2 c2) ∧ w'.cell? ⟨w.heap.size + 1, 0, none⟩ = some (.slice a3 l3 c3) ∧ w'.cell? ⟨w.heap.size + 1, 1, none⟩ = some (.slice a4 l4 c4))
    (first | exact ⟨K1.out, K2.out, K3.out, K4.out⟩ | exact four_kept HB3.out (four_kept HB2.out (four_kept HB1.out ⟨K1.out, K2.out, K3.out, K4.out⟩ Z0) Z1) Z2 | exact four_kept HB2.out (four_kept HB1.out ⟨K1.out, K2.out, K3.out, K4.out⟩ Z0) Z1 | exact four_kept HB1.out ⟨K1.out, K2.out, K3.out, K4.out⟩ Z0)
    (first
      | (go_at_call 33; ((with_reducible refine (Mul_any a1 l1 c1 z1 n1 a4 l4 c4 z4 d2 W0.drew (R1.out.below B0.out) I1.out (R4.out.below B0.out) I4.out o1 o4).mono ?_)); rintro e w1 ⟨x1, m1, q1, y1, rfl, hr, hi, hb, _⟩; have HR1 := Lib.hid hr; have HI1 := Lib.hid hi; have HB1 := Lib.hid hb; have Z1 := Nat.le_trans Z0 hb.size; clear hr hi hb)
      | (go_at_call 33; ((with_reducible refine (Mul_any a3 l3 c3 z3 n2 a2 l2 c2 z2 d1 w1 ((R3.out.below B0.out).below HB1.out) I3.out ((R2.out.below B0.out).below HB1.out) I2.out o3 o2).mono ?_)); rintro e w2 ⟨x2, m2, q2, y2, rfl, hr, hi, hb, _⟩; have HR2 := Lib.hid hr; have HI2 := Lib.hid hi; have HB2 := Lib.hid hb; have Z2 := Nat.le_trans Z1 hb.size; clear hr hi hb)
      | (go_at_call 39; refine (Add_any x1 m1 q1 y1 (n1 * d2) x2 m2 q2 y2 (n2 * d1) w2 (HR1.out.below HB2.out) HI1.out HR2.out HI2.out (by rw [← HR1.out.len]; exact Nat.le_trans (HI1.out.len_le (by omega) P1.out) hL) (by rw [← HR2.out.len]; exact Nat.le_trans (HI2.out.len_le (by omega) P2.out) (by omega))).mono ?_; rintro e w3 ⟨x3, m3, q3, y3, rfl, hr, hi, hb, hf⟩; have HR3 := Lib.hid hr; have HI3 := Lib.hid hi; have HB3 := Lib.hid hb; have HF3 := Lib.hid hf; have Z3 := Nat.le_trans Z2 hb.size; clear hr hi hb hf))
  all_goals
    have FK := Lib.hid (four_kept HB3.out (four_kept HB2.out (four_kept HB1.out ⟨K1.out, K2.out, K3.out, K4.out⟩ Z0) Z1) Z2)
    have g2 := FK.out.2.1
    have g4 := FK.out.2.2.2
    have BB := Lib.hid (below_next (below_next HB1.out HB2.out) HB3.out)
    go_wp2_with fail
    refine (Mul_any a2 l2 c2 z2 d1 a4 l4 c4 z4 d2 w3 ((R2.out.below B0.out).below BB.out) I2.out ((R4.out.below B0.out).below BB.out) I4.out o2 o4).mono ?_
    rintro e w4 ⟨x4, m4, q4, y4, rfl, hr, hi, hb, hf⟩
    have HR4 := Lib.hid hr; have HI4 := Lib.hid hi; have HB4 := Lib.hid hb; have HF4 := Lib.hid hf
    clear hr hi hb hf g2 g4
    have BC := Lib.hid (below_next BB.out HB4.out)
    have s0 := (BC.out.cell (p := ⟨w.heap.size + 2, 0, none⟩) Y0.out).trans X0.out
    have s1 := (BC.out.cell (p := ⟨w.heap.size + 2, 1, none⟩) Y0.out).trans X1.out
    have s2 := (BC.out.frozen (p := ⟨w.heap.size + 2, 0, none⟩) Y0.out).trans X2.out
    have s3 := (BC.out.frozen (p := ⟨w.heap.size + 2, 1, none⟩) Y0.out).trans X3.out
    go_wp2
    have hn3 : ∀ ad : Addr, x3 = some ad → ad.block ≠ w.heap.size + 2 := fun ad e => by have h1 := HF3.out ad e; have h2 := (below_next HB1.out HB2.out).size; have := Y0.out; omega
    have hn4 : ∀ ad : Addr, x4 = some ad → ad.block ≠ w.heap.size + 2 := fun ad e => by have h1 := HF4.out ad e; have h2 := BB.out.size; have := Y0.out; omega
    refine bodyPost_ret (v := .agg #[.slice x3 m3 q3, .slice x4 m4 q4]) (by simp [results, Try.results18, go_sem, s0, s1]) rfl ⟨_, rfl, ⟨x3, m3, q3, y3, x4, m4, q4, y4, rfl, ?_, HI3.out, ?_, HI4.out, ?_, ?_, ?_, ?_⟩, ?_⟩
    · exact ((HR3.out.below HB4.out).setCell _ _ hn3).setCell _ _ hn3
    · exact (HR4.out.setCell _ _ hn4).setCell _ _ hn4
    · rw [← HR3.out.len]; exact lim_add HI3.out P1.out (Nat.add_comm L2 L1 ▸ P2.out)
    · rw [← HR4.out.len]; exact Nat.le_trans (HI4.out.len_le (by omega) P3.out) (by omega)
    · exact HF3.out.mono (by have h2 := (below_next HB1.out HB2.out).size; have := Y0.out; omega)
    · exact HF4.out.mono (by have h2 := BB.out.size; have := Y0.out; omega)
    · exact ((below_next B0.out BC.out).setCell (show w.heap.size ≤ w.heap.size + 2 by omega) _).setCell (show w.heap.size ≤ w.heap.size + 2 by omega) _
end Go.Proofs.Ytenibpnifnlfeaa
