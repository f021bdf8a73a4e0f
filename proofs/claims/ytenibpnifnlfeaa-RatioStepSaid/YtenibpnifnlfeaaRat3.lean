/-
  What the document's Of, Check and gcd, and the laws' same, give back of ratios: contracts.
-/
import Derived.Test.YtenibpnifnlfeaaRat2
namespace Go.Proofs.Ytenibpnifnlfeaa
open Go.RowKit

theorem two_boxes (w : World) (x y : Array Value) (t1 t2 : TypeId) :
    (∀ j, ((w.alloc (.cells x t1)).alloc (.cells y t2)).cell? ⟨w.heap.size, j, none⟩ = x[j]?) ∧
    (∀ j, ((w.alloc (.cells x t1)).alloc (.cells y t2)).cell? ⟨w.heap.size + 1, j, none⟩ = y[j]?) ∧
    (∀ j, ((w.alloc (.cells x t1)).alloc (.cells y t2)).frozen? ⟨w.heap.size + 1, j, none⟩ = false) ∧
    Below w.heap.size w ((w.alloc (.cells x t1)).alloc (.cells y t2)) ∧
    ((w.alloc (.cells x t1)).alloc (.cells y t2)).heap.size = w.heap.size + 2 := by
  have s1 := size_alloc w (.cells x t1)
  have s2 := size_alloc (w.alloc (.cells x t1)) (.cells y t2)
  refine ⟨fun j => ?_, fun j => ?_, fun j => ?_, ?_, by omega⟩
  · rw [cell_old _ _ (show w.heap.size < _ by omega)]
    exact World.cell?_alloc_at _ _ _ _ rfl
  · rw [← s1]
    exact World.cell?_alloc_at _ _ _ _ rfl
  · rw [← s1]
    exact free_new _ _ _ _
  · exact ((Below.refl _ _).alloc (Nat.le_refl _) _).alloc (by omega) _

theorem one_limb {zs : List Int} {n : Int} (h : Is 4294967296 zs n) (hn : n < 4294967296) : zs.length ≤ 1 := h.len_le (by omega) (by simpa using hn)

theorem pair_kept {w w' : World} {b : Nat} {v1 v2 : Value} (hb : Below w.heap.size w w') (h : w.cell? ⟨b, 0, none⟩ = some v1 ∧ w.cell? ⟨b, 1, none⟩ = some v2) (hz : b < w.heap.size) :
    w'.cell? ⟨b, 0, none⟩ = some v1 ∧ w'.cell? ⟨b, 1, none⟩ = some v2 :=
  ⟨(hb.cell (p := ⟨b, 0, none⟩) hz).trans h.1, (hb.cell (p := ⟨b, 1, none⟩) hz).trans h.2⟩
theorem pair_kept2 {w : World} {b o1 o2 : Nat} {v1 v2 u1 u2 : Value} (h : w.cell? ⟨b, 0, none⟩ = some v1 ∧ w.cell? ⟨b, 1, none⟩ = some v2) :
    ((w.setCell ⟨b + 1, o1, none⟩ u1).setCell ⟨b + 1, o2, none⟩ u2).cell? ⟨b, 0, none⟩ = some v1 ∧ ((w.setCell ⟨b + 1, o1, none⟩ u1).setCell ⟨b + 1, o2, none⟩ u2).cell? ⟨b, 1, none⟩ = some v2 := by
  have e : ((w.setCell ⟨b + 1, o1, none⟩ u1).setCell ⟨b + 1, o2, none⟩ u2).heap[b]? = w.heap[b]? := by
    rw [Below.heap_setCell _ _ _ _ (by simp), Below.heap_setCell _ _ _ _ (by simp)]
  exact ⟨(World.cell?_of_block (w := w) e).trans h.1, (World.cell?_of_block (w := w) e).trans h.2⟩

theorem rof_any (E P : Int) (w : World) (e0 : 0 ≤ E) (e1 : E < 4294967296) (p0 : 0 ≤ P) (p1 : P < 4294967296) :
    Calls Try.prog 29 #[.agg #[.int .i64 E, .int .i64 P]] w (GivesR w 1 E P) := by
  have E9 : E ≤ 18446744073709551615 := by omega
  have P9 : P ≤ 18446744073709551615 := by omega
  have x1 : IntKind.u64.wrap E = E := IntWalk.u64_in _ (by omega)
  have x2 : IntKind.u64.wrap P = P := IntWalk.u64_in _ (by omega)
  go_enter Try.func29, Try.ntmps29
  go_wp2
  obtain ⟨W0, hW0⟩ : ∃ W0, (w.alloc (Obj.cells #[Value.int .i64 E, Value.int .i64 P] 51)).alloc (Obj.cells #[Value.slice none 0 0, Value.slice none 0 0] 26) = W0 := ⟨_, rfl⟩
  have BX := two_boxes w #[Value.int .i64 E, Value.int .i64 P] #[Value.slice none 0 0, Value.slice none 0 0] 51 26
  rw [hW0] at BX
  have k1 : W0.drew.cell? ⟨w.heap.size, 0, none⟩ = some (.int .i64 E) := BX.1 0
  have k2 : W0.drew.cell? ⟨w.heap.size, 1, none⟩ = some (.int .i64 P) := BX.1 1
  have B0 := Lib.hid (show Below w.heap.size w W0.drew from BX.2.2.2.1.drew)
  have SZ : W0.drew.heap.size = w.heap.size + 2 := BX.2.2.2.2
  have Z0 : w.heap.size < W0.drew.heap.size := by omega
  have Y0 := Lib.hid (show w.heap.size + 1 < W0.drew.heap.size by omega)
  have X0 := Lib.hid (show W0.drew.cell? ⟨w.heap.size + 1, 0, none⟩ = some (.slice none 0 0) from BX.2.1 0)
  have X1 := Lib.hid (show W0.drew.cell? ⟨w.heap.size + 1, 1, none⟩ = some (.slice none 0 0) from BX.2.1 1)
  have X2 := Lib.hid (show W0.drew.frozen? ⟨w.heap.size + 1, 0, none⟩ = false from BX.2.2.1 0)
  have X3 := Lib.hid (show W0.drew.frozen? ⟨w.heap.size + 1, 1, none⟩ = false from BX.2.2.1 1)
  have K1 := Lib.hid k1; have K2 := Lib.hid k2
  clear BX SZ
  rw [hW0]
  clear hW0
  go_region_held3 (fun w' => w'.cell? ⟨w.heap.size, 0, none⟩ = some (.int .i64 E) ∧ w'.cell? ⟨w.heap.size, 1, none⟩ = some (.int .i64 P))
    (first | exact ⟨K1.out, K2.out⟩ | exact pair_kept2 (pair_kept HB2.out (pair_kept HB1.out ⟨K1.out, K2.out⟩ Z0) Z1) | exact pair_kept HB2.out (pair_kept HB1.out ⟨K1.out, K2.out⟩ Z0) Z1 | exact pair_kept HB1.out ⟨K1.out, K2.out⟩ Z0)
    (first
      | (go_at_call 19; ((with_reducible refine (of_any E W0.drew e0 E9).mono ?_)); rintro e w1 ⟨a1, l1, c1, z1, rfl, hr, hi, hb, hf⟩; have HR1 := Lib.hid hr; have HI1 := Lib.hid hi; have HB1 := Lib.hid hb; have HF1 := Lib.hid hf; have Z1 := Nat.lt_of_lt_of_le Z0 hb.size; clear hr hi hb hf)
      | (go_at_call 19; ((with_reducible refine (of_any P w1 p0 P9).mono ?_)); rintro e w2 ⟨a2, l2, c2, z2, rfl, hr, hi, hb, hf⟩; have HR2 := Lib.hid hr; have HI2 := Lib.hid hi; have HB2 := Lib.hid hb; have HF2 := Lib.hid hf; have BB := Lib.hid (below_next HB1.out hb); have s0 := (BB.out.cell (p := ⟨w.heap.size + 1, 0, none⟩) Y0.out).trans X0.out; have s1 := (BB.out.cell (p := ⟨w.heap.size + 1, 1, none⟩) Y0.out).trans X1.out; have s2 := (BB.out.frozen (p := ⟨w.heap.size + 1, 0, none⟩) Y0.out).trans X2.out; have s3 := (BB.out.frozen (p := ⟨w.heap.size + 1, 1, none⟩) Y0.out).trans X3.out; clear hr hi hb hf))
  all_goals
    go_wp2
    have hn1 : ∀ ad : Addr, a1 = some ad → ad.block ≠ w.heap.size + 1 := fun ad e => by have h1 := HF1.out ad e; have := Y0.out; omega
    have hn2 : ∀ ad : Addr, a2 = some ad → ad.block ≠ w.heap.size + 1 := fun ad e => by have h1 := HF2.out ad e; have h2 := HB1.out.size; have := Y0.out; omega
    refine bodyPost_ret (v := .agg #[.slice a1 l1 c1, .slice a2 l2 c2]) (by simp [results, Try.results29, go_sem, s0, s1]) rfl ⟨_, rfl, ⟨a1, l1, c1, z1, a2, l2, c2, z2, rfl, ?_, HI1.out, ?_, HI2.out, ?_, ?_, ?_, ?_⟩, ?_⟩
    · exact ((HR1.out.below HB2.out).setCell _ _ hn1).setCell _ _ hn1
    · exact (HR2.out.setCell _ _ hn2).setCell _ _ hn2
    · rw [← HR1.out.len]; exact one_limb HI1.out e1
    · rw [← HR2.out.len]; exact one_limb HI2.out p1
    · exact HF1.out.mono (by have := Y0.out; omega)
    · exact HF2.out.mono (by have := HB1.out.size; have := Y0.out; omega)
    · exact ((below_next B0.out BB.out).setCell (show w.heap.size ≤ w.heap.size + 1 by omega) _).setCell (show w.heap.size ≤ w.heap.size + 1 by omega) _
end Go.Proofs.Ytenibpnifnlfeaa
