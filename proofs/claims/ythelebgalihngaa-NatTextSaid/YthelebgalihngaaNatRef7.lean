/-
  What the document's numbers give back: Sub, Div: contracts.
-/
import Derived.Test.YthelebgalihngaaNatRef6
namespace Go.Proofs.Ythelebgalihngaa
open Go.RowKit

theorem cmpI_ge {m n : Int} (h : n ≤ m) : 0 ≤ cmpI m n := by
  rcases Int.lt_or_eq_of_le h with g | g
  · rw [cmpI_gt g]; omega
  · rw [cmpI_eq g.symm]; omega
theorem len_ge {B : Int} (hB : 1 < B) {za zb : List Int} {m n : Int} (ha : Is B za m) (hb : Is B zb n) (h : n ≤ m) : zb.length ≤ za.length := by
  rcases Nat.lt_or_ge za.length zb.length with g | g
  · have := len_lt hB ha hb g; omega
  · exact g

/-- a row and an error -/
def GivesE (w : World) (er : Int) (P : List Int → Prop) (e : Ending) (w' : World) : Prop :=
  ∃ a len cap zs, e = .returned (.tuple #[.slice a len cap, .int .i64 er]) ∧ Row .u32 w' a len cap zs ∧ P zs ∧ Below w.heap.size w w' ∧ Fresh w.heap.size a

theorem Sub_lt (a : Option Addr) (la ca : Nat) (za : List Int) (m : Int) (b : Option Addr) (lb cb : Nat) (zb : List Int) (n : Int) (w : World)
    (ha : Row .u32 w a la ca za) (ia : Is 4294967296 za m) (hb : Row .u32 w b lb cb zb) (ib : Is 4294967296 zb n) (la5 : la ≤ 50) (lb5 : lb ≤ 50) (hlt : m < n) :
    Calls Try.prog 12 #[.slice a la ca, .slice b lb cb] w (GivesE w 16 fun r => Is 4294967296 r 0) := by
  have C := Cmp_any a la ca za m b lb cb zb n w ha ia hb ib la5 lb5
  rw [cmpI_lt hlt] at C
  have HC := Lib.hid C
  clear C ha ia hb ib hlt
  go_enter Try.func12, Try.ntmps12
  go_wp2_with fail
  refine HC.out.mono ?_
  rintro e w1 ⟨rfl, hb1⟩
  have HB1 := Lib.hid hb1
  clear hb1
  go_wp2_with fail
  go_ret2
  exact ⟨none, 0, 0, [], rfl, Row.nil, is_nil, HB1.out, Fresh.none⟩

theorem Sub_ge (a : Option Addr) (la ca : Nat) (za : List Int) (m : Int) (b : Option Addr) (lb cb : Nat) (zb : List Int) (n : Int) (w : World)
    (ha : Row .u32 w a la ca za) (ia : Is 4294967296 za m) (hb : Row .u32 w b lb cb zb) (ib : Is 4294967296 zb n) (la5 : la ≤ 50) (lb5 : lb ≤ 50) (hge : n ≤ m) :
    Calls Try.prog 12 #[.slice a la ca, .slice b lb cb] w (GivesE w 0 fun r => Is 4294967296 r (m - n)) := by
  have C := Cmp_any a la ca za m b lb cb zb n w ha ia hb ib la5 lb5
  have HC := Lib.hid C
  have c0 := cmpI_ge hge
  have HA := Lib.hid ha
  have HB := Lib.hid hb
  have IA := Lib.hid ia
  have IB := Lib.hid ib
  have HGE := Lib.hid hge
  have VA := Lib.hid (lim_lt ia (by rw [ha.len]; exact la5))
  have VB := Lib.hid (lim_lt ib (by rw [hb.len]; exact lb5))
  clear C ha hb ia ib hge
  go_enter Try.func12, Try.ntmps12
  go_wp2_with fail
  refine HC.out.mono ?_
  rintro e w0 ⟨rfl, hb0⟩
  have HB0 := Lib.hid hb0
  clear hb0
  go_wp2_with fail
  refine (from_any _ _ _ za _ (HA.out.below HB0.out) IA.out.1 (by omega)).mono ?_
  rintro e w1 ⟨a1, l1, k1, z1, rfl, hr1, hi1, hb1, hf1⟩
  rw [IA.out.2.2] at hi1
  have HL1 := Lib.hid (dig_len hi1 VA.out.2); rw [hr1.len] at HL1
  have HR1 := Lib.hid hr1; have HI1 := Lib.hid hi1; have HB1 := Lib.hid hb1; have HF1 := Lib.hid hf1
  clear hr1 hi1 hb1 hf1
  go_wp2_with fail
  refine (from_any _ _ _ zb _ ((HB.out.below HB0.out).below HB1.out) IB.out.1 (by omega)).mono ?_
  rintro e w2 ⟨a2, l2, k2, z2, rfl, hr2, hi2, hb2, hf2⟩
  rw [IB.out.2.2] at hi2
  have HL2 := Lib.hid (len_ge (by omega) HI1.out hi2 HGE.out); rw [hr2.len, HR1.out.len] at HL2
  have HR2 := Lib.hid hr2; have HI2 := Lib.hid hi2; have HB2 := Lib.hid hb2; have HF2 := Lib.hid hf2
  clear hr2 hi2 hb2 hf2
  go_wp2_with fail
  refine (sub_any _ _ _ z1 _ _ _ z2 _ (HR1.out.below HB2.out) HI1.out.1 HR2.out HI2.out.1 (by have := HL1.out; omega) HL2.out (by rw [HI1.out.2.2, HI2.out.2.2]; exact HGE.out)).mono ?_
  rintro e w3 ⟨a3, l3, k3, z3, rfl, hr3, hi3, hb3, hf3⟩
  rw [HI1.out.2.2, HI2.out.2.2] at hi3
  have HL3 := Lib.hid (dig_len hi3 (by have := VA.out; have := VB.out; omega)); rw [hr3.len] at HL3
  have HR3 := Lib.hid hr3; have HI3 := Lib.hid hi3; have HB3 := Lib.hid hb3; have HF3 := Lib.hid hf3
  clear hr3 hi3 hb3 hf3
  go_wp2_with fail
  refine (limbs_any _ _ _ z3 _ _ HR3.out HI3.out (by have := HL3.out; omega)).mono ?_
  rintro e w4 ⟨a4, l4, k4, z4, rfl, hr4, hi4, hb4, hf4⟩
  have HR4 := Lib.hid hr4; have HI4 := Lib.hid hi4; have HB4 := Lib.hid hb4; have HF4 := Lib.hid hf4
  clear hr4 hi4 hb4 hf4
  go_wp2
  go_ret2
  exact ⟨_, _, _, _, rfl, HR4.out, HI4.out, below_next (below_next (below_next (below_next HB0.out HB1.out) HB2.out) HB3.out) HB4.out, HF4.out.mono (below_next (below_next (below_next HB0.out HB1.out) HB2.out) HB3.out).size⟩

/-- a whole part, what is left, and an error -/
def Quos (w : World) (r er : Int) (P : List Int → Prop) (e : Ending) (w' : World) : Prop :=
  ∃ a len cap zs, e = .returned (.agg #[.slice a len cap, .int .u32 r, .int .i64 er]) ∧ Row .u32 w' a len cap zs ∧ P zs ∧ Below w.heap.size w w' ∧ Fresh w.heap.size a

theorem Div_zero (a : Option Addr) (la ca : Nat) (w : World) :
    Calls Try.prog 14 #[.slice a la ca, .int .u32 0] w (Quos w 0 17 fun r => Is 4294967296 r 0) := by
  go_enter Try.func14, Try.ntmps14
  go_wp2
  refine bodyPost_ret (v := .agg #[.slice none 0 0, .int .u32 0, .int .i64 17]) (by simp [results, Try.results14, go_sem]) rfl ⟨none, 0, 0, [], rfl, Row.nil, is_nil, (Below.refl _ _).alloc (Nat.le_refl _) _, Fresh.none⟩

theorem new_cells {w w1 : World} {o : Array Value} {t : TypeId} (hb : Below (w.heap.size + 1) (w.alloc (.cells o t)) w1) (j : Nat) :
    w1.cell? ⟨w.heap.size, j, none⟩ = o[j]? ∧ w1.frozen? ⟨w.heap.size, j, none⟩ = false := by
  refine ⟨(hb.cell (p := ⟨w.heap.size, j, none⟩) (Nat.lt_succ_self _)).trans (World.cell?_alloc_at _ _ _ _ rfl), (hb.frozen (p := ⟨w.heap.size, j, none⟩) (Nat.lt_succ_self _)).trans ?_⟩
  simp

theorem Div_pos (a : Option Addr) (la ca : Nat) (za : List Int) (m d : Int) (w : World) (ha : Row .u32 w a la ca za) (ia : Is 4294967296 za m) (la5 : la ≤ 50) (d0 : 0 < d) (d1 : d < 4294967296) :
    Calls Try.prog 14 #[.slice a la ca, .int .u32 d] w (Quos w (m % d) 0 fun r => Is 4294967296 r (m / d)) := by
  have HA := Lib.hid ha
  have IA := Lib.hid ia
  have VA := Lib.hid (lim_lt ia (by rw [ha.len]; exact la5))
  have q1 : 0 ≤ m % d := Int.emod_nonneg _ (by omega)
  have q2 : m % d < d := Int.emod_lt_of_pos _ d0
  have Q3 := Lib.hid (show m / d < 10 ^ 500 by have := Int.ediv_le_self d VA.out.1; have := VA.out.2; omega)
  clear ha ia
  go_enter Try.func14, Try.ntmps14
  go_wp2_with fail
  refine (from_any _ _ _ za _ (HA.out.below ((Below.refl _ _).alloc (Nat.le_refl _) _)) IA.out.1 (by omega)).mono ?_
  rintro e w1 ⟨a1, l1, k1, z1, rfl, hr1, hi1, hb1, hf1⟩
  rw [IA.out.2.2] at hi1
  have HL1 := Lib.hid (dig_len hi1 VA.out.2); rw [hr1.len] at HL1
  have HR1 := Lib.hid hr1; have HI1 := Lib.hid hi1; have HB1 := Lib.hid hb1; have HF1 := Lib.hid hf1
  clear hr1 hi1 hb1 hf1
  go_wp2_with fail
  refine (div_any _ _ _ z1 _ _ HR1.out HI1.out.1 (by have := HL1.out; omega) d0 (by omega)).mono ?_
  rintro e w2 ⟨a2, l2, k2, z2, rfl, hr2, hi2, hf2, hb2⟩
  rw [HI1.out.2.2] at hi2 ⊢
  have HL2 := Lib.hid (dig_len hi2 Q3.out); rw [hr2.len] at HL2
  have HR2 := Lib.hid hr2; have HI2 := Lib.hid hi2; have HB2 := Lib.hid hb2; have HF2 := Lib.hid hf2
  clear hr2 hi2 hb2 hf2
  go_wp2_with fail
  refine (limbs_any _ _ _ z2 _ _ HR2.out HI2.out (by have := HL2.out; omega)).mono ?_
  rintro e w3 ⟨a3, l3, k3, z3, rfl, hr3, hi3, hb3, hf3⟩
  have HR3 := Lib.hid hr3; have HI3 := Lib.hid hi3; have HB3 := Lib.hid hb3; have HF3 := Lib.hid hf3
  clear hr3 hi3 hb3 hf3
  have hbx := below_next (below_next HB1.out HB2.out) HB3.out
  have HBX := Lib.hid hbx
  have hbx' : Below (w.heap.size + 1) (w.alloc (Obj.cells #[Value.slice none 0 0, Value.int IntKind.u32 0, Value.int IntKind.i64 0] 32)) w3 := by
    have e : (w.alloc (Obj.cells #[Value.slice none 0 0, Value.int IntKind.u32 0, Value.int IntKind.i64 0] 32)).heap.size = w.heap.size + 1 := by simp
    rw [← e]; exact hbx
  have ⟨c0, f0⟩ := new_cells hbx' 0
  have ⟨c1, f1⟩ := new_cells hbx' 1
  have ⟨c2, f2⟩ := new_cells hbx' 2
  have hsz : w.heap.size < w3.heap.size := by have := hbx'.size; simp at this; omega
  have HY := Lib.hid hbx'
  clear hbx hbx'
  go_wp2
  have hsz2 : w.heap.size + 1 ≤ w2.heap.size := by
    have h1 := (below_next HB1.out HB2.out).size
    simp at h1; omega
  have hne : ∀ ad : Addr, a3 = some ad → ad.block ≠ w.heap.size := fun ad e => by have := HF3.out ad e; omega
  refine bodyPost_ret (v := .agg #[.slice a3 l3 k3, .int .u32 (m % d), .int .i64 0]) (by simp [results, Try.results14, go_sem, c0, c1, c2]) rfl ⟨a3, l3, k3, z3, rfl, ?_, HI3.out, ?_, HF3.out.mono (by omega)⟩
  · exact ((HR3.out.setCell _ _ hne).setCell _ _ hne).setCell _ _ hne
  · exact (((((Below.refl w.heap.size w).alloc (Nat.le_refl _) _).trans (HY.out.mono (Nat.le_succ _))).setCell (Nat.le_refl _) _).setCell (Nat.le_refl _) _).setCell (Nat.le_refl _) _
end Go.Proofs.Ythelebgalihngaa
