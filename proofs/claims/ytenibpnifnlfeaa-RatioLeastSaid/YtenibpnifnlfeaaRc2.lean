/-
  RatioLeast: the walk.
-/
import Derived.Test.YtenibpnifnlfeaaRq6
namespace Go.Proofs.Ytenibpnifnlfeaa
open Go.RowKit

def Box3 (W : World) (T : TypeId) (g : Nat) (x y z : Value) : Prop := W.heap[g]? = some (.cells #[x, y, z] T (0, 0))
theorem Box3.below {W W' : World} {T : TypeId} {g : Nat} {x y z : Value} (h : Box3 W T g x y z) (hb : Below W.heap.size W W') : Box3 W' T g x y z := (hb.block g (lt_of_block h)).trans h
theorem Box3.c0 {W : World} {T : TypeId} {g : Nat} {x y z : Value} (h : Box3 W T g x y z) : W.cell? ⟨g, 0, none⟩ = some x := block_cell h
theorem Box3.c1 {W : World} {T : TypeId} {g : Nat} {x y z : Value} (h : Box3 W T g x y z) : W.cell? ⟨g, 1, none⟩ = some y := block_cell h
theorem Box3.c2 {W : World} {T : TypeId} {g : Nat} {x y z : Value} (h : Box3 W T g x y z) : W.cell? ⟨g, 2, none⟩ = some z := block_cell h
theorem Box3.drew {W : World} {T : TypeId} {g : Nat} {x y z : Value} (h : Box3 W T g x y z) : Box3 W.drew T g x y z := h
theorem Box3.new (W : World) (T : TypeId) (x y z : Value) : Box3 (W.alloc (.cells #[x, y, z] T)) T W.heap.size x y z := heap_alloc_new _ _
theorem rleast_is (N D : Int) (b : Bool) (w : World) (n0 : 0 ≤ N) (n1 : N < 4294967296) (d0 : 0 < D) (d1 : D < 4294967296) :
    Calls Try.prog 22 #[.agg #[.int .u64 N, .int .u64 D, .bool b]] w fun e w' => e = .returned (.agg #[.int .u64 (N / gc N D), .int .u64 (D / gc N D), .bool b]) ∧ Below w.heap.size w w' := by
  obtain ⟨x, rfl⟩ := Int.eq_ofNat_of_zero_le n0
  obtain ⟨y, rfl⟩ := Int.eq_ofNat_of_zero_le (show 0 ≤ D by omega)
  rw [gc_nat, ← Int.natCast_ediv, ← Int.natCast_ediv]
  exact rleast_any x y b w (by omega) (by omega) (by omega)
theorem rsame_yes (v u : Value) (n d : Int) (b1 b2 L1 L2 : Nat) (w : World) (h1 : Rat w b1 L1 v n d) (h2 : Rat w b2 L2 u n d) :
    Calls Try.prog 25 #[v, u] w fun e w' => e = .returned (.bool true) ∧ Below w.heap.size w w' := by
  obtain ⟨a1, l1, c1, z1, a2, l2, c2, z2, rfl, r1, i1, r2, i2, _, _, _, _⟩ := h1
  obtain ⟨a3, l3, c3, z3, a4, l4, c4, z4, rfl, r3, i3, r4, i4, _, _, _, _⟩ := h2
  exact rsame_any a1 l1 c1 z1 a2 l2 c2 z2 a3 l3 c3 z3 a4 l4 c4 z4 w r1 r2 r3 r4 true ⟨fun _ => ⟨is_unique (by omega) i1 i3, is_unique (by omega) i2 i4⟩, fun _ => rfl⟩
theorem one_len {k : IntKind} {W : World} {a : Option Addr} {l c : Nat} {z : List Int} {d : Int} (hr : Row k W a l c z) (hi : Is 4294967296 z d) (d0 : 0 < d) (d1 : d < 4294967296) : l = 1 := by
  have h1 := one_limb hi d1
  have h2 := List.length_pos_iff.mpr (is_some hi d0)
  rw [hr.len] at h1 h2
  omega

set_option maxHeartbeats 4000000 in
theorem least_core (n d : Int) (w : World) (n0 : 0 ≤ n) (n1 : n < 4294967296) (d0 : 0 ≤ d) (d1 : d < 4294967296) :
    Calls Try.prog 4 #[.int .u32 n, .int .u32 d] w fun e w' => e = .returned (.bool true) ∧ Below w.heap.size w w' := by
  go_enter Try.func4, Try.ntmps4
  go_wp2_with fail
  refine (qawake_any w).mono ?_
  rintro e w1 ⟨rfl, hb⟩
  have B1 := Lib.hid hb
  clear hb
  by_cases dz : d = 0
  · subst dz
    have _u := n0
    have LE := Lib.hid (lo_least n0 (show 0 < 1 by omega))
    have gg := gc_pos (a := n) (show 0 < 1 by omega)
    obtain ⟨N, hN⟩ : ∃ N, n / gc n 1 = N := ⟨_, rfl⟩
    obtain ⟨M, hM⟩ : ∃ M, 1 / gc n 1 = M := ⟨_, rfl⟩
    have N0 : 0 ≤ N := by rw [← hN]; exact Int.ediv_nonneg n0 (by omega)
    have N1 : N < 4294967296 := by rw [← hN]; have := Int.ediv_le_self (b := gc n 1) n0; omega
    have M1 : M < 4294967296 := by rw [← hM]; have := Int.ediv_le_self (a := 1) (b := gc n 1) (by omega); omega
    rw [hN, hM] at LE
    have M0 : 0 < M := LE.out.1.2.1
    have GCL := Lib.hid LE.out.1.2.2
    obtain ⟨dn, hdn⟩ := dec_of N0
    obtain ⟨dd, hdd⟩ := dec_of (show 0 ≤ M by omega)
    have DN := Lib.hid hdn; have DM := Lib.hid hdd
    have FN := Lib.hid hN; have FM := Lib.hid hM
    clear hN hM hdn hdd gg
    go_wp2_with fail
    refine (of_any n w1 n0 (by omega)).mono ?_
    rintro e w2 ⟨a1, l1, c1, z1, rfl, hr, hi, hb, _⟩
    have R1 := Lib.hid hr; have I1 := Lib.hid hi; have B2 := Lib.hid (below_next B1.out hb)
    have hl1 : l1 ≤ 1 := by rw [← hr.len]; exact one_limb hi n1
    clear hr hi hb
    go_wp2_with fail
    refine (of_any 1 w2 (by omega) (by omega)).mono ?_
    rintro e w3 ⟨a2, l2, c2, z2, rfl, hr, hi, hb, _⟩
    obtain rfl := one_len hr hi (by omega) (by omega)
    have R2 := Lib.hid hr; have I2 := Lib.hid hi; have R1' := Lib.hid (R1.out.below hb); have B3 := Lib.hid (below_next B2.out hb)
    clear hr hi hb R1
    go_wp2_with fail
    obtain ⟨W4, hW4⟩ : ∃ W, w3.alloc (Obj.cells #[Value.slice a1 l1 c1, Value.slice a2 1 c2] 26) = W := ⟨_, rfl⟩
    obtain ⟨ga, hga⟩ : ∃ g, w3.heap.size = g := ⟨_, rfl⟩
    have NBA := Lib.hid (show Below w3.heap.size w3 W4 by rw [← hW4]; exact below_box _ _)
    have BA := Lib.hid (show Box W4 26 ga (Value.slice a1 l1 c1) (Value.slice a2 1 c2) by rw [← hW4, ← hga]; exact Box.new _ _ _ _)
    rw [hW4, hga]
    clear hW4 hga
    have B4 := Lib.hid (below_next B3.out NBA.out)
    have P1 := Lib.hid (R1'.out.below NBA.out); have P2 := Lib.hid (R2.out.below NBA.out)
    have QA := Lib.hid (show Rat W4 0 1 (.agg #[.slice a1 l1 c1, .slice a2 1 c2]) n 1 from ⟨a1, l1, c1, z1, a2, 1, c2, z2, rfl, P1.out, I1.out, P2.out, I2.out, hl1, Nat.le_refl _, fresh0 _, fresh0 _⟩)
    clear R1' R2 NBA
    refine (least_any _ n 1 0 1 W4 QA.out (by omega) (by omega)).mono ?_
    rintro e w5 ⟨_, rfl, ⟨a3, l3, c3, z3, a4, l4, c4, z4, rfl, q1, q2, q3, q4, q5, q6, _, _⟩, hb⟩
    rw [FN.out] at q2
    rw [FM.out] at q4
    obtain rfl := one_len q3 q4 M0 M1
    have P3 := Lib.hid q1; have I3 := Lib.hid q2; have P4 := Lib.hid q3; have I4 := Lib.hid q4
    have BA5 := Lib.hid (BA.out.below hb); have B5 := Lib.hid (below_next B4.out hb); have QA5 := Lib.hid (QA.out.below hb); have P15 := Lib.hid (P1.out.below hb); have P25 := Lib.hid (P2.out.below hb)
    clear q1 q2 q3 q4 hb BA QA P1 P2
    go_wp2_with fail
    obtain ⟨W6, hW6⟩ : ∃ W, w5.alloc (Obj.cells #[Value.slice a3 l3 c3, Value.slice a4 1 c4] 26) = W := ⟨_, rfl⟩
    obtain ⟨gl, hgl⟩ : ∃ g, w5.heap.size = g := ⟨_, rfl⟩
    have NBL := Lib.hid (show Below w5.heap.size w5 W6 by rw [← hW6]; exact below_box _ _)
    have BL := Lib.hid (show Box W6 26 gl (Value.slice a3 l3 c3) (Value.slice a4 1 c4) by rw [← hW6, ← hgl]; exact Box.new _ _ _ _)
    rw [hW6, hgl]
    clear hW6 hgl
    have B6 := Lib.hid (below_next B5.out NBL.out); have BA6 := Lib.hid (BA5.out.below NBL.out); have QA6 := Lib.hid (QA5.out.below NBL.out)
    have P36 := Lib.hid (P3.out.below NBL.out); have P46 := Lib.hid (P4.out.below NBL.out); have P16 := Lib.hid (P15.out.below NBL.out); have P26 := Lib.hid (P25.out.below NBL.out)
    clear P3 P4 P15 P25 BA5 QA5 NBL
    refine (little_any a3 l3 c3 z3 N a4 c4 z4 M W6 P36.out I3.out P46.out I4.out q5).mono ?_
    rintro e w7 ⟨rfl, hb⟩
    have B7 := Lib.hid (below_next B6.out hb); have BA7 := Lib.hid (BA6.out.below hb); have BL7 := Lib.hid (BL.out.below hb); have QA7 := Lib.hid (QA6.out.below hb)
    have P37 := Lib.hid (P36.out.below hb); have P47 := Lib.hid (P46.out.below hb); have P17 := Lib.hid (P16.out.below hb); have P27 := Lib.hid (P26.out.below hb)
    clear hb P36 P46 P16 P26 BA6 BL QA6
    have u0 := BA7.out.c0; have u1 := BA7.out.c1
    have u2 := lt_of_block BA7.out
    have u3 : ga ≠ w7.heap.size := Nat.ne_of_lt u2
    go_wp2_with fail
    clear u0 u1 u3
    obtain ⟨W8, hW8⟩ : ∃ W, w7.alloc (Obj.cells #[Value.int .u64 N, Value.int .u64 M, Value.bool true] 43) = W := ⟨_, rfl⟩
    obtain ⟨gx, hgx⟩ : ∃ g, w7.heap.size = g := ⟨_, rfl⟩
    have NBX := Lib.hid (show Below w7.heap.size w7 W8 by rw [← hW8]; exact below_box _ _)
    have BX := Lib.hid (show Box3 W8 43 gx (Value.int .u64 N) (Value.int .u64 M) (Value.bool true) by rw [← hW8, ← hgx]; exact Box3.new _ _ _ _ _)
    rw [hW8, hgx]
    clear hW8 hgx
    have B8 := Lib.hid (below_next B7.out NBX.out); have BA8 := Lib.hid (BA7.out.below NBX.out); have BL8 := Lib.hid (BL7.out.below NBX.out); have QA8 := Lib.hid (QA7.out.below NBX.out)
    have P38 := Lib.hid (P37.out.below NBX.out); have P48 := Lib.hid (P47.out.below NBX.out); have P18 := Lib.hid (P17.out.below NBX.out); have P28 := Lib.hid (P27.out.below NBX.out)
    clear NBX P37 P47 P17 P27 BA7 BL7 QA7 u2
    refine (little_any a1 l1 c1 z1 n a2 c2 z2 1 W8 P18.out I1.out P28.out I2.out hl1).mono ?_
    rintro e w9 ⟨rfl, hb⟩
    have B9 := Lib.hid (below_next B8.out hb); have BA9 := Lib.hid (BA8.out.below hb); have BL9 := Lib.hid (BL8.out.below hb); have BX9 := Lib.hid (BX.out.below hb); have QA9 := Lib.hid (QA8.out.below hb)
    have P39 := Lib.hid (P38.out.below hb); have P49 := Lib.hid (P48.out.below hb)
    clear hb P38 P48 P18 P28 BA8 BL8 BX QA8
    go_wp2_with fail
    refine (rleast_is n 1 true w9 n0 n1 (by omega) (by omega)).mono ?_
    rintro e w10 ⟨rfl, hb⟩
    rw [FN.out, FM.out]
    have B10 := Lib.hid (below_next B9.out hb); have BA10 := Lib.hid (BA9.out.below hb); have BL10 := Lib.hid (BL9.out.below hb); have BX10 := Lib.hid (BX9.out.below hb); have QA10 := Lib.hid (QA9.out.below hb)
    have P310 := Lib.hid (P39.out.below hb); have P410 := Lib.hid (P49.out.below hb)
    clear hb P39 P49 BA9 BL9 BX9 QA9
    go_wp2_with fail
    obtain ⟨W11, hW11⟩ : ∃ W, w10.alloc (Obj.cells #[Value.int .u64 N, Value.int .u64 M, Value.bool true] 43) = W := ⟨_, rfl⟩
    obtain ⟨gy, hgy⟩ : ∃ g, w10.heap.size = g := ⟨_, rfl⟩
    have NBY := Lib.hid (show Below w10.heap.size w10 W11 by rw [← hW11]; exact below_box _ _)
    have BY := Lib.hid (show Box3 W11 43 gy (Value.int .u64 N) (Value.int .u64 M) (Value.bool true) by rw [← hW11, ← hgy]; exact Box3.new _ _ _ _ _)
    rw [hW11, hgy]
    clear hW11 hgy
    have B11 := Lib.hid (below_next B10.out NBY.out); have BA11 := Lib.hid (BA10.out.below NBY.out); have BL11 := Lib.hid (BL10.out.below NBY.out); have BX11 := Lib.hid (BX10.out.below NBY.out); have QA11 := Lib.hid (QA10.out.below NBY.out)
    have P311 := Lib.hid (P310.out.below NBY.out); have P411 := Lib.hid (P410.out.below NBY.out)
    clear NBY P310 P410 BA10 BL10 BX10 QA10
    refine (of_any N W11 N0 (by omega)).mono ?_
    rintro e w12 ⟨a5, l5, c5, z5, rfl, hr, hi, hb, _⟩
    have R5 := Lib.hid hr; have I5 := Lib.hid hi
    have hl5 : l5 ≤ 50 := by have := one_limb hi N1; rw [hr.len] at this; omega
    have Y12 := Lib.hid hb
    clear hr hi hb
    go_wp2_with fail
    refine (Text_any a5 l5 c5 z5 N dn w12 R5.out I5.out hl5 DN.out).mono ?_
    rintro e w13 ⟨rfl, hb⟩
    have Y13 := Lib.hid (below_next Y12.out hb)
    clear hb R5 Y12
    obtain ⟨SN, hSN⟩ : ∃ S : ByteArray, (⟨(textL dn).toArray⟩ : ByteArray) = S := ⟨_, rfl⟩
    obtain ⟨SD, hSD⟩ : ∃ S : ByteArray, (⟨(textL dd).toArray⟩ : ByteArray) = S := ⟨_, rfl⟩
    have t1 : SN.size ≤ 100 := by rw [← hSN]; exact text_short DN.out (by omega)
    have t2 : SD.size ≤ 100 := by rw [← hSD]; exact text_short DM.out (by omega)
    obtain ⟨S1, hS1⟩ : ∃ S : ByteArray, SN ++ (⟨#[47]⟩ : ByteArray) = S := ⟨_, rfl⟩
    obtain ⟨S2, hS2⟩ : ∃ S : ByteArray, S1 ++ SD = S := ⟨_, rfl⟩
    have t0 : (⟨#[47]⟩ : ByteArray).size = 1 := rfl
    have t3 : S1.size ≤ 101 := by rw [← hS1, ByteArray.size_append]; omega
    have p1 : ∀ W : World, (Op.stringOp .add SN ⟨#[47]⟩).run Try.prog W = .ok (.string S1) W := fun W => by rw [← hS1]; exact run_string_add_sum _ _ _ (by omega)
    have p2 : ∀ W : World, (Op.stringOp .add S1 SD).run Try.prog W = .ok (.string S2) W := fun W => by rw [← hS2]; exact run_string_add_sum _ _ _ (by omega)
    have TT2 := Lib.hid (show M ≠ 1 → (⟨(texR dn dd M).toArray⟩ : ByteArray) = S2 from fun h => by rw [show texR dn dd M = textL dn ++ [47] ++ textL dd from if_neg h, ← hS2, ← hS1, ← hSN, ← hSD]; exact text_cat _ _)
    have TT1 := Lib.hid (show M = 1 → (⟨(texR dn dd M).toArray⟩ : ByteArray) = SN from fun h => by rw [show texR dn dd M = textL dn from if_pos h]; exact hSN)
    have HSD := Lib.hid hSD
    rw [hSN]
    clear hSN hSD hS1 hS2 t0
    have BY13 := Lib.hid (BY.out.below Y13.out)
    have y0 := BY13.out.c0; have y1 := BY13.out.c1
    by_cases g : M = 1
    · have TX := Lib.hid (TT1.out g)
      have bm : (M != 1) = false := by simp [g]
      have bm' : (M == 1) = true := by simp [g]
      have BA13 := Lib.hid (BA11.out.below Y13.out); have BL13 := Lib.hid (BL11.out.below Y13.out); have BX13 := Lib.hid (BX11.out.below Y13.out); have QA13 := Lib.hid (QA11.out.below Y13.out)
      have P313 := Lib.hid (P311.out.below Y13.out); have P413 := Lib.hid (P411.out.below Y13.out); have B13 := Lib.hid (below_next B11.out Y13.out)
      clear g TT1 TT2
      go_wp2
      have ZX := Lib.hid BX13.out.drew; have ZY := Lib.hid BY13.out.drew; have ZA := Lib.hid BA13.out.drew; have ZL := Lib.hid BL13.out.drew; have ZQ := Lib.hid QA13.out.drew; have Z3 := Lib.hid P313.out.drew; have Z4 := Lib.hid P413.out.drew; have ZB := Lib.hid B13.out.drew
      clear BX13 BY13 BA13 BL13 QA13 P313 P413 B13 y0 y1 p1 p2
      have KEPT := Lib.hid (show ∀ w', Below w13.drew.heap.size w13.drew w' → (w'.cell? ⟨gx, 0, none⟩ = some (.int .u64 N) ∧ w'.cell? ⟨gx, 1, none⟩ = some (.int .u64 M) ∧ w'.cell? ⟨gx, 2, none⟩ = some (.bool true) ∧ w'.cell? ⟨gy, 0, none⟩ = some (.int .u64 N) ∧ w'.cell? ⟨gy, 1, none⟩ = some (.int .u64 M) ∧ w'.cell? ⟨ga, 0, none⟩ = some (.slice a1 l1 c1) ∧ w'.cell? ⟨ga, 1, none⟩ = some (.slice a2 1 c2) ∧ w'.cell? ⟨gl, 0, none⟩ = some (.slice a3 l3 c3) ∧ w'.cell? ⟨gl, 1, none⟩ = some (.slice a4 1 c4)) from fun w' h => ⟨(ZX.out.below h).c0, (ZX.out.below h).c1, (ZX.out.below h).c2, (ZY.out.below h).c0, (ZY.out.below h).c1, (ZA.out.below h).c0, (ZA.out.below h).c1, (ZL.out.below h).c0, (ZL.out.below h).c1⟩)
      have QL := Lib.hid (show Rat w13.drew 0 1 (.agg #[.slice a3 l3 c3, .slice a4 1 c4]) N M from ⟨a3, l3, c3, z3, a4, 1, c4, z4, rfl, Z3.out, I3.out, Z4.out, I4.out, q5, Nat.le_refl _, fresh0 _, fresh0 _⟩)
      have m0 := ZX.out.c0; have m1 := ZX.out.c1; have m2 := ZX.out.c2; have m3 := ZY.out.c0; have m4 := ZY.out.c1; have m5 := ZA.out.c0; have m6 := ZA.out.c1; have m7 := ZL.out.c0; have m8 := ZL.out.c1
      have hD0 : 0 < 1 := by omega
      have DN1 := Lib.hid (show Is 10 dn (n / gc n 1) by rw [FN.out]; exact DN.out)
      have DM1 := Lib.hid (show Is 10 dd (1 / gc n 1) by rw [FM.out]; exact DM.out)
      have DN2 := Lib.hid (show Is 10 dn (N / gc N M) by rw [GCL.out, Int.ediv_one]; exact DN.out)
      have DM2 := Lib.hid (show Is 10 dd (M / gc N M) by rw [GCL.out, Int.ediv_one]; exact DM.out)
      have E1 := Lib.hid (show (⟨(texR dn dd (1 / gc n 1)).toArray⟩ : ByteArray) = SN by rw [FM.out]; exact TX.out)
      have E2 := Lib.hid (show (⟨(texR dn dd (M / gc N M)).toArray⟩ : ByteArray) = SN by rw [GCL.out, Int.ediv_one]; exact TX.out)
      have E3 := Lib.hid (show N / gc N M = N ∧ M / gc N M = M by rw [GCL.out, Int.ediv_one, Int.ediv_one]; exact ⟨rfl, rfl⟩)
      have o6 : 1 ≤ 6 := by omega
      have o8 : 1 ≤ 800 := by omega
      go_region_held3 (fun w' => w'.cell? ⟨gx, 0, none⟩ = some (.int .u64 N) ∧ w'.cell? ⟨gx, 1, none⟩ = some (.int .u64 M) ∧ w'.cell? ⟨gx, 2, none⟩ = some (.bool true) ∧ w'.cell? ⟨gy, 0, none⟩ = some (.int .u64 N) ∧ w'.cell? ⟨gy, 1, none⟩ = some (.int .u64 M) ∧ w'.cell? ⟨ga, 0, none⟩ = some (.slice a1 l1 c1) ∧ w'.cell? ⟨ga, 1, none⟩ = some (.slice a2 1 c2) ∧ w'.cell? ⟨gl, 0, none⟩ = some (.slice a3 l3 c3) ∧ w'.cell? ⟨gl, 1, none⟩ = some (.slice a4 1 c4))
        (first | exact KEPT.out _ (Below.refl _ _) | exact KEPT.out _ X1.out | exact KEPT.out _ X2.out | exact KEPT.out _ X3.out | exact KEPT.out _ X4.out)
        (first
          | (go_at_call 24; ((with_reducible refine (qtext_any (.agg #[.slice a1 l1 c1, .slice a2 1 c2]) n 1 0 1 w13.drew dn dd ZQ.out (show (0 : Int) < 1 from by decide) o6 DN1.out DM1.out).mono ?_)); rintro e w20 ⟨rfl, hb⟩; rw [E1.out]; have X1 := Lib.hid hb; clear hb)
          | (go_at_call 24; ((with_reducible refine (qtext_any (.agg #[.slice a3 l3 c3, .slice a4 1 c4]) N M 0 1 w20 dn dd (QL.out.below X1.out) M0 o6 DN2.out DM2.out).mono ?_)); rintro e w21 ⟨rfl, hb⟩; rw [E2.out]; have X2 := Lib.hid (below_next X1.out hb); clear hb)
          | (go_at_call 20; ((with_reducible refine (least_any (.agg #[.slice a3 l3 c3, .slice a4 1 c4]) N M 0 1 w21 (QL.out.below X2.out) M0 o8).mono ?_)); rintro e w22 ⟨v22, rfl, hr, hb⟩; rw [E3.out.1, E3.out.2] at hr; have Q22 := Lib.hid hr; have X3 := Lib.hid (below_next X2.out hb); clear hr hb)
          | (go_at_call 25; ((with_reducible refine (rsame_yes v22 (.agg #[.slice a3 l3 c3, .slice a4 1 c4]) N M 0 0 1 1 w22 Q22.out (QL.out.below X3.out)).mono ?_)); rintro e w23 ⟨rfl, hb⟩; have X4 := Lib.hid (below_next X3.out hb); clear hb))
      all_goals
        go_wp2
        go_ret
        exact ⟨rfl, below_next ZB.out X4.out⟩
    · have TX := Lib.hid (TT2.out g)
      have bm : (M != 1) = true := by simp [g]
      have bm' : (M == 1) = false := by simp [g]
      clear g TT1 TT2
      go_wp2_with fail
      refine (of_any M w13 (by omega) (by omega)).mono ?_
      rintro e w14 ⟨a6, l6, c6, z6, rfl, hr, hi, hb, _⟩
      have R6 := Lib.hid hr; have I6 := Lib.hid hi
      have hl6 : l6 ≤ 50 := by have := one_limb hi M1; rw [hr.len] at this; omega
      have Y14 := Lib.hid (below_next Y13.out hb)
      clear hr hi hb y0 y1 BY13
      go_wp2_with fail
      refine (Text_any a6 l6 c6 z6 M dd w14 R6.out I6.out hl6 DM.out).mono ?_
      rintro e w15 ⟨rfl, hb⟩
      rw [HSD.out]
      have Y15 := Lib.hid (below_next Y14.out hb)
      clear hb R6 Y13 Y14
      have BA13 := Lib.hid (BA11.out.below Y15.out); have BL13 := Lib.hid (BL11.out.below Y15.out); have BX13 := Lib.hid (BX11.out.below Y15.out); have BY13 := Lib.hid (BY.out.below Y15.out); have QA13 := Lib.hid (QA11.out.below Y15.out)
      have P313 := Lib.hid (P311.out.below Y15.out); have P413 := Lib.hid (P411.out.below Y15.out); have B13 := Lib.hid (below_next B11.out Y15.out)
      go_wp2
      have ZX := Lib.hid BX13.out.drew; have ZY := Lib.hid BY13.out.drew; have ZA := Lib.hid BA13.out.drew; have ZL := Lib.hid BL13.out.drew; have ZQ := Lib.hid QA13.out.drew; have Z3 := Lib.hid P313.out.drew; have Z4 := Lib.hid P413.out.drew; have ZB := Lib.hid B13.out.drew
      clear BX13 BY13 BA13 BL13 QA13 P313 P413 B13 p1 p2
      have KEPT := Lib.hid (show ∀ w', Below w15.drew.heap.size w15.drew w' → (w'.cell? ⟨gx, 0, none⟩ = some (.int .u64 N) ∧ w'.cell? ⟨gx, 1, none⟩ = some (.int .u64 M) ∧ w'.cell? ⟨gx, 2, none⟩ = some (.bool true) ∧ w'.cell? ⟨gy, 0, none⟩ = some (.int .u64 N) ∧ w'.cell? ⟨gy, 1, none⟩ = some (.int .u64 M) ∧ w'.cell? ⟨ga, 0, none⟩ = some (.slice a1 l1 c1) ∧ w'.cell? ⟨ga, 1, none⟩ = some (.slice a2 1 c2) ∧ w'.cell? ⟨gl, 0, none⟩ = some (.slice a3 l3 c3) ∧ w'.cell? ⟨gl, 1, none⟩ = some (.slice a4 1 c4)) from fun w' h => ⟨(ZX.out.below h).c0, (ZX.out.below h).c1, (ZX.out.below h).c2, (ZY.out.below h).c0, (ZY.out.below h).c1, (ZA.out.below h).c0, (ZA.out.below h).c1, (ZL.out.below h).c0, (ZL.out.below h).c1⟩)
      have QL := Lib.hid (show Rat w15.drew 0 1 (.agg #[.slice a3 l3 c3, .slice a4 1 c4]) N M from ⟨a3, l3, c3, z3, a4, 1, c4, z4, rfl, Z3.out, I3.out, Z4.out, I4.out, q5, Nat.le_refl _, fresh0 _, fresh0 _⟩)
      have m0 := ZX.out.c0; have m1 := ZX.out.c1; have m2 := ZX.out.c2; have m3 := ZY.out.c0; have m4 := ZY.out.c1; have m5 := ZA.out.c0; have m6 := ZA.out.c1; have m7 := ZL.out.c0; have m8 := ZL.out.c1
      have hD0 : 0 < 1 := by omega
      have DN1 := Lib.hid (show Is 10 dn (n / gc n 1) by rw [FN.out]; exact DN.out)
      have DM1 := Lib.hid (show Is 10 dd (1 / gc n 1) by rw [FM.out]; exact DM.out)
      have DN2 := Lib.hid (show Is 10 dn (N / gc N M) by rw [GCL.out, Int.ediv_one]; exact DN.out)
      have DM2 := Lib.hid (show Is 10 dd (M / gc N M) by rw [GCL.out, Int.ediv_one]; exact DM.out)
      have E1 := Lib.hid (show (⟨(texR dn dd (1 / gc n 1)).toArray⟩ : ByteArray) = S2 by rw [FM.out]; exact TX.out)
      have E2 := Lib.hid (show (⟨(texR dn dd (M / gc N M)).toArray⟩ : ByteArray) = S2 by rw [GCL.out, Int.ediv_one]; exact TX.out)
      have E3 := Lib.hid (show N / gc N M = N ∧ M / gc N M = M by rw [GCL.out, Int.ediv_one, Int.ediv_one]; exact ⟨rfl, rfl⟩)
      have o6 : 1 ≤ 6 := by omega
      have o8 : 1 ≤ 800 := by omega
      go_region_held3 (fun w' => w'.cell? ⟨gx, 0, none⟩ = some (.int .u64 N) ∧ w'.cell? ⟨gx, 1, none⟩ = some (.int .u64 M) ∧ w'.cell? ⟨gx, 2, none⟩ = some (.bool true) ∧ w'.cell? ⟨gy, 0, none⟩ = some (.int .u64 N) ∧ w'.cell? ⟨gy, 1, none⟩ = some (.int .u64 M) ∧ w'.cell? ⟨ga, 0, none⟩ = some (.slice a1 l1 c1) ∧ w'.cell? ⟨ga, 1, none⟩ = some (.slice a2 1 c2) ∧ w'.cell? ⟨gl, 0, none⟩ = some (.slice a3 l3 c3) ∧ w'.cell? ⟨gl, 1, none⟩ = some (.slice a4 1 c4))
        (first | exact KEPT.out _ (Below.refl _ _) | exact KEPT.out _ X1.out | exact KEPT.out _ X2.out | exact KEPT.out _ X3.out | exact KEPT.out _ X4.out)
        (first
          | (go_at_call 24; ((with_reducible refine (qtext_any (.agg #[.slice a1 l1 c1, .slice a2 1 c2]) n 1 0 1 w15.drew dn dd ZQ.out (show (0 : Int) < 1 from by decide) o6 DN1.out DM1.out).mono ?_)); rintro e w20 ⟨rfl, hb⟩; rw [E1.out]; have X1 := Lib.hid hb; clear hb)
          | (go_at_call 24; ((with_reducible refine (qtext_any (.agg #[.slice a3 l3 c3, .slice a4 1 c4]) N M 0 1 w20 dn dd (QL.out.below X1.out) M0 o6 DN2.out DM2.out).mono ?_)); rintro e w21 ⟨rfl, hb⟩; rw [E2.out]; have X2 := Lib.hid (below_next X1.out hb); clear hb)
          | (go_at_call 20; ((with_reducible refine (least_any (.agg #[.slice a3 l3 c3, .slice a4 1 c4]) N M 0 1 w21 (QL.out.below X2.out) M0 o8).mono ?_)); rintro e w22 ⟨v22, rfl, hr, hb⟩; rw [E3.out.1, E3.out.2] at hr; have Q22 := Lib.hid hr; have X3 := Lib.hid (below_next X2.out hb); clear hr hb)
          | (go_at_call 25; ((with_reducible refine (rsame_yes v22 (.agg #[.slice a3 l3 c3, .slice a4 1 c4]) N M 0 0 1 1 w22 Q22.out (QL.out.below X3.out)).mono ?_)); rintro e w23 ⟨rfl, hb⟩; have X4 := Lib.hid (below_next X3.out hb); clear hb))
      all_goals
        go_wp2
        go_ret
        exact ⟨rfl, below_next ZB.out X4.out⟩
  · have dz' : (d == 0) = false := by simp [dz]
    have _u := n0
    have LE := Lib.hid (lo_least n0 (show 0 < d by omega))
    have gg := gc_pos (a := n) (show 0 < d by omega)
    obtain ⟨N, hN⟩ : ∃ N, n / gc n d = N := ⟨_, rfl⟩
    obtain ⟨M, hM⟩ : ∃ M, d / gc n d = M := ⟨_, rfl⟩
    have N0 : 0 ≤ N := by rw [← hN]; exact Int.ediv_nonneg n0 (by omega)
    have N1 : N < 4294967296 := by rw [← hN]; have := Int.ediv_le_self (b := gc n d) n0; omega
    have M1 : M < 4294967296 := by rw [← hM]; have := Int.ediv_le_self (a := d) (b := gc n d) (by omega); omega
    rw [hN, hM] at LE
    have M0 : 0 < M := LE.out.1.2.1
    have GCL := Lib.hid LE.out.1.2.2
    obtain ⟨dn, hdn⟩ := dec_of N0
    obtain ⟨dd, hdd⟩ := dec_of (show 0 ≤ M by omega)
    have DN := Lib.hid hdn; have DM := Lib.hid hdd
    have FN := Lib.hid hN; have FM := Lib.hid hM
    clear hN hM hdn hdd gg
    go_wp2_with fail
    refine (of_any n w1 n0 (by omega)).mono ?_
    rintro e w2 ⟨a1, l1, c1, z1, rfl, hr, hi, hb, _⟩
    have R1 := Lib.hid hr; have I1 := Lib.hid hi; have B2 := Lib.hid (below_next B1.out hb)
    have hl1 : l1 ≤ 1 := by rw [← hr.len]; exact one_limb hi n1
    clear hr hi hb
    go_wp2_with fail
    refine (of_any d w2 (by omega) (by omega)).mono ?_
    rintro e w3 ⟨a2, l2, c2, z2, rfl, hr, hi, hb, _⟩
    obtain rfl := one_len hr hi (by omega) (by omega)
    have R2 := Lib.hid hr; have I2 := Lib.hid hi; have R1' := Lib.hid (R1.out.below hb); have B3 := Lib.hid (below_next B2.out hb)
    clear hr hi hb R1
    go_wp2_with fail
    obtain ⟨W4, hW4⟩ : ∃ W, w3.alloc (Obj.cells #[Value.slice a1 l1 c1, Value.slice a2 1 c2] 26) = W := ⟨_, rfl⟩
    obtain ⟨ga, hga⟩ : ∃ g, w3.heap.size = g := ⟨_, rfl⟩
    have NBA := Lib.hid (show Below w3.heap.size w3 W4 by rw [← hW4]; exact below_box _ _)
    have BA := Lib.hid (show Box W4 26 ga (Value.slice a1 l1 c1) (Value.slice a2 1 c2) by rw [← hW4, ← hga]; exact Box.new _ _ _ _)
    rw [hW4, hga]
    clear hW4 hga
    have B4 := Lib.hid (below_next B3.out NBA.out)
    have P1 := Lib.hid (R1'.out.below NBA.out); have P2 := Lib.hid (R2.out.below NBA.out)
    have QA := Lib.hid (show Rat W4 0 1 (.agg #[.slice a1 l1 c1, .slice a2 1 c2]) n d from ⟨a1, l1, c1, z1, a2, 1, c2, z2, rfl, P1.out, I1.out, P2.out, I2.out, hl1, Nat.le_refl _, fresh0 _, fresh0 _⟩)
    clear R1' R2 NBA
    refine (least_any _ n d 0 1 W4 QA.out (by omega) (by omega)).mono ?_
    rintro e w5 ⟨_, rfl, ⟨a3, l3, c3, z3, a4, l4, c4, z4, rfl, q1, q2, q3, q4, q5, q6, _, _⟩, hb⟩
    rw [FN.out] at q2
    rw [FM.out] at q4
    obtain rfl := one_len q3 q4 M0 M1
    have P3 := Lib.hid q1; have I3 := Lib.hid q2; have P4 := Lib.hid q3; have I4 := Lib.hid q4
    have BA5 := Lib.hid (BA.out.below hb); have B5 := Lib.hid (below_next B4.out hb); have QA5 := Lib.hid (QA.out.below hb); have P15 := Lib.hid (P1.out.below hb); have P25 := Lib.hid (P2.out.below hb)
    clear q1 q2 q3 q4 hb BA QA P1 P2
    go_wp2_with fail
    obtain ⟨W6, hW6⟩ : ∃ W, w5.alloc (Obj.cells #[Value.slice a3 l3 c3, Value.slice a4 1 c4] 26) = W := ⟨_, rfl⟩
    obtain ⟨gl, hgl⟩ : ∃ g, w5.heap.size = g := ⟨_, rfl⟩
    have NBL := Lib.hid (show Below w5.heap.size w5 W6 by rw [← hW6]; exact below_box _ _)
    have BL := Lib.hid (show Box W6 26 gl (Value.slice a3 l3 c3) (Value.slice a4 1 c4) by rw [← hW6, ← hgl]; exact Box.new _ _ _ _)
    rw [hW6, hgl]
    clear hW6 hgl
    have B6 := Lib.hid (below_next B5.out NBL.out); have BA6 := Lib.hid (BA5.out.below NBL.out); have QA6 := Lib.hid (QA5.out.below NBL.out)
    have P36 := Lib.hid (P3.out.below NBL.out); have P46 := Lib.hid (P4.out.below NBL.out); have P16 := Lib.hid (P15.out.below NBL.out); have P26 := Lib.hid (P25.out.below NBL.out)
    clear P3 P4 P15 P25 BA5 QA5 NBL
    refine (little_any a3 l3 c3 z3 N a4 c4 z4 M W6 P36.out I3.out P46.out I4.out q5).mono ?_
    rintro e w7 ⟨rfl, hb⟩
    have B7 := Lib.hid (below_next B6.out hb); have BA7 := Lib.hid (BA6.out.below hb); have BL7 := Lib.hid (BL.out.below hb); have QA7 := Lib.hid (QA6.out.below hb)
    have P37 := Lib.hid (P36.out.below hb); have P47 := Lib.hid (P46.out.below hb); have P17 := Lib.hid (P16.out.below hb); have P27 := Lib.hid (P26.out.below hb)
    clear hb P36 P46 P16 P26 BA6 BL QA6
    have u0 := BA7.out.c0; have u1 := BA7.out.c1
    have u2 := lt_of_block BA7.out
    have u3 : ga ≠ w7.heap.size := Nat.ne_of_lt u2
    go_wp2_with fail
    clear u0 u1 u3
    obtain ⟨W8, hW8⟩ : ∃ W, w7.alloc (Obj.cells #[Value.int .u64 N, Value.int .u64 M, Value.bool true] 43) = W := ⟨_, rfl⟩
    obtain ⟨gx, hgx⟩ : ∃ g, w7.heap.size = g := ⟨_, rfl⟩
    have NBX := Lib.hid (show Below w7.heap.size w7 W8 by rw [← hW8]; exact below_box _ _)
    have BX := Lib.hid (show Box3 W8 43 gx (Value.int .u64 N) (Value.int .u64 M) (Value.bool true) by rw [← hW8, ← hgx]; exact Box3.new _ _ _ _ _)
    rw [hW8, hgx]
    clear hW8 hgx
    have B8 := Lib.hid (below_next B7.out NBX.out); have BA8 := Lib.hid (BA7.out.below NBX.out); have BL8 := Lib.hid (BL7.out.below NBX.out); have QA8 := Lib.hid (QA7.out.below NBX.out)
    have P38 := Lib.hid (P37.out.below NBX.out); have P48 := Lib.hid (P47.out.below NBX.out); have P18 := Lib.hid (P17.out.below NBX.out); have P28 := Lib.hid (P27.out.below NBX.out)
    clear NBX P37 P47 P17 P27 BA7 BL7 QA7 u2
    refine (little_any a1 l1 c1 z1 n a2 c2 z2 d W8 P18.out I1.out P28.out I2.out hl1).mono ?_
    rintro e w9 ⟨rfl, hb⟩
    have B9 := Lib.hid (below_next B8.out hb); have BA9 := Lib.hid (BA8.out.below hb); have BL9 := Lib.hid (BL8.out.below hb); have BX9 := Lib.hid (BX.out.below hb); have QA9 := Lib.hid (QA8.out.below hb)
    have P39 := Lib.hid (P38.out.below hb); have P49 := Lib.hid (P48.out.below hb)
    clear hb P38 P48 P18 P28 BA8 BL8 BX QA8
    go_wp2_with fail
    refine (rleast_is n d true w9 n0 n1 (by omega) (by omega)).mono ?_
    rintro e w10 ⟨rfl, hb⟩
    rw [FN.out, FM.out]
    have B10 := Lib.hid (below_next B9.out hb); have BA10 := Lib.hid (BA9.out.below hb); have BL10 := Lib.hid (BL9.out.below hb); have BX10 := Lib.hid (BX9.out.below hb); have QA10 := Lib.hid (QA9.out.below hb)
    have P310 := Lib.hid (P39.out.below hb); have P410 := Lib.hid (P49.out.below hb)
    clear hb P39 P49 BA9 BL9 BX9 QA9
    go_wp2_with fail
    obtain ⟨W11, hW11⟩ : ∃ W, w10.alloc (Obj.cells #[Value.int .u64 N, Value.int .u64 M, Value.bool true] 43) = W := ⟨_, rfl⟩
    obtain ⟨gy, hgy⟩ : ∃ g, w10.heap.size = g := ⟨_, rfl⟩
    have NBY := Lib.hid (show Below w10.heap.size w10 W11 by rw [← hW11]; exact below_box _ _)
    have BY := Lib.hid (show Box3 W11 43 gy (Value.int .u64 N) (Value.int .u64 M) (Value.bool true) by rw [← hW11, ← hgy]; exact Box3.new _ _ _ _ _)
    rw [hW11, hgy]
    clear hW11 hgy
    have B11 := Lib.hid (below_next B10.out NBY.out); have BA11 := Lib.hid (BA10.out.below NBY.out); have BL11 := Lib.hid (BL10.out.below NBY.out); have BX11 := Lib.hid (BX10.out.below NBY.out); have QA11 := Lib.hid (QA10.out.below NBY.out)
    have P311 := Lib.hid (P310.out.below NBY.out); have P411 := Lib.hid (P410.out.below NBY.out)
    clear NBY P310 P410 BA10 BL10 BX10 QA10
    refine (of_any N W11 N0 (by omega)).mono ?_
    rintro e w12 ⟨a5, l5, c5, z5, rfl, hr, hi, hb, _⟩
    have R5 := Lib.hid hr; have I5 := Lib.hid hi
    have hl5 : l5 ≤ 50 := by have := one_limb hi N1; rw [hr.len] at this; omega
    have Y12 := Lib.hid hb
    clear hr hi hb
    go_wp2_with fail
    refine (Text_any a5 l5 c5 z5 N dn w12 R5.out I5.out hl5 DN.out).mono ?_
    rintro e w13 ⟨rfl, hb⟩
    have Y13 := Lib.hid (below_next Y12.out hb)
    clear hb R5 Y12
    obtain ⟨SN, hSN⟩ : ∃ S : ByteArray, (⟨(textL dn).toArray⟩ : ByteArray) = S := ⟨_, rfl⟩
    obtain ⟨SD, hSD⟩ : ∃ S : ByteArray, (⟨(textL dd).toArray⟩ : ByteArray) = S := ⟨_, rfl⟩
    have t1 : SN.size ≤ 100 := by rw [← hSN]; exact text_short DN.out (by omega)
    have t2 : SD.size ≤ 100 := by rw [← hSD]; exact text_short DM.out (by omega)
    obtain ⟨S1, hS1⟩ : ∃ S : ByteArray, SN ++ (⟨#[47]⟩ : ByteArray) = S := ⟨_, rfl⟩
    obtain ⟨S2, hS2⟩ : ∃ S : ByteArray, S1 ++ SD = S := ⟨_, rfl⟩
    have t0 : (⟨#[47]⟩ : ByteArray).size = 1 := rfl
    have t3 : S1.size ≤ 101 := by rw [← hS1, ByteArray.size_append]; omega
    have p1 : ∀ W : World, (Op.stringOp .add SN ⟨#[47]⟩).run Try.prog W = .ok (.string S1) W := fun W => by rw [← hS1]; exact run_string_add_sum _ _ _ (by omega)
    have p2 : ∀ W : World, (Op.stringOp .add S1 SD).run Try.prog W = .ok (.string S2) W := fun W => by rw [← hS2]; exact run_string_add_sum _ _ _ (by omega)
    have TT2 := Lib.hid (show M ≠ 1 → (⟨(texR dn dd M).toArray⟩ : ByteArray) = S2 from fun h => by rw [show texR dn dd M = textL dn ++ [47] ++ textL dd from if_neg h, ← hS2, ← hS1, ← hSN, ← hSD]; exact text_cat _ _)
    have TT1 := Lib.hid (show M = 1 → (⟨(texR dn dd M).toArray⟩ : ByteArray) = SN from fun h => by rw [show texR dn dd M = textL dn from if_pos h]; exact hSN)
    have HSD := Lib.hid hSD
    rw [hSN]
    clear hSN hSD hS1 hS2 t0
    have BY13 := Lib.hid (BY.out.below Y13.out)
    have y0 := BY13.out.c0; have y1 := BY13.out.c1
    by_cases g : M = 1
    · have TX := Lib.hid (TT1.out g)
      have bm : (M != 1) = false := by simp [g]
      have bm' : (M == 1) = true := by simp [g]
      have BA13 := Lib.hid (BA11.out.below Y13.out); have BL13 := Lib.hid (BL11.out.below Y13.out); have BX13 := Lib.hid (BX11.out.below Y13.out); have QA13 := Lib.hid (QA11.out.below Y13.out)
      have P313 := Lib.hid (P311.out.below Y13.out); have P413 := Lib.hid (P411.out.below Y13.out); have B13 := Lib.hid (below_next B11.out Y13.out)
      clear g TT1 TT2
      go_wp2
      have ZX := Lib.hid BX13.out.drew; have ZY := Lib.hid BY13.out.drew; have ZA := Lib.hid BA13.out.drew; have ZL := Lib.hid BL13.out.drew; have ZQ := Lib.hid QA13.out.drew; have Z3 := Lib.hid P313.out.drew; have Z4 := Lib.hid P413.out.drew; have ZB := Lib.hid B13.out.drew
      clear BX13 BY13 BA13 BL13 QA13 P313 P413 B13 y0 y1 p1 p2
      have KEPT := Lib.hid (show ∀ w', Below w13.drew.heap.size w13.drew w' → (w'.cell? ⟨gx, 0, none⟩ = some (.int .u64 N) ∧ w'.cell? ⟨gx, 1, none⟩ = some (.int .u64 M) ∧ w'.cell? ⟨gx, 2, none⟩ = some (.bool true) ∧ w'.cell? ⟨gy, 0, none⟩ = some (.int .u64 N) ∧ w'.cell? ⟨gy, 1, none⟩ = some (.int .u64 M) ∧ w'.cell? ⟨ga, 0, none⟩ = some (.slice a1 l1 c1) ∧ w'.cell? ⟨ga, 1, none⟩ = some (.slice a2 1 c2) ∧ w'.cell? ⟨gl, 0, none⟩ = some (.slice a3 l3 c3) ∧ w'.cell? ⟨gl, 1, none⟩ = some (.slice a4 1 c4)) from fun w' h => ⟨(ZX.out.below h).c0, (ZX.out.below h).c1, (ZX.out.below h).c2, (ZY.out.below h).c0, (ZY.out.below h).c1, (ZA.out.below h).c0, (ZA.out.below h).c1, (ZL.out.below h).c0, (ZL.out.below h).c1⟩)
      have QL := Lib.hid (show Rat w13.drew 0 1 (.agg #[.slice a3 l3 c3, .slice a4 1 c4]) N M from ⟨a3, l3, c3, z3, a4, 1, c4, z4, rfl, Z3.out, I3.out, Z4.out, I4.out, q5, Nat.le_refl _, fresh0 _, fresh0 _⟩)
      have m0 := ZX.out.c0; have m1 := ZX.out.c1; have m2 := ZX.out.c2; have m3 := ZY.out.c0; have m4 := ZY.out.c1; have m5 := ZA.out.c0; have m6 := ZA.out.c1; have m7 := ZL.out.c0; have m8 := ZL.out.c1
      have hD0 : 0 < d := by omega
      have DN1 := Lib.hid (show Is 10 dn (n / gc n d) by rw [FN.out]; exact DN.out)
      have DM1 := Lib.hid (show Is 10 dd (d / gc n d) by rw [FM.out]; exact DM.out)
      have DN2 := Lib.hid (show Is 10 dn (N / gc N M) by rw [GCL.out, Int.ediv_one]; exact DN.out)
      have DM2 := Lib.hid (show Is 10 dd (M / gc N M) by rw [GCL.out, Int.ediv_one]; exact DM.out)
      have E1 := Lib.hid (show (⟨(texR dn dd (d / gc n d)).toArray⟩ : ByteArray) = SN by rw [FM.out]; exact TX.out)
      have E2 := Lib.hid (show (⟨(texR dn dd (M / gc N M)).toArray⟩ : ByteArray) = SN by rw [GCL.out, Int.ediv_one]; exact TX.out)
      have E3 := Lib.hid (show N / gc N M = N ∧ M / gc N M = M by rw [GCL.out, Int.ediv_one, Int.ediv_one]; exact ⟨rfl, rfl⟩)
      have o6 : 1 ≤ 6 := by omega
      have o8 : 1 ≤ 800 := by omega
      go_region_held3 (fun w' => w'.cell? ⟨gx, 0, none⟩ = some (.int .u64 N) ∧ w'.cell? ⟨gx, 1, none⟩ = some (.int .u64 M) ∧ w'.cell? ⟨gx, 2, none⟩ = some (.bool true) ∧ w'.cell? ⟨gy, 0, none⟩ = some (.int .u64 N) ∧ w'.cell? ⟨gy, 1, none⟩ = some (.int .u64 M) ∧ w'.cell? ⟨ga, 0, none⟩ = some (.slice a1 l1 c1) ∧ w'.cell? ⟨ga, 1, none⟩ = some (.slice a2 1 c2) ∧ w'.cell? ⟨gl, 0, none⟩ = some (.slice a3 l3 c3) ∧ w'.cell? ⟨gl, 1, none⟩ = some (.slice a4 1 c4))
        (first | exact KEPT.out _ (Below.refl _ _) | exact KEPT.out _ X1.out | exact KEPT.out _ X2.out | exact KEPT.out _ X3.out | exact KEPT.out _ X4.out)
        (first
          | (go_at_call 24; ((with_reducible refine (qtext_any (.agg #[.slice a1 l1 c1, .slice a2 1 c2]) n d 0 1 w13.drew dn dd ZQ.out hD0 o6 DN1.out DM1.out).mono ?_)); rintro e w20 ⟨rfl, hb⟩; rw [E1.out]; have X1 := Lib.hid hb; clear hb)
          | (go_at_call 24; ((with_reducible refine (qtext_any (.agg #[.slice a3 l3 c3, .slice a4 1 c4]) N M 0 1 w20 dn dd (QL.out.below X1.out) M0 o6 DN2.out DM2.out).mono ?_)); rintro e w21 ⟨rfl, hb⟩; rw [E2.out]; have X2 := Lib.hid (below_next X1.out hb); clear hb)
          | (go_at_call 20; ((with_reducible refine (least_any (.agg #[.slice a3 l3 c3, .slice a4 1 c4]) N M 0 1 w21 (QL.out.below X2.out) M0 o8).mono ?_)); rintro e w22 ⟨v22, rfl, hr, hb⟩; rw [E3.out.1, E3.out.2] at hr; have Q22 := Lib.hid hr; have X3 := Lib.hid (below_next X2.out hb); clear hr hb)
          | (go_at_call 25; ((with_reducible refine (rsame_yes v22 (.agg #[.slice a3 l3 c3, .slice a4 1 c4]) N M 0 0 1 1 w22 Q22.out (QL.out.below X3.out)).mono ?_)); rintro e w23 ⟨rfl, hb⟩; have X4 := Lib.hid (below_next X3.out hb); clear hb))
      all_goals
        go_wp2
        go_ret
        exact ⟨rfl, below_next ZB.out X4.out⟩
    · have TX := Lib.hid (TT2.out g)
      have bm : (M != 1) = true := by simp [g]
      have bm' : (M == 1) = false := by simp [g]
      clear g TT1 TT2
      go_wp2_with fail
      refine (of_any M w13 (by omega) (by omega)).mono ?_
      rintro e w14 ⟨a6, l6, c6, z6, rfl, hr, hi, hb, _⟩
      have R6 := Lib.hid hr; have I6 := Lib.hid hi
      have hl6 : l6 ≤ 50 := by have := one_limb hi M1; rw [hr.len] at this; omega
      have Y14 := Lib.hid (below_next Y13.out hb)
      clear hr hi hb y0 y1 BY13
      go_wp2_with fail
      refine (Text_any a6 l6 c6 z6 M dd w14 R6.out I6.out hl6 DM.out).mono ?_
      rintro e w15 ⟨rfl, hb⟩
      rw [HSD.out]
      have Y15 := Lib.hid (below_next Y14.out hb)
      clear hb R6 Y13 Y14
      have BA13 := Lib.hid (BA11.out.below Y15.out); have BL13 := Lib.hid (BL11.out.below Y15.out); have BX13 := Lib.hid (BX11.out.below Y15.out); have BY13 := Lib.hid (BY.out.below Y15.out); have QA13 := Lib.hid (QA11.out.below Y15.out)
      have P313 := Lib.hid (P311.out.below Y15.out); have P413 := Lib.hid (P411.out.below Y15.out); have B13 := Lib.hid (below_next B11.out Y15.out)
      go_wp2
      have ZX := Lib.hid BX13.out.drew; have ZY := Lib.hid BY13.out.drew; have ZA := Lib.hid BA13.out.drew; have ZL := Lib.hid BL13.out.drew; have ZQ := Lib.hid QA13.out.drew; have Z3 := Lib.hid P313.out.drew; have Z4 := Lib.hid P413.out.drew; have ZB := Lib.hid B13.out.drew
      clear BX13 BY13 BA13 BL13 QA13 P313 P413 B13 p1 p2
      have KEPT := Lib.hid (show ∀ w', Below w15.drew.heap.size w15.drew w' → (w'.cell? ⟨gx, 0, none⟩ = some (.int .u64 N) ∧ w'.cell? ⟨gx, 1, none⟩ = some (.int .u64 M) ∧ w'.cell? ⟨gx, 2, none⟩ = some (.bool true) ∧ w'.cell? ⟨gy, 0, none⟩ = some (.int .u64 N) ∧ w'.cell? ⟨gy, 1, none⟩ = some (.int .u64 M) ∧ w'.cell? ⟨ga, 0, none⟩ = some (.slice a1 l1 c1) ∧ w'.cell? ⟨ga, 1, none⟩ = some (.slice a2 1 c2) ∧ w'.cell? ⟨gl, 0, none⟩ = some (.slice a3 l3 c3) ∧ w'.cell? ⟨gl, 1, none⟩ = some (.slice a4 1 c4)) from fun w' h => ⟨(ZX.out.below h).c0, (ZX.out.below h).c1, (ZX.out.below h).c2, (ZY.out.below h).c0, (ZY.out.below h).c1, (ZA.out.below h).c0, (ZA.out.below h).c1, (ZL.out.below h).c0, (ZL.out.below h).c1⟩)
      have QL := Lib.hid (show Rat w15.drew 0 1 (.agg #[.slice a3 l3 c3, .slice a4 1 c4]) N M from ⟨a3, l3, c3, z3, a4, 1, c4, z4, rfl, Z3.out, I3.out, Z4.out, I4.out, q5, Nat.le_refl _, fresh0 _, fresh0 _⟩)
      have m0 := ZX.out.c0; have m1 := ZX.out.c1; have m2 := ZX.out.c2; have m3 := ZY.out.c0; have m4 := ZY.out.c1; have m5 := ZA.out.c0; have m6 := ZA.out.c1; have m7 := ZL.out.c0; have m8 := ZL.out.c1
      have hD0 : 0 < d := by omega
      have DN1 := Lib.hid (show Is 10 dn (n / gc n d) by rw [FN.out]; exact DN.out)
      have DM1 := Lib.hid (show Is 10 dd (d / gc n d) by rw [FM.out]; exact DM.out)
      have DN2 := Lib.hid (show Is 10 dn (N / gc N M) by rw [GCL.out, Int.ediv_one]; exact DN.out)
      have DM2 := Lib.hid (show Is 10 dd (M / gc N M) by rw [GCL.out, Int.ediv_one]; exact DM.out)
      have E1 := Lib.hid (show (⟨(texR dn dd (d / gc n d)).toArray⟩ : ByteArray) = S2 by rw [FM.out]; exact TX.out)
      have E2 := Lib.hid (show (⟨(texR dn dd (M / gc N M)).toArray⟩ : ByteArray) = S2 by rw [GCL.out, Int.ediv_one]; exact TX.out)
      have E3 := Lib.hid (show N / gc N M = N ∧ M / gc N M = M by rw [GCL.out, Int.ediv_one, Int.ediv_one]; exact ⟨rfl, rfl⟩)
      have o6 : 1 ≤ 6 := by omega
      have o8 : 1 ≤ 800 := by omega
      go_region_held3 (fun w' => w'.cell? ⟨gx, 0, none⟩ = some (.int .u64 N) ∧ w'.cell? ⟨gx, 1, none⟩ = some (.int .u64 M) ∧ w'.cell? ⟨gx, 2, none⟩ = some (.bool true) ∧ w'.cell? ⟨gy, 0, none⟩ = some (.int .u64 N) ∧ w'.cell? ⟨gy, 1, none⟩ = some (.int .u64 M) ∧ w'.cell? ⟨ga, 0, none⟩ = some (.slice a1 l1 c1) ∧ w'.cell? ⟨ga, 1, none⟩ = some (.slice a2 1 c2) ∧ w'.cell? ⟨gl, 0, none⟩ = some (.slice a3 l3 c3) ∧ w'.cell? ⟨gl, 1, none⟩ = some (.slice a4 1 c4))
        (first | exact KEPT.out _ (Below.refl _ _) | exact KEPT.out _ X1.out | exact KEPT.out _ X2.out | exact KEPT.out _ X3.out | exact KEPT.out _ X4.out)
        (first
          | (go_at_call 24; ((with_reducible refine (qtext_any (.agg #[.slice a1 l1 c1, .slice a2 1 c2]) n d 0 1 w15.drew dn dd ZQ.out hD0 o6 DN1.out DM1.out).mono ?_)); rintro e w20 ⟨rfl, hb⟩; rw [E1.out]; have X1 := Lib.hid hb; clear hb)
          | (go_at_call 24; ((with_reducible refine (qtext_any (.agg #[.slice a3 l3 c3, .slice a4 1 c4]) N M 0 1 w20 dn dd (QL.out.below X1.out) M0 o6 DN2.out DM2.out).mono ?_)); rintro e w21 ⟨rfl, hb⟩; rw [E2.out]; have X2 := Lib.hid (below_next X1.out hb); clear hb)
          | (go_at_call 20; ((with_reducible refine (least_any (.agg #[.slice a3 l3 c3, .slice a4 1 c4]) N M 0 1 w21 (QL.out.below X2.out) M0 o8).mono ?_)); rintro e w22 ⟨v22, rfl, hr, hb⟩; rw [E3.out.1, E3.out.2] at hr; have Q22 := Lib.hid hr; have X3 := Lib.hid (below_next X2.out hb); clear hr hb)
          | (go_at_call 25; ((with_reducible refine (rsame_yes v22 (.agg #[.slice a3 l3 c3, .slice a4 1 c4]) N M 0 0 1 1 w22 Q22.out (QL.out.below X3.out)).mono ?_)); rintro e w23 ⟨rfl, hb⟩; have X4 := Lib.hid (below_next X3.out hb); clear hb))
      all_goals
        go_wp2
        go_ret
        exact ⟨rfl, below_next ZB.out X4.out⟩
end Go.Proofs.Ytenibpnifnlfeaa
