/-
  Package wire's command, whose fields the closure regatta/wire.Check$1 tells: contract.
-/
import Derived.Test.YtlcagjmppmajeaaWq4
namespace Go.Proofs.Ytlcagjmppmajeaa
open Go.RowKit

set_option maxRecDepth 20000 in
set_option maxHeartbeats 4000000 in
theorem wcmdT0 (vs : Nat → Int) (pa pb : Nat) (S : Nat → World → Prop) (w : World) (hpa : pa < w.heap.size) (hpb : pb < w.heap.size)
    (hS : ∀ i W W', S i W → Keeps (fun x => w.heap.size ≤ x) W W' → S i W')
    (hN : ∀ i W, i < cntC 0 vs → S i W → Calls Try.prog 22 #[.int .i64 (mostC 0 i), .pointer (some ⟨pa, 0, none⟩), .pointer (some ⟨pb, 0, none⟩)] W fun e W' => e = .returned (.int .i64 (vs i)) ∧ S (i + 1) W' ∧ Keeps (Two pa pb) W W')
    (hf : FitC 0 vs) (h0 : S 0 w) :
    Calls Try.prog 21 #[.int .i64 0, .func (.func 22) #[] #[.pointer (some ⟨pa, 0, none⟩), .pointer (some ⟨pb, 0, none⟩)]] w (CmdO 0 vs pa pb S w) := by
  have HS := Lib.hid hS
  have HN := Lib.hid hN
  have HF := Lib.hid hf
  have PA := Lib.hid hpa
  have PB := Lib.hid hpb
  go_enter Try.func21, Try.ntmps21
  go_upto_region 1 with fail
  obtain ⟨W1, hW1⟩ : ∃ W1, w.alloc (.cells #[.int .i64 0, .int .i64 0, .int .i64 0, .int .i64 0, .int .i64 0, .int .i64 0, .int .i64 0, .bool false, .slice none 0 0] 37) = W1 := ⟨_, rfl⟩
  obtain ⟨c5, hc5⟩ : ∃ c5, W1.heap.size = c5 := ⟨_, rfl⟩
  obtain ⟨W0, hW0⟩ : ∃ W0, W1.alloc (.cells #[.int .i64 0, .int .i64 0, .int .i64 0, .int .i64 0, .int .i64 0, .int .i64 0, .int .i64 0, .bool false, .slice none 0 0] 37) = W0 := ⟨_, rfl⟩
  have C5 := Lib.hid (show w.heap.size < c5 by rw [← hc5, ← hW1]; simp)
  have A0 := Lib.hid (show Blk W0 37 c5 #[.int .i64 0, .int .i64 0, .int .i64 0, .int .i64 0, .int .i64 0, .int .i64 0, .int .i64 0, .bool false, .slice none 0 0] by rw [← hW0, ← hc5]; exact Blk.new _ _ _)
  have B0 := Lib.hid (show Blk W0 37 w.heap.size #[.int .i64 0, .int .i64 0, .int .i64 0, .int .i64 0, .int .i64 0, .int .i64 0, .int .i64 0, .bool false, .slice none 0 0] by rw [← hW0, ← hW1]; exact (Blk.new _ _ _).alloc _)
  have K0 := Lib.hid (show Keeps (Two pa pb) w W0 by rw [← hW0, ← hW1]; exact Keeps.of (wbox2 _ _ _))
  have S0 := Lib.hid (hS 0 w W0 h0 (by rw [← hW0, ← hW1]; exact Keeps.of (wbox2 _ _ _)))
  clear hS hN hf h0 hpa hpb
  try rw [hW1]
  have HW0 := Lib.hid hW0
  have HC5 := Lib.hid hc5
  clear hW1 hW0 hc5
  go_upto_region 2 with fail
  rw [HW0.out, HC5.out]
  have CV := Lib.hid (show commandV 0 vs = cm0 0 from rfl)
  have u0 := A0.out.cell 0
  have u1 := A0.out.cell 1
  have u2 := A0.out.cell 2
  have u3 := A0.out.cell 3
  have u4 := A0.out.cell 4
  have u5 := A0.out.cell 5
  have u6 := A0.out.cell 6
  have u7 := A0.out.cell 7
  have u8 := A0.out.cell 8
  simp at u0 u1 u2 u3 u4 u5 u6 u7 u8
  have t0 := B0.out.cell 0; have r0 := B0.out.free 0
  have t1 := B0.out.cell 1; have r1 := B0.out.free 1
  have t2 := B0.out.cell 2; have r2 := B0.out.free 2
  have t3 := B0.out.cell 3; have r3 := B0.out.free 3
  have t4 := B0.out.cell 4; have r4 := B0.out.free 4
  have t5 := B0.out.cell 5; have r5 := B0.out.free 5
  have t6 := B0.out.cell 6; have r6 := B0.out.free 6
  have t7 := B0.out.cell 7; have r7 := B0.out.free 7
  have t8 := B0.out.cell 8; have r8 := B0.out.free 8
  simp at t0 t1 t2 t3 t4 t5 t6 t7 t8
  have EE := Lib.hid (B0.out.store9 (.int .i64 0) (.int .i64 0) (.int .i64 0) (.int .i64 0) (.int .i64 0) (.int .i64 0) (.int .i64 0) (.bool false) (.slice none 0 0))
  have KE := Lib.hid (((((((((K0.out.set (.inr (Nat.le_refl _)) 0 (.int .i64 0)).set (.inr (Nat.le_refl _)) 1 (.int .i64 0)).set (.inr (Nat.le_refl _)) 2 (.int .i64 0)).set (.inr (Nat.le_refl _)) 3 (.int .i64 0)).set (.inr (Nat.le_refl _)) 4 (.int .i64 0)).set (.inr (Nat.le_refl _)) 5 (.int .i64 0)).set (.inr (Nat.le_refl _)) 6 (.int .i64 0)).set (.inr (Nat.le_refl _)) 7 (.bool false)).set (.inr (Nat.le_refl _)) 8 (.slice none 0 0))
  have SE := Lib.hid (HS.out _ _ _ S0.out ((((((((((Keeps.refl (fun x => w.heap.size ≤ x) W0).set (.inl (Nat.le_refl _)) 0 (.int .i64 0)).set (.inl (Nat.le_refl _)) 1 (.int .i64 0)).set (.inl (Nat.le_refl _)) 2 (.int .i64 0)).set (.inl (Nat.le_refl _)) 3 (.int .i64 0)).set (.inl (Nat.le_refl _)) 4 (.int .i64 0)).set (.inl (Nat.le_refl _)) 5 (.int .i64 0)).set (.inl (Nat.le_refl _)) 6 (.int .i64 0)).set (.inl (Nat.le_refl _)) 7 (.bool false)).set (.inl (Nat.le_refl _)) 8 (.slice none 0 0)))
  have e0 := EE.out.cell 0
  have e1 := EE.out.cell 1
  have e2 := EE.out.cell 2
  have e3 := EE.out.cell 3
  have e4 := EE.out.cell 4
  have e5 := EE.out.cell 5
  have e6 := EE.out.cell 6
  have e7 := EE.out.cell 7
  have e8 := EE.out.cell 8
  simp at e0 e1 e2 e3 e4 e5 e6 e7 e8
  go_wp2
  exact bodyPost_ret (v := .agg #[.int .i64 0, .int .i64 0, .int .i64 0, .int .i64 0, .int .i64 0, .int .i64 0, .int .i64 0, .bool false, .slice none 0 0]) (by simp [results, Try.results21, go_sem, e0, e1, e2, e3, e4, e5, e6, e7, e8]) rfl ⟨.slice none 0 0, rfl, PartsN.nil _ _, SE.out, KE.out⟩
set_option maxRecDepth 20000 in
set_option maxHeartbeats 4000000 in
theorem wcmdT1 (vs : Nat → Int) (pa pb : Nat) (S : Nat → World → Prop) (w : World) (hpa : pa < w.heap.size) (hpb : pb < w.heap.size)
    (hS : ∀ i W W', S i W → Keeps (fun x => w.heap.size ≤ x) W W' → S i W')
    (hN : ∀ i W, i < cntC 1 vs → S i W → Calls Try.prog 22 #[.int .i64 (mostC 1 i), .pointer (some ⟨pa, 0, none⟩), .pointer (some ⟨pb, 0, none⟩)] W fun e W' => e = .returned (.int .i64 (vs i)) ∧ S (i + 1) W' ∧ Keeps (Two pa pb) W W')
    (hf : FitC 1 vs) (h0 : S 0 w) :
    Calls Try.prog 21 #[.int .i64 1, .func (.func 22) #[] #[.pointer (some ⟨pa, 0, none⟩), .pointer (some ⟨pb, 0, none⟩)]] w (CmdO 1 vs pa pb S w) := by
  have HS := Lib.hid hS
  have HN := Lib.hid hN
  have HF := Lib.hid hf
  have PA := Lib.hid hpa
  have PB := Lib.hid hpb
  go_enter Try.func21, Try.ntmps21
  go_upto_region 1 with fail
  obtain ⟨W1, hW1⟩ : ∃ W1, w.alloc (.cells #[.int .i64 0, .int .i64 0, .int .i64 0, .int .i64 0, .int .i64 0, .int .i64 0, .int .i64 0, .bool false, .slice none 0 0] 37) = W1 := ⟨_, rfl⟩
  obtain ⟨c5, hc5⟩ : ∃ c5, W1.heap.size = c5 := ⟨_, rfl⟩
  obtain ⟨W0, hW0⟩ : ∃ W0, W1.alloc (.cells #[.int .i64 1, .int .i64 0, .int .i64 0, .int .i64 0, .int .i64 0, .int .i64 0, .int .i64 0, .bool false, .slice none 0 0] 37) = W0 := ⟨_, rfl⟩
  have C5 := Lib.hid (show w.heap.size < c5 by rw [← hc5, ← hW1]; simp)
  have A0 := Lib.hid (show Blk W0 37 c5 #[.int .i64 1, .int .i64 0, .int .i64 0, .int .i64 0, .int .i64 0, .int .i64 0, .int .i64 0, .bool false, .slice none 0 0] by rw [← hW0, ← hc5]; exact Blk.new _ _ _)
  have B0 := Lib.hid (show Blk W0 37 w.heap.size #[.int .i64 0, .int .i64 0, .int .i64 0, .int .i64 0, .int .i64 0, .int .i64 0, .int .i64 0, .bool false, .slice none 0 0] by rw [← hW0, ← hW1]; exact (Blk.new _ _ _).alloc _)
  have K0 := Lib.hid (show Keeps (Two pa pb) w W0 by rw [← hW0, ← hW1]; exact Keeps.of (wbox2 _ _ _))
  have S0 := Lib.hid (hS 0 w W0 h0 (by rw [← hW0, ← hW1]; exact Keeps.of (wbox2 _ _ _)))
  clear hS hN hf h0 hpa hpb
  try rw [hW1]
  have HW0 := Lib.hid hW0
  have HC5 := Lib.hid hc5
  clear hW1 hW0 hc5
  have CV := Lib.hid (show commandV 1 vs = ⟨1, 0, vs 0 - 1, 0, 0, vs 2, vs 3, vs 1 == 1, []⟩ from rfl)
  have N0 := Lib.hid (show ∀ W, S 0 W → Calls Try.prog 22 #[.int .i64 1073741824, .pointer (some ⟨pa, 0, none⟩), .pointer (some ⟨pb, 0, none⟩)] W (fun e W' => e = .returned (.int .i64 (vs 0)) ∧ S 1 W' ∧ Keeps (Two pa pb) W W') from fun W h => HN.out 0 W (by simp [cntC]) h)
  have v0 : 0 ≤ vs 0 ∧ vs 0 ≤ 1073741824 := HF.out 0 (by simp [cntC])
  have N1 := Lib.hid (show ∀ W, S 1 W → Calls Try.prog 22 #[.int .i64 1, .pointer (some ⟨pa, 0, none⟩), .pointer (some ⟨pb, 0, none⟩)] W (fun e W' => e = .returned (.int .i64 (vs 1)) ∧ S 2 W' ∧ Keeps (Two pa pb) W W') from fun W h => HN.out 1 W (by simp [cntC]) h)
  have v1 : 0 ≤ vs 1 ∧ vs 1 ≤ 1 := HF.out 1 (by simp [cntC])
  have N2 := Lib.hid (show ∀ W, S 2 W → Calls Try.prog 22 #[.int .i64 1073741824, .pointer (some ⟨pa, 0, none⟩), .pointer (some ⟨pb, 0, none⟩)] W (fun e W' => e = .returned (.int .i64 (vs 2)) ∧ S 3 W' ∧ Keeps (Two pa pb) W W') from fun W h => HN.out 2 W (by simp [cntC]) h)
  have v2 : 0 ≤ vs 2 ∧ vs 2 ≤ 1073741824 := HF.out 2 (by simp [cntC])
  have N3 := Lib.hid (show ∀ W, S 3 W → Calls Try.prog 22 #[.int .i64 1073741824, .pointer (some ⟨pa, 0, none⟩), .pointer (some ⟨pb, 0, none⟩)] W (fun e W' => e = .returned (.int .i64 (vs 3)) ∧ S 4 W' ∧ Keeps (Two pa pb) W W') from fun W h => HN.out 3 W (by simp [cntC]) h)
  have v3 : 0 ≤ vs 3 ∧ vs 3 ≤ 1073741824 := HF.out 3 (by simp [cntC])
  have wv : IntKind.i64.wrap (vs 0 - 1) = vs 0 - 1 := IntWalk.i64_in _ (by omega)
  go_wp2_with fail
  rw [HW0.out, HC5.out]
  try rw [hc5]
  refine (N0.out _ S0.out).mono ?_
  rintro e w1 ⟨rfl, hs, hk⟩
  have S1 := Lib.hid hs
  have A1 := Lib.hid (A0.out.keeps hk (by have := PA.out; have := PB.out; have := C5.out; unfold Two; omega))
  have B1 := Lib.hid (B0.out.keeps hk (by have := PA.out; have := PB.out; have := C5.out; unfold Two; omega))
  have K1 := Lib.hid (K0.out.trans hk (fun _ q => .inl q))
  clear hs hk
  have y1_2 := A1.out.cell 2; have f1_2 := A1.out.free 2
  simp at y1_2
  have Ag1 := Lib.hid (show Blk (w1.setCell ⟨c5, 2, none⟩ (.int .i64 (vs 0 - 1))) 37 c5 #[.int .i64 1, .int .i64 0, .int .i64 (vs 0 - 1), .int .i64 0, .int .i64 0, .int .i64 0, .int .i64 0, .bool false, .slice none 0 0] from (A1.out.set_ 2 (.int .i64 (vs 0 - 1))))
  have Bg1 := Lib.hid (far_blk (p := ⟨c5, 2, none⟩) B1.out (Nat.ne_of_lt C5.out) (.int .i64 (vs 0 - 1)))
  have Kg1 := Lib.hid (K1.out.set (.inr (Nat.le_of_lt C5.out)) 2 (.int .i64 (vs 0 - 1)))
  have Sg1 := Lib.hid (HS.out _ _ _ S1.out ((Keeps.refl (fun x => w.heap.size ≤ x) w1).set (.inl (Nat.le_of_lt C5.out)) 2 (.int .i64 (vs 0 - 1))))
  go_wp2_with fail
  refine (N1.out _ Sg1.out).mono ?_
  rintro e w2 ⟨rfl, hs, hk⟩
  have S2 := Lib.hid hs
  have A2 := Lib.hid (Ag1.out.keeps hk (by have := PA.out; have := PB.out; have := C5.out; unfold Two; omega))
  have B2 := Lib.hid (Bg1.out.keeps hk (by have := PA.out; have := PB.out; have := C5.out; unfold Two; omega))
  have K2 := Lib.hid (Kg1.out.trans hk (fun _ q => .inl q))
  clear hs hk
  have y2_7 := A2.out.cell 7; have f2_7 := A2.out.free 7
  simp at y2_7
  have Ag2 := Lib.hid (show Blk (w2.setCell ⟨c5, 7, none⟩ (.bool (vs 1 == 1))) 37 c5 #[.int .i64 1, .int .i64 0, .int .i64 (vs 0 - 1), .int .i64 0, .int .i64 0, .int .i64 0, .int .i64 0, .bool (vs 1 == 1), .slice none 0 0] from (A2.out.set_ 7 (.bool (vs 1 == 1))))
  have Bg2 := Lib.hid (far_blk (p := ⟨c5, 7, none⟩) B2.out (Nat.ne_of_lt C5.out) (.bool (vs 1 == 1)))
  have Kg2 := Lib.hid (K2.out.set (.inr (Nat.le_of_lt C5.out)) 7 (.bool (vs 1 == 1)))
  have Sg2 := Lib.hid (HS.out _ _ _ S2.out ((Keeps.refl (fun x => w.heap.size ≤ x) w2).set (.inl (Nat.le_of_lt C5.out)) 7 (.bool (vs 1 == 1))))
  go_wp2_with fail
  refine (N2.out _ Sg2.out).mono ?_
  rintro e w3 ⟨rfl, hs, hk⟩
  have S3 := Lib.hid hs
  have A3 := Lib.hid (Ag2.out.keeps hk (by have := PA.out; have := PB.out; have := C5.out; unfold Two; omega))
  have B3 := Lib.hid (Bg2.out.keeps hk (by have := PA.out; have := PB.out; have := C5.out; unfold Two; omega))
  have K3 := Lib.hid (Kg2.out.trans hk (fun _ q => .inl q))
  clear hs hk
  go_wp2_with fail
  refine (N3.out _ S3.out).mono ?_
  rintro e w4 ⟨rfl, hs, hk⟩
  have S4 := Lib.hid hs
  have A4 := Lib.hid (A3.out.keeps hk (by have := PA.out; have := PB.out; have := C5.out; unfold Two; omega))
  have B4 := Lib.hid (B3.out.keeps hk (by have := PA.out; have := PB.out; have := C5.out; unfold Two; omega))
  have K4 := Lib.hid (K3.out.trans hk (fun _ q => .inl q))
  clear hs hk
  have y3_5 := A4.out.cell 5; have f3_5 := A4.out.free 5
  have y3_6 := A4.out.cell 6; have f3_6 := A4.out.free 6
  simp at y3_5 y3_6
  have Ag3 := Lib.hid (show Blk ((w4.setCell ⟨c5, 5, none⟩ (.int .i64 (vs 2))).setCell ⟨c5, 6, none⟩ (.int .i64 (vs 3))) 37 c5 #[.int .i64 1, .int .i64 0, .int .i64 (vs 0 - 1), .int .i64 0, .int .i64 0, .int .i64 (vs 2), .int .i64 (vs 3), .bool (vs 1 == 1), .slice none 0 0] from ((A4.out.set_ 5 (.int .i64 (vs 2))).set_ 6 (.int .i64 (vs 3))))
  have Bg3 := Lib.hid (far_blk (p := ⟨c5, 6, none⟩) (far_blk (p := ⟨c5, 5, none⟩) B4.out (Nat.ne_of_lt C5.out) (.int .i64 (vs 2))) (Nat.ne_of_lt C5.out) (.int .i64 (vs 3)))
  have Kg3 := Lib.hid ((K4.out.set (.inr (Nat.le_of_lt C5.out)) 5 (.int .i64 (vs 2))).set (.inr (Nat.le_of_lt C5.out)) 6 (.int .i64 (vs 3)))
  have Sg3 := Lib.hid (HS.out _ _ _ S4.out (((Keeps.refl (fun x => w.heap.size ≤ x) w4).set (.inl (Nat.le_of_lt C5.out)) 5 (.int .i64 (vs 2))).set (.inl (Nat.le_of_lt C5.out)) 6 (.int .i64 (vs 3))))
  have u0 := Ag3.out.cell 0
  have u1 := Ag3.out.cell 1
  have u2 := Ag3.out.cell 2
  have u3 := Ag3.out.cell 3
  have u4 := Ag3.out.cell 4
  have u5 := Ag3.out.cell 5
  have u6 := Ag3.out.cell 6
  have u7 := Ag3.out.cell 7
  have u8 := Ag3.out.cell 8
  simp at u0 u1 u2 u3 u4 u5 u6 u7 u8
  have t0 := Bg3.out.cell 0; have r0 := Bg3.out.free 0
  have t1 := Bg3.out.cell 1; have r1 := Bg3.out.free 1
  have t2 := Bg3.out.cell 2; have r2 := Bg3.out.free 2
  have t3 := Bg3.out.cell 3; have r3 := Bg3.out.free 3
  have t4 := Bg3.out.cell 4; have r4 := Bg3.out.free 4
  have t5 := Bg3.out.cell 5; have r5 := Bg3.out.free 5
  have t6 := Bg3.out.cell 6; have r6 := Bg3.out.free 6
  have t7 := Bg3.out.cell 7; have r7 := Bg3.out.free 7
  have t8 := Bg3.out.cell 8; have r8 := Bg3.out.free 8
  simp at t0 t1 t2 t3 t4 t5 t6 t7 t8
  have EE := Lib.hid (Bg3.out.store9 (.int .i64 1) (.int .i64 0) (.int .i64 (vs 0 - 1)) (.int .i64 0) (.int .i64 0) (.int .i64 (vs 2)) (.int .i64 (vs 3)) (.bool (vs 1 == 1)) (.slice none 0 0))
  have KE := Lib.hid (((((((((Kg3.out.set (.inr (Nat.le_refl _)) 0 (.int .i64 1)).set (.inr (Nat.le_refl _)) 1 (.int .i64 0)).set (.inr (Nat.le_refl _)) 2 (.int .i64 (vs 0 - 1))).set (.inr (Nat.le_refl _)) 3 (.int .i64 0)).set (.inr (Nat.le_refl _)) 4 (.int .i64 0)).set (.inr (Nat.le_refl _)) 5 (.int .i64 (vs 2))).set (.inr (Nat.le_refl _)) 6 (.int .i64 (vs 3))).set (.inr (Nat.le_refl _)) 7 (.bool (vs 1 == 1))).set (.inr (Nat.le_refl _)) 8 (.slice none 0 0))
  have SE := Lib.hid (HS.out _ _ _ Sg3.out ((((((((((Keeps.refl (fun x => w.heap.size ≤ x) ((w4.setCell ⟨c5, 5, none⟩ (.int .i64 (vs 2))).setCell ⟨c5, 6, none⟩ (.int .i64 (vs 3)))).set (.inl (Nat.le_refl _)) 0 (.int .i64 1)).set (.inl (Nat.le_refl _)) 1 (.int .i64 0)).set (.inl (Nat.le_refl _)) 2 (.int .i64 (vs 0 - 1))).set (.inl (Nat.le_refl _)) 3 (.int .i64 0)).set (.inl (Nat.le_refl _)) 4 (.int .i64 0)).set (.inl (Nat.le_refl _)) 5 (.int .i64 (vs 2))).set (.inl (Nat.le_refl _)) 6 (.int .i64 (vs 3))).set (.inl (Nat.le_refl _)) 7 (.bool (vs 1 == 1))).set (.inl (Nat.le_refl _)) 8 (.slice none 0 0)))
  have e0 := EE.out.cell 0
  have e1 := EE.out.cell 1
  have e2 := EE.out.cell 2
  have e3 := EE.out.cell 3
  have e4 := EE.out.cell 4
  have e5 := EE.out.cell 5
  have e6 := EE.out.cell 6
  have e7 := EE.out.cell 7
  have e8 := EE.out.cell 8
  simp at e0 e1 e2 e3 e4 e5 e6 e7 e8
  go_wp2
  exact bodyPost_ret (v := .agg #[.int .i64 1, .int .i64 0, .int .i64 (vs 0 - 1), .int .i64 0, .int .i64 0, .int .i64 (vs 2), .int .i64 (vs 3), .bool (vs 1 == 1), .slice none 0 0]) (by simp [results, Try.results21, go_sem, e0, e1, e2, e3, e4, e5, e6, e7, e8]) rfl ⟨.slice none 0 0, rfl, PartsN.nil _ _, SE.out, KE.out⟩
set_option maxRecDepth 20000 in
set_option maxHeartbeats 4000000 in
theorem wcmdT2 (vs : Nat → Int) (pa pb : Nat) (S : Nat → World → Prop) (w : World) (hpa : pa < w.heap.size) (hpb : pb < w.heap.size)
    (hS : ∀ i W W', S i W → Keeps (fun x => w.heap.size ≤ x) W W' → S i W')
    (hN : ∀ i W, i < cntC 2 vs → S i W → Calls Try.prog 22 #[.int .i64 (mostC 2 i), .pointer (some ⟨pa, 0, none⟩), .pointer (some ⟨pb, 0, none⟩)] W fun e W' => e = .returned (.int .i64 (vs i)) ∧ S (i + 1) W' ∧ Keeps (Two pa pb) W W')
    (hf : FitC 2 vs) (h0 : S 0 w) :
    Calls Try.prog 21 #[.int .i64 2, .func (.func 22) #[] #[.pointer (some ⟨pa, 0, none⟩), .pointer (some ⟨pb, 0, none⟩)]] w (CmdO 2 vs pa pb S w) := by
  have HS := Lib.hid hS
  have HN := Lib.hid hN
  have HF := Lib.hid hf
  have PA := Lib.hid hpa
  have PB := Lib.hid hpb
  go_enter Try.func21, Try.ntmps21
  go_upto_region 1 with fail
  obtain ⟨W1, hW1⟩ : ∃ W1, w.alloc (.cells #[.int .i64 0, .int .i64 0, .int .i64 0, .int .i64 0, .int .i64 0, .int .i64 0, .int .i64 0, .bool false, .slice none 0 0] 37) = W1 := ⟨_, rfl⟩
  obtain ⟨c5, hc5⟩ : ∃ c5, W1.heap.size = c5 := ⟨_, rfl⟩
  obtain ⟨W0, hW0⟩ : ∃ W0, W1.alloc (.cells #[.int .i64 2, .int .i64 0, .int .i64 0, .int .i64 0, .int .i64 0, .int .i64 0, .int .i64 0, .bool false, .slice none 0 0] 37) = W0 := ⟨_, rfl⟩
  have C5 := Lib.hid (show w.heap.size < c5 by rw [← hc5, ← hW1]; simp)
  have A0 := Lib.hid (show Blk W0 37 c5 #[.int .i64 2, .int .i64 0, .int .i64 0, .int .i64 0, .int .i64 0, .int .i64 0, .int .i64 0, .bool false, .slice none 0 0] by rw [← hW0, ← hc5]; exact Blk.new _ _ _)
  have B0 := Lib.hid (show Blk W0 37 w.heap.size #[.int .i64 0, .int .i64 0, .int .i64 0, .int .i64 0, .int .i64 0, .int .i64 0, .int .i64 0, .bool false, .slice none 0 0] by rw [← hW0, ← hW1]; exact (Blk.new _ _ _).alloc _)
  have K0 := Lib.hid (show Keeps (Two pa pb) w W0 by rw [← hW0, ← hW1]; exact Keeps.of (wbox2 _ _ _))
  have S0 := Lib.hid (hS 0 w W0 h0 (by rw [← hW0, ← hW1]; exact Keeps.of (wbox2 _ _ _)))
  clear hS hN hf h0 hpa hpb
  try rw [hW1]
  have HW0 := Lib.hid hW0
  have HC5 := Lib.hid hc5
  clear hW1 hW0 hc5
  have CV := Lib.hid (show commandV 2 vs = ⟨2, vs 0, 0, 0, 0, 0, 0, false, []⟩ from rfl)
  have N0 := Lib.hid (show ∀ W, S 0 W → Calls Try.prog 22 #[.int .i64 1073741824, .pointer (some ⟨pa, 0, none⟩), .pointer (some ⟨pb, 0, none⟩)] W (fun e W' => e = .returned (.int .i64 (vs 0)) ∧ S 1 W' ∧ Keeps (Two pa pb) W W') from fun W h => HN.out 0 W (by simp [cntC]) h)
  have v0 : 0 ≤ vs 0 ∧ vs 0 ≤ 1073741824 := HF.out 0 (by simp [cntC])
  go_wp2_with fail
  rw [HW0.out, HC5.out]
  try rw [hc5]
  refine (N0.out _ S0.out).mono ?_
  rintro e w1 ⟨rfl, hs, hk⟩
  have S1 := Lib.hid hs
  have A1 := Lib.hid (A0.out.keeps hk (by have := PA.out; have := PB.out; have := C5.out; unfold Two; omega))
  have B1 := Lib.hid (B0.out.keeps hk (by have := PA.out; have := PB.out; have := C5.out; unfold Two; omega))
  have K1 := Lib.hid (K0.out.trans hk (fun _ q => .inl q))
  clear hs hk
  have y1_1 := A1.out.cell 1; have f1_1 := A1.out.free 1
  simp at y1_1
  have Ag1 := Lib.hid (show Blk (w1.setCell ⟨c5, 1, none⟩ (.int .i64 (vs 0))) 37 c5 #[.int .i64 2, .int .i64 (vs 0), .int .i64 0, .int .i64 0, .int .i64 0, .int .i64 0, .int .i64 0, .bool false, .slice none 0 0] from (A1.out.set_ 1 (.int .i64 (vs 0))))
  have Bg1 := Lib.hid (far_blk (p := ⟨c5, 1, none⟩) B1.out (Nat.ne_of_lt C5.out) (.int .i64 (vs 0)))
  have Kg1 := Lib.hid (K1.out.set (.inr (Nat.le_of_lt C5.out)) 1 (.int .i64 (vs 0)))
  have Sg1 := Lib.hid (HS.out _ _ _ S1.out ((Keeps.refl (fun x => w.heap.size ≤ x) w1).set (.inl (Nat.le_of_lt C5.out)) 1 (.int .i64 (vs 0))))
  have u0 := Ag1.out.cell 0
  have u1 := Ag1.out.cell 1
  have u2 := Ag1.out.cell 2
  have u3 := Ag1.out.cell 3
  have u4 := Ag1.out.cell 4
  have u5 := Ag1.out.cell 5
  have u6 := Ag1.out.cell 6
  have u7 := Ag1.out.cell 7
  have u8 := Ag1.out.cell 8
  simp at u0 u1 u2 u3 u4 u5 u6 u7 u8
  have t0 := Bg1.out.cell 0; have r0 := Bg1.out.free 0
  have t1 := Bg1.out.cell 1; have r1 := Bg1.out.free 1
  have t2 := Bg1.out.cell 2; have r2 := Bg1.out.free 2
  have t3 := Bg1.out.cell 3; have r3 := Bg1.out.free 3
  have t4 := Bg1.out.cell 4; have r4 := Bg1.out.free 4
  have t5 := Bg1.out.cell 5; have r5 := Bg1.out.free 5
  have t6 := Bg1.out.cell 6; have r6 := Bg1.out.free 6
  have t7 := Bg1.out.cell 7; have r7 := Bg1.out.free 7
  have t8 := Bg1.out.cell 8; have r8 := Bg1.out.free 8
  simp at t0 t1 t2 t3 t4 t5 t6 t7 t8
  have EE := Lib.hid (Bg1.out.store9 (.int .i64 2) (.int .i64 (vs 0)) (.int .i64 0) (.int .i64 0) (.int .i64 0) (.int .i64 0) (.int .i64 0) (.bool false) (.slice none 0 0))
  have KE := Lib.hid (((((((((Kg1.out.set (.inr (Nat.le_refl _)) 0 (.int .i64 2)).set (.inr (Nat.le_refl _)) 1 (.int .i64 (vs 0))).set (.inr (Nat.le_refl _)) 2 (.int .i64 0)).set (.inr (Nat.le_refl _)) 3 (.int .i64 0)).set (.inr (Nat.le_refl _)) 4 (.int .i64 0)).set (.inr (Nat.le_refl _)) 5 (.int .i64 0)).set (.inr (Nat.le_refl _)) 6 (.int .i64 0)).set (.inr (Nat.le_refl _)) 7 (.bool false)).set (.inr (Nat.le_refl _)) 8 (.slice none 0 0))
  have SE := Lib.hid (HS.out _ _ _ Sg1.out ((((((((((Keeps.refl (fun x => w.heap.size ≤ x) (w1.setCell ⟨c5, 1, none⟩ (.int .i64 (vs 0)))).set (.inl (Nat.le_refl _)) 0 (.int .i64 2)).set (.inl (Nat.le_refl _)) 1 (.int .i64 (vs 0))).set (.inl (Nat.le_refl _)) 2 (.int .i64 0)).set (.inl (Nat.le_refl _)) 3 (.int .i64 0)).set (.inl (Nat.le_refl _)) 4 (.int .i64 0)).set (.inl (Nat.le_refl _)) 5 (.int .i64 0)).set (.inl (Nat.le_refl _)) 6 (.int .i64 0)).set (.inl (Nat.le_refl _)) 7 (.bool false)).set (.inl (Nat.le_refl _)) 8 (.slice none 0 0)))
  have e0 := EE.out.cell 0
  have e1 := EE.out.cell 1
  have e2 := EE.out.cell 2
  have e3 := EE.out.cell 3
  have e4 := EE.out.cell 4
  have e5 := EE.out.cell 5
  have e6 := EE.out.cell 6
  have e7 := EE.out.cell 7
  have e8 := EE.out.cell 8
  simp at e0 e1 e2 e3 e4 e5 e6 e7 e8
  go_wp2
  exact bodyPost_ret (v := .agg #[.int .i64 2, .int .i64 (vs 0), .int .i64 0, .int .i64 0, .int .i64 0, .int .i64 0, .int .i64 0, .bool false, .slice none 0 0]) (by simp [results, Try.results21, go_sem, e0, e1, e2, e3, e4, e5, e6, e7, e8]) rfl ⟨.slice none 0 0, rfl, PartsN.nil _ _, SE.out, KE.out⟩
set_option maxRecDepth 20000 in
set_option maxHeartbeats 4000000 in
theorem wcmdT3 (vs : Nat → Int) (pa pb : Nat) (S : Nat → World → Prop) (w : World) (hpa : pa < w.heap.size) (hpb : pb < w.heap.size)
    (hS : ∀ i W W', S i W → Keeps (fun x => w.heap.size ≤ x) W W' → S i W')
    (hN : ∀ i W, i < cntC 3 vs → S i W → Calls Try.prog 22 #[.int .i64 (mostC 3 i), .pointer (some ⟨pa, 0, none⟩), .pointer (some ⟨pb, 0, none⟩)] W fun e W' => e = .returned (.int .i64 (vs i)) ∧ S (i + 1) W' ∧ Keeps (Two pa pb) W W')
    (hf : FitC 3 vs) (h0 : S 0 w) :
    Calls Try.prog 21 #[.int .i64 3, .func (.func 22) #[] #[.pointer (some ⟨pa, 0, none⟩), .pointer (some ⟨pb, 0, none⟩)]] w (CmdO 3 vs pa pb S w) := by
  have HS := Lib.hid hS
  have HN := Lib.hid hN
  have HF := Lib.hid hf
  have PA := Lib.hid hpa
  have PB := Lib.hid hpb
  go_enter Try.func21, Try.ntmps21
  go_upto_region 1 with fail
  obtain ⟨W1, hW1⟩ : ∃ W1, w.alloc (.cells #[.int .i64 0, .int .i64 0, .int .i64 0, .int .i64 0, .int .i64 0, .int .i64 0, .int .i64 0, .bool false, .slice none 0 0] 37) = W1 := ⟨_, rfl⟩
  obtain ⟨c5, hc5⟩ : ∃ c5, W1.heap.size = c5 := ⟨_, rfl⟩
  obtain ⟨W0, hW0⟩ : ∃ W0, W1.alloc (.cells #[.int .i64 3, .int .i64 0, .int .i64 0, .int .i64 0, .int .i64 0, .int .i64 0, .int .i64 0, .bool false, .slice none 0 0] 37) = W0 := ⟨_, rfl⟩
  have C5 := Lib.hid (show w.heap.size < c5 by rw [← hc5, ← hW1]; simp)
  have A0 := Lib.hid (show Blk W0 37 c5 #[.int .i64 3, .int .i64 0, .int .i64 0, .int .i64 0, .int .i64 0, .int .i64 0, .int .i64 0, .bool false, .slice none 0 0] by rw [← hW0, ← hc5]; exact Blk.new _ _ _)
  have B0 := Lib.hid (show Blk W0 37 w.heap.size #[.int .i64 0, .int .i64 0, .int .i64 0, .int .i64 0, .int .i64 0, .int .i64 0, .int .i64 0, .bool false, .slice none 0 0] by rw [← hW0, ← hW1]; exact (Blk.new _ _ _).alloc _)
  have K0 := Lib.hid (show Keeps (Two pa pb) w W0 by rw [← hW0, ← hW1]; exact Keeps.of (wbox2 _ _ _))
  have S0 := Lib.hid (hS 0 w W0 h0 (by rw [← hW0, ← hW1]; exact Keeps.of (wbox2 _ _ _)))
  clear hS hN hf h0 hpa hpb
  try rw [hW1]
  have HW0 := Lib.hid hW0
  have HC5 := Lib.hid hc5
  clear hW1 hW0 hc5
  have CV := Lib.hid (show commandV 3 vs = ⟨3, vs 0, 0, 0, 0, vs 1, vs 2, false, []⟩ from rfl)
  have N0 := Lib.hid (show ∀ W, S 0 W → Calls Try.prog 22 #[.int .i64 1073741824, .pointer (some ⟨pa, 0, none⟩), .pointer (some ⟨pb, 0, none⟩)] W (fun e W' => e = .returned (.int .i64 (vs 0)) ∧ S 1 W' ∧ Keeps (Two pa pb) W W') from fun W h => HN.out 0 W (by simp [cntC]) h)
  have v0 : 0 ≤ vs 0 ∧ vs 0 ≤ 1073741824 := HF.out 0 (by simp [cntC])
  have N1 := Lib.hid (show ∀ W, S 1 W → Calls Try.prog 22 #[.int .i64 1073741824, .pointer (some ⟨pa, 0, none⟩), .pointer (some ⟨pb, 0, none⟩)] W (fun e W' => e = .returned (.int .i64 (vs 1)) ∧ S 2 W' ∧ Keeps (Two pa pb) W W') from fun W h => HN.out 1 W (by simp [cntC]) h)
  have v1 : 0 ≤ vs 1 ∧ vs 1 ≤ 1073741824 := HF.out 1 (by simp [cntC])
  have N2 := Lib.hid (show ∀ W, S 2 W → Calls Try.prog 22 #[.int .i64 1073741824, .pointer (some ⟨pa, 0, none⟩), .pointer (some ⟨pb, 0, none⟩)] W (fun e W' => e = .returned (.int .i64 (vs 2)) ∧ S 3 W' ∧ Keeps (Two pa pb) W W') from fun W h => HN.out 2 W (by simp [cntC]) h)
  have v2 : 0 ≤ vs 2 ∧ vs 2 ≤ 1073741824 := HF.out 2 (by simp [cntC])
  go_wp2_with fail
  rw [HW0.out, HC5.out]
  try rw [hc5]
  refine (N0.out _ S0.out).mono ?_
  rintro e w1 ⟨rfl, hs, hk⟩
  have S1 := Lib.hid hs
  have A1 := Lib.hid (A0.out.keeps hk (by have := PA.out; have := PB.out; have := C5.out; unfold Two; omega))
  have B1 := Lib.hid (B0.out.keeps hk (by have := PA.out; have := PB.out; have := C5.out; unfold Two; omega))
  have K1 := Lib.hid (K0.out.trans hk (fun _ q => .inl q))
  clear hs hk
  have y1_1 := A1.out.cell 1; have f1_1 := A1.out.free 1
  simp at y1_1
  have Ag1 := Lib.hid (show Blk (w1.setCell ⟨c5, 1, none⟩ (.int .i64 (vs 0))) 37 c5 #[.int .i64 3, .int .i64 (vs 0), .int .i64 0, .int .i64 0, .int .i64 0, .int .i64 0, .int .i64 0, .bool false, .slice none 0 0] from (A1.out.set_ 1 (.int .i64 (vs 0))))
  have Bg1 := Lib.hid (far_blk (p := ⟨c5, 1, none⟩) B1.out (Nat.ne_of_lt C5.out) (.int .i64 (vs 0)))
  have Kg1 := Lib.hid (K1.out.set (.inr (Nat.le_of_lt C5.out)) 1 (.int .i64 (vs 0)))
  have Sg1 := Lib.hid (HS.out _ _ _ S1.out ((Keeps.refl (fun x => w.heap.size ≤ x) w1).set (.inl (Nat.le_of_lt C5.out)) 1 (.int .i64 (vs 0))))
  go_wp2_with fail
  refine (N1.out _ Sg1.out).mono ?_
  rintro e w2 ⟨rfl, hs, hk⟩
  have S2 := Lib.hid hs
  have A2 := Lib.hid (Ag1.out.keeps hk (by have := PA.out; have := PB.out; have := C5.out; unfold Two; omega))
  have B2 := Lib.hid (Bg1.out.keeps hk (by have := PA.out; have := PB.out; have := C5.out; unfold Two; omega))
  have K2 := Lib.hid (Kg1.out.trans hk (fun _ q => .inl q))
  clear hs hk
  go_wp2_with fail
  refine (N2.out _ S2.out).mono ?_
  rintro e w3 ⟨rfl, hs, hk⟩
  have S3 := Lib.hid hs
  have A3 := Lib.hid (A2.out.keeps hk (by have := PA.out; have := PB.out; have := C5.out; unfold Two; omega))
  have B3 := Lib.hid (B2.out.keeps hk (by have := PA.out; have := PB.out; have := C5.out; unfold Two; omega))
  have K3 := Lib.hid (K2.out.trans hk (fun _ q => .inl q))
  clear hs hk
  have y2_5 := A3.out.cell 5; have f2_5 := A3.out.free 5
  have y2_6 := A3.out.cell 6; have f2_6 := A3.out.free 6
  simp at y2_5 y2_6
  have Ag2 := Lib.hid (show Blk ((w3.setCell ⟨c5, 5, none⟩ (.int .i64 (vs 1))).setCell ⟨c5, 6, none⟩ (.int .i64 (vs 2))) 37 c5 #[.int .i64 3, .int .i64 (vs 0), .int .i64 0, .int .i64 0, .int .i64 0, .int .i64 (vs 1), .int .i64 (vs 2), .bool false, .slice none 0 0] from ((A3.out.set_ 5 (.int .i64 (vs 1))).set_ 6 (.int .i64 (vs 2))))
  have Bg2 := Lib.hid (far_blk (p := ⟨c5, 6, none⟩) (far_blk (p := ⟨c5, 5, none⟩) B3.out (Nat.ne_of_lt C5.out) (.int .i64 (vs 1))) (Nat.ne_of_lt C5.out) (.int .i64 (vs 2)))
  have Kg2 := Lib.hid ((K3.out.set (.inr (Nat.le_of_lt C5.out)) 5 (.int .i64 (vs 1))).set (.inr (Nat.le_of_lt C5.out)) 6 (.int .i64 (vs 2)))
  have Sg2 := Lib.hid (HS.out _ _ _ S3.out (((Keeps.refl (fun x => w.heap.size ≤ x) w3).set (.inl (Nat.le_of_lt C5.out)) 5 (.int .i64 (vs 1))).set (.inl (Nat.le_of_lt C5.out)) 6 (.int .i64 (vs 2))))
  have u0 := Ag2.out.cell 0
  have u1 := Ag2.out.cell 1
  have u2 := Ag2.out.cell 2
  have u3 := Ag2.out.cell 3
  have u4 := Ag2.out.cell 4
  have u5 := Ag2.out.cell 5
  have u6 := Ag2.out.cell 6
  have u7 := Ag2.out.cell 7
  have u8 := Ag2.out.cell 8
  simp at u0 u1 u2 u3 u4 u5 u6 u7 u8
  have t0 := Bg2.out.cell 0; have r0 := Bg2.out.free 0
  have t1 := Bg2.out.cell 1; have r1 := Bg2.out.free 1
  have t2 := Bg2.out.cell 2; have r2 := Bg2.out.free 2
  have t3 := Bg2.out.cell 3; have r3 := Bg2.out.free 3
  have t4 := Bg2.out.cell 4; have r4 := Bg2.out.free 4
  have t5 := Bg2.out.cell 5; have r5 := Bg2.out.free 5
  have t6 := Bg2.out.cell 6; have r6 := Bg2.out.free 6
  have t7 := Bg2.out.cell 7; have r7 := Bg2.out.free 7
  have t8 := Bg2.out.cell 8; have r8 := Bg2.out.free 8
  simp at t0 t1 t2 t3 t4 t5 t6 t7 t8
  have EE := Lib.hid (Bg2.out.store9 (.int .i64 3) (.int .i64 (vs 0)) (.int .i64 0) (.int .i64 0) (.int .i64 0) (.int .i64 (vs 1)) (.int .i64 (vs 2)) (.bool false) (.slice none 0 0))
  have KE := Lib.hid (((((((((Kg2.out.set (.inr (Nat.le_refl _)) 0 (.int .i64 3)).set (.inr (Nat.le_refl _)) 1 (.int .i64 (vs 0))).set (.inr (Nat.le_refl _)) 2 (.int .i64 0)).set (.inr (Nat.le_refl _)) 3 (.int .i64 0)).set (.inr (Nat.le_refl _)) 4 (.int .i64 0)).set (.inr (Nat.le_refl _)) 5 (.int .i64 (vs 1))).set (.inr (Nat.le_refl _)) 6 (.int .i64 (vs 2))).set (.inr (Nat.le_refl _)) 7 (.bool false)).set (.inr (Nat.le_refl _)) 8 (.slice none 0 0))
  have SE := Lib.hid (HS.out _ _ _ Sg2.out ((((((((((Keeps.refl (fun x => w.heap.size ≤ x) ((w3.setCell ⟨c5, 5, none⟩ (.int .i64 (vs 1))).setCell ⟨c5, 6, none⟩ (.int .i64 (vs 2)))).set (.inl (Nat.le_refl _)) 0 (.int .i64 3)).set (.inl (Nat.le_refl _)) 1 (.int .i64 (vs 0))).set (.inl (Nat.le_refl _)) 2 (.int .i64 0)).set (.inl (Nat.le_refl _)) 3 (.int .i64 0)).set (.inl (Nat.le_refl _)) 4 (.int .i64 0)).set (.inl (Nat.le_refl _)) 5 (.int .i64 (vs 1))).set (.inl (Nat.le_refl _)) 6 (.int .i64 (vs 2))).set (.inl (Nat.le_refl _)) 7 (.bool false)).set (.inl (Nat.le_refl _)) 8 (.slice none 0 0)))
  have e0 := EE.out.cell 0
  have e1 := EE.out.cell 1
  have e2 := EE.out.cell 2
  have e3 := EE.out.cell 3
  have e4 := EE.out.cell 4
  have e5 := EE.out.cell 5
  have e6 := EE.out.cell 6
  have e7 := EE.out.cell 7
  have e8 := EE.out.cell 8
  simp at e0 e1 e2 e3 e4 e5 e6 e7 e8
  go_wp2
  exact bodyPost_ret (v := .agg #[.int .i64 3, .int .i64 (vs 0), .int .i64 0, .int .i64 0, .int .i64 0, .int .i64 (vs 1), .int .i64 (vs 2), .bool false, .slice none 0 0]) (by simp [results, Try.results21, go_sem, e0, e1, e2, e3, e4, e5, e6, e7, e8]) rfl ⟨.slice none 0 0, rfl, PartsN.nil _ _, SE.out, KE.out⟩
set_option maxRecDepth 20000 in
set_option maxHeartbeats 4000000 in
theorem wcmdT4 (vs : Nat → Int) (pa pb : Nat) (S : Nat → World → Prop) (w : World) (hpa : pa < w.heap.size) (hpb : pb < w.heap.size)
    (hS : ∀ i W W', S i W → Keeps (fun x => w.heap.size ≤ x) W W' → S i W')
    (hN : ∀ i W, i < cntC 4 vs → S i W → Calls Try.prog 22 #[.int .i64 (mostC 4 i), .pointer (some ⟨pa, 0, none⟩), .pointer (some ⟨pb, 0, none⟩)] W fun e W' => e = .returned (.int .i64 (vs i)) ∧ S (i + 1) W' ∧ Keeps (Two pa pb) W W')
    (hf : FitC 4 vs) (h0 : S 0 w) :
    Calls Try.prog 21 #[.int .i64 4, .func (.func 22) #[] #[.pointer (some ⟨pa, 0, none⟩), .pointer (some ⟨pb, 0, none⟩)]] w (CmdO 4 vs pa pb S w) := by
  have HS := Lib.hid hS
  have HN := Lib.hid hN
  have HF := Lib.hid hf
  have PA := Lib.hid hpa
  have PB := Lib.hid hpb
  go_enter Try.func21, Try.ntmps21
  go_upto_region 1 with fail
  obtain ⟨W1, hW1⟩ : ∃ W1, w.alloc (.cells #[.int .i64 0, .int .i64 0, .int .i64 0, .int .i64 0, .int .i64 0, .int .i64 0, .int .i64 0, .bool false, .slice none 0 0] 37) = W1 := ⟨_, rfl⟩
  obtain ⟨c5, hc5⟩ : ∃ c5, W1.heap.size = c5 := ⟨_, rfl⟩
  obtain ⟨W0, hW0⟩ : ∃ W0, W1.alloc (.cells #[.int .i64 4, .int .i64 0, .int .i64 0, .int .i64 0, .int .i64 0, .int .i64 0, .int .i64 0, .bool false, .slice none 0 0] 37) = W0 := ⟨_, rfl⟩
  have C5 := Lib.hid (show w.heap.size < c5 by rw [← hc5, ← hW1]; simp)
  have A0 := Lib.hid (show Blk W0 37 c5 #[.int .i64 4, .int .i64 0, .int .i64 0, .int .i64 0, .int .i64 0, .int .i64 0, .int .i64 0, .bool false, .slice none 0 0] by rw [← hW0, ← hc5]; exact Blk.new _ _ _)
  have B0 := Lib.hid (show Blk W0 37 w.heap.size #[.int .i64 0, .int .i64 0, .int .i64 0, .int .i64 0, .int .i64 0, .int .i64 0, .int .i64 0, .bool false, .slice none 0 0] by rw [← hW0, ← hW1]; exact (Blk.new _ _ _).alloc _)
  have K0 := Lib.hid (show Keeps (Two pa pb) w W0 by rw [← hW0, ← hW1]; exact Keeps.of (wbox2 _ _ _))
  have S0 := Lib.hid (hS 0 w W0 h0 (by rw [← hW0, ← hW1]; exact Keeps.of (wbox2 _ _ _)))
  clear hS hN hf h0 hpa hpb
  try rw [hW1]
  have HW0 := Lib.hid hW0
  have HC5 := Lib.hid hc5
  clear hW1 hW0 hc5
  have CV := Lib.hid (show commandV 4 vs = ⟨4, vs 0, 0, vs 1, 0, 0, 0, false, []⟩ from rfl)
  have N0 := Lib.hid (show ∀ W, S 0 W → Calls Try.prog 22 #[.int .i64 1073741824, .pointer (some ⟨pa, 0, none⟩), .pointer (some ⟨pb, 0, none⟩)] W (fun e W' => e = .returned (.int .i64 (vs 0)) ∧ S 1 W' ∧ Keeps (Two pa pb) W W') from fun W h => HN.out 0 W (by simp [cntC]) h)
  have v0 : 0 ≤ vs 0 ∧ vs 0 ≤ 1073741824 := HF.out 0 (by simp [cntC])
  have N1 := Lib.hid (show ∀ W, S 1 W → Calls Try.prog 22 #[.int .i64 1073741824, .pointer (some ⟨pa, 0, none⟩), .pointer (some ⟨pb, 0, none⟩)] W (fun e W' => e = .returned (.int .i64 (vs 1)) ∧ S 2 W' ∧ Keeps (Two pa pb) W W') from fun W h => HN.out 1 W (by simp [cntC]) h)
  have v1 : 0 ≤ vs 1 ∧ vs 1 ≤ 1073741824 := HF.out 1 (by simp [cntC])
  go_wp2_with fail
  rw [HW0.out, HC5.out]
  try rw [hc5]
  refine (N0.out _ S0.out).mono ?_
  rintro e w1 ⟨rfl, hs, hk⟩
  have S1 := Lib.hid hs
  have A1 := Lib.hid (A0.out.keeps hk (by have := PA.out; have := PB.out; have := C5.out; unfold Two; omega))
  have B1 := Lib.hid (B0.out.keeps hk (by have := PA.out; have := PB.out; have := C5.out; unfold Two; omega))
  have K1 := Lib.hid (K0.out.trans hk (fun _ q => .inl q))
  clear hs hk
  go_wp2_with fail
  refine (N1.out _ S1.out).mono ?_
  rintro e w2 ⟨rfl, hs, hk⟩
  have S2 := Lib.hid hs
  have A2 := Lib.hid (A1.out.keeps hk (by have := PA.out; have := PB.out; have := C5.out; unfold Two; omega))
  have B2 := Lib.hid (B1.out.keeps hk (by have := PA.out; have := PB.out; have := C5.out; unfold Two; omega))
  have K2 := Lib.hid (K1.out.trans hk (fun _ q => .inl q))
  clear hs hk
  have y1_1 := A2.out.cell 1; have f1_1 := A2.out.free 1
  have y1_3 := A2.out.cell 3; have f1_3 := A2.out.free 3
  simp at y1_1 y1_3
  have Ag1 := Lib.hid (show Blk ((w2.setCell ⟨c5, 1, none⟩ (.int .i64 (vs 0))).setCell ⟨c5, 3, none⟩ (.int .i64 (vs 1))) 37 c5 #[.int .i64 4, .int .i64 (vs 0), .int .i64 0, .int .i64 (vs 1), .int .i64 0, .int .i64 0, .int .i64 0, .bool false, .slice none 0 0] from ((A2.out.set_ 1 (.int .i64 (vs 0))).set_ 3 (.int .i64 (vs 1))))
  have Bg1 := Lib.hid (far_blk (p := ⟨c5, 3, none⟩) (far_blk (p := ⟨c5, 1, none⟩) B2.out (Nat.ne_of_lt C5.out) (.int .i64 (vs 0))) (Nat.ne_of_lt C5.out) (.int .i64 (vs 1)))
  have Kg1 := Lib.hid ((K2.out.set (.inr (Nat.le_of_lt C5.out)) 1 (.int .i64 (vs 0))).set (.inr (Nat.le_of_lt C5.out)) 3 (.int .i64 (vs 1)))
  have Sg1 := Lib.hid (HS.out _ _ _ S2.out (((Keeps.refl (fun x => w.heap.size ≤ x) w2).set (.inl (Nat.le_of_lt C5.out)) 1 (.int .i64 (vs 0))).set (.inl (Nat.le_of_lt C5.out)) 3 (.int .i64 (vs 1))))
  have u0 := Ag1.out.cell 0
  have u1 := Ag1.out.cell 1
  have u2 := Ag1.out.cell 2
  have u3 := Ag1.out.cell 3
  have u4 := Ag1.out.cell 4
  have u5 := Ag1.out.cell 5
  have u6 := Ag1.out.cell 6
  have u7 := Ag1.out.cell 7
  have u8 := Ag1.out.cell 8
  simp at u0 u1 u2 u3 u4 u5 u6 u7 u8
  have t0 := Bg1.out.cell 0; have r0 := Bg1.out.free 0
  have t1 := Bg1.out.cell 1; have r1 := Bg1.out.free 1
  have t2 := Bg1.out.cell 2; have r2 := Bg1.out.free 2
  have t3 := Bg1.out.cell 3; have r3 := Bg1.out.free 3
  have t4 := Bg1.out.cell 4; have r4 := Bg1.out.free 4
  have t5 := Bg1.out.cell 5; have r5 := Bg1.out.free 5
  have t6 := Bg1.out.cell 6; have r6 := Bg1.out.free 6
  have t7 := Bg1.out.cell 7; have r7 := Bg1.out.free 7
  have t8 := Bg1.out.cell 8; have r8 := Bg1.out.free 8
  simp at t0 t1 t2 t3 t4 t5 t6 t7 t8
  have EE := Lib.hid (Bg1.out.store9 (.int .i64 4) (.int .i64 (vs 0)) (.int .i64 0) (.int .i64 (vs 1)) (.int .i64 0) (.int .i64 0) (.int .i64 0) (.bool false) (.slice none 0 0))
  have KE := Lib.hid (((((((((Kg1.out.set (.inr (Nat.le_refl _)) 0 (.int .i64 4)).set (.inr (Nat.le_refl _)) 1 (.int .i64 (vs 0))).set (.inr (Nat.le_refl _)) 2 (.int .i64 0)).set (.inr (Nat.le_refl _)) 3 (.int .i64 (vs 1))).set (.inr (Nat.le_refl _)) 4 (.int .i64 0)).set (.inr (Nat.le_refl _)) 5 (.int .i64 0)).set (.inr (Nat.le_refl _)) 6 (.int .i64 0)).set (.inr (Nat.le_refl _)) 7 (.bool false)).set (.inr (Nat.le_refl _)) 8 (.slice none 0 0))
  have SE := Lib.hid (HS.out _ _ _ Sg1.out ((((((((((Keeps.refl (fun x => w.heap.size ≤ x) ((w2.setCell ⟨c5, 1, none⟩ (.int .i64 (vs 0))).setCell ⟨c5, 3, none⟩ (.int .i64 (vs 1)))).set (.inl (Nat.le_refl _)) 0 (.int .i64 4)).set (.inl (Nat.le_refl _)) 1 (.int .i64 (vs 0))).set (.inl (Nat.le_refl _)) 2 (.int .i64 0)).set (.inl (Nat.le_refl _)) 3 (.int .i64 (vs 1))).set (.inl (Nat.le_refl _)) 4 (.int .i64 0)).set (.inl (Nat.le_refl _)) 5 (.int .i64 0)).set (.inl (Nat.le_refl _)) 6 (.int .i64 0)).set (.inl (Nat.le_refl _)) 7 (.bool false)).set (.inl (Nat.le_refl _)) 8 (.slice none 0 0)))
  have e0 := EE.out.cell 0
  have e1 := EE.out.cell 1
  have e2 := EE.out.cell 2
  have e3 := EE.out.cell 3
  have e4 := EE.out.cell 4
  have e5 := EE.out.cell 5
  have e6 := EE.out.cell 6
  have e7 := EE.out.cell 7
  have e8 := EE.out.cell 8
  simp at e0 e1 e2 e3 e4 e5 e6 e7 e8
  go_wp2
  exact bodyPost_ret (v := .agg #[.int .i64 4, .int .i64 (vs 0), .int .i64 0, .int .i64 (vs 1), .int .i64 0, .int .i64 0, .int .i64 0, .bool false, .slice none 0 0]) (by simp [results, Try.results21, go_sem, e0, e1, e2, e3, e4, e5, e6, e7, e8]) rfl ⟨.slice none 0 0, rfl, PartsN.nil _ _, SE.out, KE.out⟩
set_option maxRecDepth 20000 in
set_option maxHeartbeats 4000000 in
theorem wcmdT5 (vs : Nat → Int) (pa pb : Nat) (S : Nat → World → Prop) (w : World) (hpa : pa < w.heap.size) (hpb : pb < w.heap.size)
    (hS : ∀ i W W', S i W → Keeps (fun x => w.heap.size ≤ x) W W' → S i W')
    (hN : ∀ i W, i < cntC 5 vs → S i W → Calls Try.prog 22 #[.int .i64 (mostC 5 i), .pointer (some ⟨pa, 0, none⟩), .pointer (some ⟨pb, 0, none⟩)] W fun e W' => e = .returned (.int .i64 (vs i)) ∧ S (i + 1) W' ∧ Keeps (Two pa pb) W W')
    (hf : FitC 5 vs) (h0 : S 0 w) :
    Calls Try.prog 21 #[.int .i64 5, .func (.func 22) #[] #[.pointer (some ⟨pa, 0, none⟩), .pointer (some ⟨pb, 0, none⟩)]] w (CmdO 5 vs pa pb S w) := by
  have HS := Lib.hid hS
  have HN := Lib.hid hN
  have HF := Lib.hid hf
  have PA := Lib.hid hpa
  have PB := Lib.hid hpb
  go_enter Try.func21, Try.ntmps21
  go_upto_region 1 with fail
  obtain ⟨W1, hW1⟩ : ∃ W1, w.alloc (.cells #[.int .i64 0, .int .i64 0, .int .i64 0, .int .i64 0, .int .i64 0, .int .i64 0, .int .i64 0, .bool false, .slice none 0 0] 37) = W1 := ⟨_, rfl⟩
  obtain ⟨c5, hc5⟩ : ∃ c5, W1.heap.size = c5 := ⟨_, rfl⟩
  obtain ⟨W0, hW0⟩ : ∃ W0, W1.alloc (.cells #[.int .i64 5, .int .i64 0, .int .i64 0, .int .i64 0, .int .i64 0, .int .i64 0, .int .i64 0, .bool false, .slice none 0 0] 37) = W0 := ⟨_, rfl⟩
  have C5 := Lib.hid (show w.heap.size < c5 by rw [← hc5, ← hW1]; simp)
  have A0 := Lib.hid (show Blk W0 37 c5 #[.int .i64 5, .int .i64 0, .int .i64 0, .int .i64 0, .int .i64 0, .int .i64 0, .int .i64 0, .bool false, .slice none 0 0] by rw [← hW0, ← hc5]; exact Blk.new _ _ _)
  have B0 := Lib.hid (show Blk W0 37 w.heap.size #[.int .i64 0, .int .i64 0, .int .i64 0, .int .i64 0, .int .i64 0, .int .i64 0, .int .i64 0, .bool false, .slice none 0 0] by rw [← hW0, ← hW1]; exact (Blk.new _ _ _).alloc _)
  have K0 := Lib.hid (show Keeps (Two pa pb) w W0 by rw [← hW0, ← hW1]; exact Keeps.of (wbox2 _ _ _))
  have S0 := Lib.hid (hS 0 w W0 h0 (by rw [← hW0, ← hW1]; exact Keeps.of (wbox2 _ _ _)))
  clear hS hN hf h0 hpa hpb
  try rw [hW1]
  have HW0 := Lib.hid hW0
  have HC5 := Lib.hid hc5
  clear hW1 hW0 hc5
  have CV := Lib.hid (show commandV 5 vs = ⟨5, 0, 0, vs 0, 0, 0, 0, false, []⟩ from rfl)
  have N0 := Lib.hid (show ∀ W, S 0 W → Calls Try.prog 22 #[.int .i64 1073741824, .pointer (some ⟨pa, 0, none⟩), .pointer (some ⟨pb, 0, none⟩)] W (fun e W' => e = .returned (.int .i64 (vs 0)) ∧ S 1 W' ∧ Keeps (Two pa pb) W W') from fun W h => HN.out 0 W (by simp [cntC]) h)
  have v0 : 0 ≤ vs 0 ∧ vs 0 ≤ 1073741824 := HF.out 0 (by simp [cntC])
  go_wp2_with fail
  rw [HW0.out, HC5.out]
  try rw [hc5]
  refine (N0.out _ S0.out).mono ?_
  rintro e w1 ⟨rfl, hs, hk⟩
  have S1 := Lib.hid hs
  have A1 := Lib.hid (A0.out.keeps hk (by have := PA.out; have := PB.out; have := C5.out; unfold Two; omega))
  have B1 := Lib.hid (B0.out.keeps hk (by have := PA.out; have := PB.out; have := C5.out; unfold Two; omega))
  have K1 := Lib.hid (K0.out.trans hk (fun _ q => .inl q))
  clear hs hk
  have y1_3 := A1.out.cell 3; have f1_3 := A1.out.free 3
  simp at y1_3
  have Ag1 := Lib.hid (show Blk (w1.setCell ⟨c5, 3, none⟩ (.int .i64 (vs 0))) 37 c5 #[.int .i64 5, .int .i64 0, .int .i64 0, .int .i64 (vs 0), .int .i64 0, .int .i64 0, .int .i64 0, .bool false, .slice none 0 0] from (A1.out.set_ 3 (.int .i64 (vs 0))))
  have Bg1 := Lib.hid (far_blk (p := ⟨c5, 3, none⟩) B1.out (Nat.ne_of_lt C5.out) (.int .i64 (vs 0)))
  have Kg1 := Lib.hid (K1.out.set (.inr (Nat.le_of_lt C5.out)) 3 (.int .i64 (vs 0)))
  have Sg1 := Lib.hid (HS.out _ _ _ S1.out ((Keeps.refl (fun x => w.heap.size ≤ x) w1).set (.inl (Nat.le_of_lt C5.out)) 3 (.int .i64 (vs 0))))
  have u0 := Ag1.out.cell 0
  have u1 := Ag1.out.cell 1
  have u2 := Ag1.out.cell 2
  have u3 := Ag1.out.cell 3
  have u4 := Ag1.out.cell 4
  have u5 := Ag1.out.cell 5
  have u6 := Ag1.out.cell 6
  have u7 := Ag1.out.cell 7
  have u8 := Ag1.out.cell 8
  simp at u0 u1 u2 u3 u4 u5 u6 u7 u8
  have t0 := Bg1.out.cell 0; have r0 := Bg1.out.free 0
  have t1 := Bg1.out.cell 1; have r1 := Bg1.out.free 1
  have t2 := Bg1.out.cell 2; have r2 := Bg1.out.free 2
  have t3 := Bg1.out.cell 3; have r3 := Bg1.out.free 3
  have t4 := Bg1.out.cell 4; have r4 := Bg1.out.free 4
  have t5 := Bg1.out.cell 5; have r5 := Bg1.out.free 5
  have t6 := Bg1.out.cell 6; have r6 := Bg1.out.free 6
  have t7 := Bg1.out.cell 7; have r7 := Bg1.out.free 7
  have t8 := Bg1.out.cell 8; have r8 := Bg1.out.free 8
  simp at t0 t1 t2 t3 t4 t5 t6 t7 t8
  have EE := Lib.hid (Bg1.out.store9 (.int .i64 5) (.int .i64 0) (.int .i64 0) (.int .i64 (vs 0)) (.int .i64 0) (.int .i64 0) (.int .i64 0) (.bool false) (.slice none 0 0))
  have KE := Lib.hid (((((((((Kg1.out.set (.inr (Nat.le_refl _)) 0 (.int .i64 5)).set (.inr (Nat.le_refl _)) 1 (.int .i64 0)).set (.inr (Nat.le_refl _)) 2 (.int .i64 0)).set (.inr (Nat.le_refl _)) 3 (.int .i64 (vs 0))).set (.inr (Nat.le_refl _)) 4 (.int .i64 0)).set (.inr (Nat.le_refl _)) 5 (.int .i64 0)).set (.inr (Nat.le_refl _)) 6 (.int .i64 0)).set (.inr (Nat.le_refl _)) 7 (.bool false)).set (.inr (Nat.le_refl _)) 8 (.slice none 0 0))
  have SE := Lib.hid (HS.out _ _ _ Sg1.out ((((((((((Keeps.refl (fun x => w.heap.size ≤ x) (w1.setCell ⟨c5, 3, none⟩ (.int .i64 (vs 0)))).set (.inl (Nat.le_refl _)) 0 (.int .i64 5)).set (.inl (Nat.le_refl _)) 1 (.int .i64 0)).set (.inl (Nat.le_refl _)) 2 (.int .i64 0)).set (.inl (Nat.le_refl _)) 3 (.int .i64 (vs 0))).set (.inl (Nat.le_refl _)) 4 (.int .i64 0)).set (.inl (Nat.le_refl _)) 5 (.int .i64 0)).set (.inl (Nat.le_refl _)) 6 (.int .i64 0)).set (.inl (Nat.le_refl _)) 7 (.bool false)).set (.inl (Nat.le_refl _)) 8 (.slice none 0 0)))
  have e0 := EE.out.cell 0
  have e1 := EE.out.cell 1
  have e2 := EE.out.cell 2
  have e3 := EE.out.cell 3
  have e4 := EE.out.cell 4
  have e5 := EE.out.cell 5
  have e6 := EE.out.cell 6
  have e7 := EE.out.cell 7
  have e8 := EE.out.cell 8
  simp at e0 e1 e2 e3 e4 e5 e6 e7 e8
  go_wp2
  exact bodyPost_ret (v := .agg #[.int .i64 5, .int .i64 0, .int .i64 0, .int .i64 (vs 0), .int .i64 0, .int .i64 0, .int .i64 0, .bool false, .slice none 0 0]) (by simp [results, Try.results21, go_sem, e0, e1, e2, e3, e4, e5, e6, e7, e8]) rfl ⟨.slice none 0 0, rfl, PartsN.nil _ _, SE.out, KE.out⟩
set_option maxRecDepth 20000 in
set_option maxHeartbeats 4000000 in
theorem wcmdT7 (vs : Nat → Int) (pa pb : Nat) (S : Nat → World → Prop) (w : World) (hpa : pa < w.heap.size) (hpb : pb < w.heap.size)
    (hS : ∀ i W W', S i W → Keeps (fun x => w.heap.size ≤ x) W W' → S i W')
    (hN : ∀ i W, i < cntC 7 vs → S i W → Calls Try.prog 22 #[.int .i64 (mostC 7 i), .pointer (some ⟨pa, 0, none⟩), .pointer (some ⟨pb, 0, none⟩)] W fun e W' => e = .returned (.int .i64 (vs i)) ∧ S (i + 1) W' ∧ Keeps (Two pa pb) W W')
    (hf : FitC 7 vs) (h0 : S 0 w) :
    Calls Try.prog 21 #[.int .i64 7, .func (.func 22) #[] #[.pointer (some ⟨pa, 0, none⟩), .pointer (some ⟨pb, 0, none⟩)]] w (CmdO 7 vs pa pb S w) := by
  have HS := Lib.hid hS
  have HN := Lib.hid hN
  have HF := Lib.hid hf
  have PA := Lib.hid hpa
  have PB := Lib.hid hpb
  go_enter Try.func21, Try.ntmps21
  go_upto_region 1 with fail
  obtain ⟨W1, hW1⟩ : ∃ W1, w.alloc (.cells #[.int .i64 0, .int .i64 0, .int .i64 0, .int .i64 0, .int .i64 0, .int .i64 0, .int .i64 0, .bool false, .slice none 0 0] 37) = W1 := ⟨_, rfl⟩
  obtain ⟨c5, hc5⟩ : ∃ c5, W1.heap.size = c5 := ⟨_, rfl⟩
  obtain ⟨W0, hW0⟩ : ∃ W0, W1.alloc (.cells #[.int .i64 7, .int .i64 0, .int .i64 0, .int .i64 0, .int .i64 0, .int .i64 0, .int .i64 0, .bool false, .slice none 0 0] 37) = W0 := ⟨_, rfl⟩
  have C5 := Lib.hid (show w.heap.size < c5 by rw [← hc5, ← hW1]; simp)
  have A0 := Lib.hid (show Blk W0 37 c5 #[.int .i64 7, .int .i64 0, .int .i64 0, .int .i64 0, .int .i64 0, .int .i64 0, .int .i64 0, .bool false, .slice none 0 0] by rw [← hW0, ← hc5]; exact Blk.new _ _ _)
  have B0 := Lib.hid (show Blk W0 37 w.heap.size #[.int .i64 0, .int .i64 0, .int .i64 0, .int .i64 0, .int .i64 0, .int .i64 0, .int .i64 0, .bool false, .slice none 0 0] by rw [← hW0, ← hW1]; exact (Blk.new _ _ _).alloc _)
  have K0 := Lib.hid (show Keeps (Two pa pb) w W0 by rw [← hW0, ← hW1]; exact Keeps.of (wbox2 _ _ _))
  have S0 := Lib.hid (hS 0 w W0 h0 (by rw [← hW0, ← hW1]; exact Keeps.of (wbox2 _ _ _)))
  clear hS hN hf h0 hpa hpb
  try rw [hW1]
  have HW0 := Lib.hid hW0
  have HC5 := Lib.hid hc5
  clear hW1 hW0 hc5
  have CV := Lib.hid (show commandV 7 vs = ⟨7, vs 0, 0, 0, 0, 0, 0, false, []⟩ from rfl)
  have N0 := Lib.hid (show ∀ W, S 0 W → Calls Try.prog 22 #[.int .i64 1073741824, .pointer (some ⟨pa, 0, none⟩), .pointer (some ⟨pb, 0, none⟩)] W (fun e W' => e = .returned (.int .i64 (vs 0)) ∧ S 1 W' ∧ Keeps (Two pa pb) W W') from fun W h => HN.out 0 W (by simp [cntC]) h)
  have v0 : 0 ≤ vs 0 ∧ vs 0 ≤ 1073741824 := HF.out 0 (by simp [cntC])
  go_wp2_with fail
  rw [HW0.out, HC5.out]
  try rw [hc5]
  refine (N0.out _ S0.out).mono ?_
  rintro e w1 ⟨rfl, hs, hk⟩
  have S1 := Lib.hid hs
  have A1 := Lib.hid (A0.out.keeps hk (by have := PA.out; have := PB.out; have := C5.out; unfold Two; omega))
  have B1 := Lib.hid (B0.out.keeps hk (by have := PA.out; have := PB.out; have := C5.out; unfold Two; omega))
  have K1 := Lib.hid (K0.out.trans hk (fun _ q => .inl q))
  clear hs hk
  have y1_1 := A1.out.cell 1; have f1_1 := A1.out.free 1
  simp at y1_1
  have Ag1 := Lib.hid (show Blk (w1.setCell ⟨c5, 1, none⟩ (.int .i64 (vs 0))) 37 c5 #[.int .i64 7, .int .i64 (vs 0), .int .i64 0, .int .i64 0, .int .i64 0, .int .i64 0, .int .i64 0, .bool false, .slice none 0 0] from (A1.out.set_ 1 (.int .i64 (vs 0))))
  have Bg1 := Lib.hid (far_blk (p := ⟨c5, 1, none⟩) B1.out (Nat.ne_of_lt C5.out) (.int .i64 (vs 0)))
  have Kg1 := Lib.hid (K1.out.set (.inr (Nat.le_of_lt C5.out)) 1 (.int .i64 (vs 0)))
  have Sg1 := Lib.hid (HS.out _ _ _ S1.out ((Keeps.refl (fun x => w.heap.size ≤ x) w1).set (.inl (Nat.le_of_lt C5.out)) 1 (.int .i64 (vs 0))))
  have u0 := Ag1.out.cell 0
  have u1 := Ag1.out.cell 1
  have u2 := Ag1.out.cell 2
  have u3 := Ag1.out.cell 3
  have u4 := Ag1.out.cell 4
  have u5 := Ag1.out.cell 5
  have u6 := Ag1.out.cell 6
  have u7 := Ag1.out.cell 7
  have u8 := Ag1.out.cell 8
  simp at u0 u1 u2 u3 u4 u5 u6 u7 u8
  have t0 := Bg1.out.cell 0; have r0 := Bg1.out.free 0
  have t1 := Bg1.out.cell 1; have r1 := Bg1.out.free 1
  have t2 := Bg1.out.cell 2; have r2 := Bg1.out.free 2
  have t3 := Bg1.out.cell 3; have r3 := Bg1.out.free 3
  have t4 := Bg1.out.cell 4; have r4 := Bg1.out.free 4
  have t5 := Bg1.out.cell 5; have r5 := Bg1.out.free 5
  have t6 := Bg1.out.cell 6; have r6 := Bg1.out.free 6
  have t7 := Bg1.out.cell 7; have r7 := Bg1.out.free 7
  have t8 := Bg1.out.cell 8; have r8 := Bg1.out.free 8
  simp at t0 t1 t2 t3 t4 t5 t6 t7 t8
  have EE := Lib.hid (Bg1.out.store9 (.int .i64 7) (.int .i64 (vs 0)) (.int .i64 0) (.int .i64 0) (.int .i64 0) (.int .i64 0) (.int .i64 0) (.bool false) (.slice none 0 0))
  have KE := Lib.hid (((((((((Kg1.out.set (.inr (Nat.le_refl _)) 0 (.int .i64 7)).set (.inr (Nat.le_refl _)) 1 (.int .i64 (vs 0))).set (.inr (Nat.le_refl _)) 2 (.int .i64 0)).set (.inr (Nat.le_refl _)) 3 (.int .i64 0)).set (.inr (Nat.le_refl _)) 4 (.int .i64 0)).set (.inr (Nat.le_refl _)) 5 (.int .i64 0)).set (.inr (Nat.le_refl _)) 6 (.int .i64 0)).set (.inr (Nat.le_refl _)) 7 (.bool false)).set (.inr (Nat.le_refl _)) 8 (.slice none 0 0))
  have SE := Lib.hid (HS.out _ _ _ Sg1.out ((((((((((Keeps.refl (fun x => w.heap.size ≤ x) (w1.setCell ⟨c5, 1, none⟩ (.int .i64 (vs 0)))).set (.inl (Nat.le_refl _)) 0 (.int .i64 7)).set (.inl (Nat.le_refl _)) 1 (.int .i64 (vs 0))).set (.inl (Nat.le_refl _)) 2 (.int .i64 0)).set (.inl (Nat.le_refl _)) 3 (.int .i64 0)).set (.inl (Nat.le_refl _)) 4 (.int .i64 0)).set (.inl (Nat.le_refl _)) 5 (.int .i64 0)).set (.inl (Nat.le_refl _)) 6 (.int .i64 0)).set (.inl (Nat.le_refl _)) 7 (.bool false)).set (.inl (Nat.le_refl _)) 8 (.slice none 0 0)))
  have e0 := EE.out.cell 0
  have e1 := EE.out.cell 1
  have e2 := EE.out.cell 2
  have e3 := EE.out.cell 3
  have e4 := EE.out.cell 4
  have e5 := EE.out.cell 5
  have e6 := EE.out.cell 6
  have e7 := EE.out.cell 7
  have e8 := EE.out.cell 8
  simp at e0 e1 e2 e3 e4 e5 e6 e7 e8
  go_wp2
  exact bodyPost_ret (v := .agg #[.int .i64 7, .int .i64 (vs 0), .int .i64 0, .int .i64 0, .int .i64 0, .int .i64 0, .int .i64 0, .bool false, .slice none 0 0]) (by simp [results, Try.results21, go_sem, e0, e1, e2, e3, e4, e5, e6, e7, e8]) rfl ⟨.slice none 0 0, rfl, PartsN.nil _ _, SE.out, KE.out⟩
end Go.Proofs.Ytlcagjmppmajeaa
