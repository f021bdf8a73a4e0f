/-
  Package wire's command, whose fields the closure regatta/wire.first$1 tells: contract.
-/
import Derived.Test.YtlcagjmppmajeaaWq4
namespace Go.Proofs.Ytlcagjmppmajeaa
open Go.RowKit

set_option maxRecDepth 20000 in
set_option maxHeartbeats 8000000 in
theorem wcmdN6 (vs : Nat → Int) (pa pb : Nat) (S : Nat → World → Prop) (w : World) (hpa : pa < w.heap.size) (hpb : pb < w.heap.size)
    (hS : ∀ i W W', S i W → Keeps (fun x => w.heap.size ≤ x) W W' → S i W')
    (hN : ∀ i W, i < cntC 6 vs → S i W → Calls Try.prog 27 #[.int .i64 (mostC 6 i), .pointer (some ⟨pa, 0, none⟩), .pointer (some ⟨pb, 0, none⟩)] W fun e W' => e = .returned (.int .i64 (vs i)) ∧ S (i + 1) W' ∧ Keeps (Two pa pb) W W')
    (hf : FitC 6 vs) (h0 : S 0 w) :
    Calls Try.prog 21 #[.int .i64 6, .func (.func 27) #[] #[.pointer (some ⟨pa, 0, none⟩), .pointer (some ⟨pb, 0, none⟩)]] w (CmdO 6 vs pa pb S w) := by
  have HS := Lib.hid hS
  have HN := Lib.hid hN
  have HF := Lib.hid hf
  have PA := Lib.hid hpa
  have PB := Lib.hid hpb
  go_enter Try.func21, Try.ntmps21
  go_upto_region 1 with fail
  obtain ⟨W1, hW1⟩ : ∃ W1, w.alloc (.cells #[.int .i64 0, .int .i64 0, .int .i64 0, .int .i64 0, .int .i64 0, .int .i64 0, .int .i64 0, .bool false, .slice none 0 0] 37) = W1 := ⟨_, rfl⟩
  obtain ⟨c5, hc5⟩ : ∃ c5, W1.heap.size = c5 := ⟨_, rfl⟩
  obtain ⟨W0, hW0⟩ : ∃ W0, W1.alloc (.cells #[.int .i64 6, .int .i64 0, .int .i64 0, .int .i64 0, .int .i64 0, .int .i64 0, .int .i64 0, .bool false, .slice none 0 0] 37) = W0 := ⟨_, rfl⟩
  have C5 := Lib.hid (show w.heap.size < c5 by rw [← hc5, ← hW1]; simp)
  have A0 := Lib.hid (show Blk W0 37 c5 #[.int .i64 6, .int .i64 0, .int .i64 0, .int .i64 0, .int .i64 0, .int .i64 0, .int .i64 0, .bool false, .slice none 0 0] by rw [← hW0, ← hc5]; exact Blk.new _ _ _)
  have B0 := Lib.hid (show Blk W0 37 w.heap.size #[.int .i64 0, .int .i64 0, .int .i64 0, .int .i64 0, .int .i64 0, .int .i64 0, .int .i64 0, .bool false, .slice none 0 0] by rw [← hW0, ← hW1]; exact (Blk.new _ _ _).alloc _)
  have K0 := Lib.hid (show Keeps (Two pa pb) w W0 by rw [← hW0, ← hW1]; exact Keeps.of (wbox2 _ _ _))
  have S0 := Lib.hid (hS 0 w W0 h0 (by rw [← hW0, ← hW1]; exact Keeps.of (wbox2 _ _ _)))
  clear hS hN hf h0 hpa hpb
  try rw [hW1]
  have HW0 := Lib.hid hW0
  have HC5 := Lib.hid hc5
  clear hW1 hW0 hc5
  have CV := Lib.hid (show commandV 6 vs = ⟨6, 0, vs 0 - 1, 0, vs 1, 0, 0, false, partsN vs (vs 2).toNat⟩ from rfl)
  have N0 := Lib.hid (show ∀ W, S 0 W → Calls Try.prog 27 #[.int .i64 1073741824, .pointer (some ⟨pa, 0, none⟩), .pointer (some ⟨pb, 0, none⟩)] W (fun e W' => e = .returned (.int .i64 (vs 0)) ∧ S 1 W' ∧ Keeps (Two pa pb) W W') from fun W h => HN.out 0 W (by simp [cntC]; omega) h)
  have v0 : 0 ≤ vs 0 ∧ vs 0 ≤ 1073741824 := HF.out 0 (by simp [cntC]; omega)
  have N1 := Lib.hid (show ∀ W, S 1 W → Calls Try.prog 27 #[.int .i64 1073741824, .pointer (some ⟨pa, 0, none⟩), .pointer (some ⟨pb, 0, none⟩)] W (fun e W' => e = .returned (.int .i64 (vs 1)) ∧ S 2 W' ∧ Keeps (Two pa pb) W W') from fun W h => HN.out 1 W (by simp [cntC]; omega) h)
  have v1 : 0 ≤ vs 1 ∧ vs 1 ≤ 1073741824 := HF.out 1 (by simp [cntC]; omega)
  have N2 := Lib.hid (show ∀ W, S 2 W → Calls Try.prog 27 #[.int .i64 8, .pointer (some ⟨pa, 0, none⟩), .pointer (some ⟨pb, 0, none⟩)] W (fun e W' => e = .returned (.int .i64 (vs 2)) ∧ S 3 W' ∧ Keeps (Two pa pb) W W') from fun W h => HN.out 2 W (by simp [cntC]; omega) h)
  have v2 : 0 ≤ vs 2 ∧ vs 2 ≤ 8 := HF.out 2 (by simp [cntC]; omega)
  have wv : IntKind.i64.wrap (vs 0 - 1) = vs 0 - 1 := IntWalk.i64_in _ (by omega)
  go_wp2_with fail
  rw [HW0.out, HC5.out]
  try rw [hc5]
  refine (N0.out _ S0.out).mono ?_
  rintro e w1 ⟨rfl, hs, hk⟩
  have S1 := Lib.hid hs
  have A1 := Lib.hid (A0.out.keeps hk (by have := PA.out; have := PB.out; have := C5.out; unfold Two; omega))
  have B1 := Lib.hid (B0.out.keeps hk (by have := PA.out; have := PB.out; have := C5.out; unfold Two; omega))
  have K1 := Lib.hid (K0.out.trans hk (fun _ q => .inl q))
  clear hs hk
  have y1_2 := A1.out.cell 2; have f1_2 := A1.out.free 2
  simp at y1_2
  have Ag1 := Lib.hid (show Blk (w1.setCell ⟨c5, 2, none⟩ (.int .i64 (vs 0 - 1))) 37 c5 #[.int .i64 6, .int .i64 0, .int .i64 (vs 0 - 1), .int .i64 0, .int .i64 0, .int .i64 0, .int .i64 0, .bool false, .slice none 0 0] from (A1.out.set_ 2 (.int .i64 (vs 0 - 1))))
  have Bg1 := Lib.hid (far_blk (p := ⟨c5, 2, none⟩) B1.out (Nat.ne_of_lt C5.out) (.int .i64 (vs 0 - 1)))
  have Kg1 := Lib.hid (K1.out.set (.inr (Nat.le_of_lt C5.out)) 2 (.int .i64 (vs 0 - 1)))
  have Sg1 := Lib.hid (HS.out _ _ _ S1.out ((Keeps.refl (fun x => w.heap.size ≤ x) w1).set (.inl (Nat.le_of_lt C5.out)) 2 (.int .i64 (vs 0 - 1))))
  go_wp2_with fail
  refine (N1.out _ Sg1.out).mono ?_
  rintro e w2 ⟨rfl, hs, hk⟩
  have S2 := Lib.hid hs
  have A2 := Lib.hid (Ag1.out.keeps hk (by have := PA.out; have := PB.out; have := C5.out; unfold Two; omega))
  have B2 := Lib.hid (Bg1.out.keeps hk (by have := PA.out; have := PB.out; have := C5.out; unfold Two; omega))
  have K2 := Lib.hid (Kg1.out.trans hk (fun _ q => .inl q))
  clear hs hk
  have y2_4 := A2.out.cell 4; have f2_4 := A2.out.free 4
  simp at y2_4
  have Ag2 := Lib.hid (show Blk (w2.setCell ⟨c5, 4, none⟩ (.int .i64 (vs 1))) 37 c5 #[.int .i64 6, .int .i64 0, .int .i64 (vs 0 - 1), .int .i64 0, .int .i64 (vs 1), .int .i64 0, .int .i64 0, .bool false, .slice none 0 0] from (A2.out.set_ 4 (.int .i64 (vs 1))))
  have Bg2 := Lib.hid (far_blk (p := ⟨c5, 4, none⟩) B2.out (Nat.ne_of_lt C5.out) (.int .i64 (vs 1)))
  have Kg2 := Lib.hid (K2.out.set (.inr (Nat.le_of_lt C5.out)) 4 (.int .i64 (vs 1)))
  have Sg2 := Lib.hid (HS.out _ _ _ S2.out ((Keeps.refl (fun x => w.heap.size ≤ x) w2).set (.inl (Nat.le_of_lt C5.out)) 4 (.int .i64 (vs 1))))
  go_wp2_with fail
  refine (N2.out _ Sg2.out).mono ?_
  rintro e w3 ⟨rfl, hs, hk⟩
  have S3 := Lib.hid hs
  have A3 := Lib.hid (Ag2.out.keeps hk (by have := PA.out; have := PB.out; have := C5.out; unfold Two; omega))
  have B3 := Lib.hid (Bg2.out.keeps hk (by have := PA.out; have := PB.out; have := C5.out; unfold Two; omega))
  have K3 := Lib.hid (Kg2.out.trans hk (fun _ q => .inl q))
  clear hs hk
  obtain ⟨n, hn⟩ : ∃ n : Nat, vs 2 = (n : Int) := Int.eq_ofNat_of_zero_le v2.1
  have CN := Lib.hid (show cntC 6 vs = 3 + 2 * n by simp [cntC, hn])
  have n8 : n ≤ 8 := by omega
  rw [hn]
  rw [hn, Int.toNat_natCast] at CV
  have HV := Lib.hid hn
  clear hn v0 v1 v2 wv N0 N1 N2
  have SX := Lib.hid (show Six vs pa pb S w c5 0 (.slice none 0 0) w3 from ⟨A3.out, B3.out, World.ownsRow_nil _ _ _ _, S3.out, K3.out⟩)
  obtain ⟨top, htop⟩ : ∃ top, (.slice none 0 0 : Value) = top := ⟨_, rfl⟩
  rw [htop] at SX
  clear htop
  go_wp2
  go_loopw [66] (fun u wr => ∃ (i : Nat) (v : Value), u = .int .i64 i ∧ i ≤ n ∧ Six vs pa pb S w c5 i v wr) (fun u _ => n - (intOf u).toNat)
  case atStart => exact ⟨0, _, rfl, by omega, SX.out⟩
  case round =>
    obtain ⟨i, vr, rfl, i1, hsx⟩ := hrel
    have X := Lib.hid hsx
    clear hsx
    have LT := Lib.hid (show ∀ x, vr.ownBlock = some x → c5 + 1 ≤ x ∧ x < wr.heap.size from fun x e => X.out.row.lt x e)
    by_cases go : i < n
    · have b1 : decide ((i : Int) < (n : Int)) = true := by simp; omega
      have b1' : decide (i < n) = true := by simp; omega
      have NA := Lib.hid (show ∀ W, S (3 + 2 * i) W → Calls Try.prog 27 #[.int .i64 1073741824, .pointer (some ⟨pa, 0, none⟩), .pointer (some ⟨pb, 0, none⟩)] W (fun e W' => e = .returned (.int .i64 (vs (3 + 2 * i))) ∧ S (4 + 2 * i) W' ∧ Keeps (Two pa pb) W W') from fun W h => by
        have h1 := HN.out (3 + 2 * i) W (by rw [CN.out]; omega) h
        rw [show mostC 6 (3 + 2 * i) = 1073741824 by unfold mostC; rw [if_neg (by omega), if_neg (by omega)], show 3 + 2 * i + 1 = 4 + 2 * i by omega] at h1
        exact h1)
      have NB := Lib.hid (show ∀ W, S (4 + 2 * i) W → Calls Try.prog 27 #[.int .i64 1073741824, .pointer (some ⟨pa, 0, none⟩), .pointer (some ⟨pb, 0, none⟩)] W (fun e W' => e = .returned (.int .i64 (vs (4 + 2 * i))) ∧ S (3 + 2 * (i + 1)) W' ∧ Keeps (Two pa pb) W W') from fun W h => by
        have h1 := HN.out (4 + 2 * i) W (by rw [CN.out]; omega) h
        rw [show mostC 6 (4 + 2 * i) = 1073741824 by unfold mostC; rw [if_neg (by omega), if_neg (by omega)], show 4 + 2 * i + 1 = 3 + 2 * (i + 1) by omega] at h1
        exact h1)
      have TK := Lib.hid (show partsN vs (i + 1) = partsN vs i ++ [(vs (3 + 2 * i), vs (4 + 2 * i))] by unfold partsN; rw [List.range_succ]; simp)
      obtain ⟨E, hE⟩ : ∃ E, vs (3 + 2 * i) = E := ⟨_, rfl⟩
      obtain ⟨P, hP⟩ : ∃ P, vs (4 + 2 * i) = P := ⟨_, rfl⟩
      rw [hE] at NA TK
      rw [hP] at NB TK
      clear hE hP
      have NE := Lib.hid (show vr.ownBlock ≠ some c5 from fun e => by have := (LT.out _ e).1; omega)
      have c0 := X.out.box.cell 8
      simp at c0
      obtain ⟨i0', hi0, hz0, hz1, hz2⟩ := info_parts Try.infoPt
      go_upto_region 22 with fail
      go_region_law (first
        | (refine step_append_lies _ (by rfl) _ _ _ (by rfl) (c5 + 1) 59 i0' _ 2 16 Try.underlying35 hi0 hz0 hz1 hz2 rfl (by omega) vr i ((partsN vs i).map pc2).flatten (by rfl) (O9.out.alloc _) ⟨w9.heap.size, 0, none⟩ 1 1 [.int .i64 E, .int .i64 P] (by rfl) (by rfl) (World.news_of_block (cs := #[.int .i64 E, .int .i64 P]) (t := 59) (fr := (0, 0)) (heap_alloc_new w9 _)) (by simp [Value.oneCell']) (by omega) (by unfold maxLen; omega) (by omega) (by simp; omega) (w9.heap.size + 1) (by simp) ?_; intro b2 cap2 w2 hown2 hgrow2 hor hlt2; have HO2 := Lib.hid hown2; have HG2 := Lib.hid hgrow2; have HOR := Lib.hid hor; have CC := Lib.hid (show Blk w2 37 c5 #[.int .i64 6, .int .i64 0, .int .i64 (vs 0 - 1), .int .i64 0, .int .i64 (vs 1), .int .i64 0, .int .i64 0, .bool false, vr] from (hgrow2.block c5 (Nat.lt_of_lt_of_le gl (wbox w9 _).size) (fun e => NE.out e.symm)).trans (C9.out.alloc _)); clear hown2 hgrow2 hor hlt2; have c4 : w2.cell? ⟨c5, 8, none⟩ = some vr := CC.out.cell 8; have f4 : w2.frozen? ⟨c5, 8, none⟩ = false := CC.out.free 8)
        | (go_simp; go_at_call 27; refine (NB.out w8 S8.out).mono ?_; rintro e w9 ⟨rfl, hx, hk⟩; dsimp only; have S9 := Lib.hid hx; have K9 := Lib.hid (K8.out.trans hk (fun x e => .inl e)); have C9 := Lib.hid (Blk.keeps C8.out hk (by have := PA.out; have := PB.out; have := C5.out; unfold Two; omega)); have R9 := Lib.hid (Blk.keeps R8.out hk (by have := PA.out; have := PB.out; unfold Two; omega)); have O9 := Lib.hid (owns_keeps O8.out hk (fun x e q => by have := (LT.out x e).1; have := PA.out; have := PB.out; have := C5.out; unfold Two at q; omega)); have c1 := C9.out.cell 8; have c1a := (C9.out.alloc (.cells #[.int .i64 E, .int .i64 P] 59)).cell 8; have gl := C9.out.lt; simp at c1 c1a; clear hx hk)
        | (go_simp; go_at_call 27; refine (NA.out wr.drew (HS.out _ _ _ X.out.st ((Keeps.refl _ wr).drew))).mono ?_; rintro e w8 ⟨rfl, hx, hk⟩; dsimp only; have S8 := Lib.hid hx; have K8 := Lib.hid (X.out.kp.drew.trans hk (fun x e => .inl e)); have C8 := Lib.hid (Blk.keeps (show Blk wr.drew 37 c5 #[.int .i64 6, .int .i64 0, .int .i64 (vs 0 - 1), .int .i64 0, .int .i64 (vs 1), .int .i64 0, .int .i64 0, .bool false, vr] from X.out.box) hk (by have := PA.out; have := PB.out; have := C5.out; unfold Two; omega)); have R8 := Lib.hid (Blk.keeps (show Blk wr.drew 37 w.heap.size #[.int .i64 0, .int .i64 0, .int .i64 0, .int .i64 0, .int .i64 0, .int .i64 0, .int .i64 0, .bool false, .slice none 0 0] from X.out.res) hk (by have := PA.out; have := PB.out; unfold Two; omega)); have O8 := Lib.hid (owns_keeps X.out.row.drew hk (fun x e q => by have := (LT.out x e).1; have := PA.out; have := PB.out; have := C5.out; unfold Two at q; omega)); have c8 := C8.out.cell 8; simp at c8; clear hx hk))
      all_goals
        clear c0 c8 c1 c1a c4 f4
        have RR := Lib.hid (show Blk w2 37 w.heap.size #[.int .i64 0, .int .i64 0, .int .i64 0, .int .i64 0, .int .i64 0, .int .i64 0, .int .i64 0, .bool false, .slice none 0 0] from (HG2.out.block w.heap.size (Nat.lt_of_lt_of_le R9.out.lt (wbox w9 _).size) (fun e => by have := (LT.out _ e.symm).1; have := C5.out; omega)).trans (R9.out.alloc _))
        have HN2 := Lib.hid (show b2 ≠ c5 ∧ c5 < b2 by
          rcases HOR.out with z | z
          · have := (LT.out _ z).1; omega
          · have := C9.out.lt; omega)
        have KK := Lib.hid (((K9.out.alloc _).grown HG2.out (fun k hk => .inr (by have := (LT.out k hk).1; have := C5.out; omega))).set (g := c5) (.inr (Nat.le_of_lt C5.out)) 8 (.slice (some ⟨b2, 0, none⟩) (i + 1) cap2))
        have NX := Lib.hid (show Six vs pa pb S w c5 (i + 1) (.slice (some ⟨b2, 0, none⟩) (i + 1) cap2) (w2.setCell ⟨c5, 8, none⟩ (.slice (some ⟨b2, 0, none⟩) (i + 1) cap2)) from by
          refine ⟨CC.out.set_ 8 _, far_blk (p := ⟨c5, 8, none⟩) RR.out (Nat.ne_of_lt C5.out) _, ?_, ?_, KK.out⟩
          · rw [TK.out, List.map_append, List.flatten_append]
            exact owns_keeps (F := fun k => k = c5) (by simpa [pc2] using HO2.out) ((Keeps.refl (fun k => k = c5) w2).set (.inl rfl) _ _) (fun x e => by simp [Value.ownBlock] at e; subst e; exact HN2.out.1)
          · exact HS.out _ _ _ S9.out ((((Keeps.refl (fun x => w.heap.size ≤ x) w9).alloc _).grown HG2.out (fun k hk => .inl (by have := (LT.out k hk).1; have := C5.out; omega))).set (g := c5) (.inl (Nat.le_of_lt C5.out)) _ _))
        clear HO2 HG2 HOR CC RR HN2 KK
        go_wp2
        go_roundw
        case rel => exact ⟨i + 1, _, by go_num, by omega, NX.out⟩
        case measure => simp [intOf]; omega
    · have b1 : decide ((i : Int) < (n : Int)) = false := by simp; omega
      have b1' : decide (i < n) = false := by simp; omega
      obtain rfl : i = n := by omega
      obtain ⟨av, cv, rfl, hrt, hfr⟩ := rowT_of_owns X.out.row (show (partsN vs i).length = i by unfold partsN; simp)
      have PN := Lib.hid (show PartsN (w.heap.size + 2) wr (.slice av i cv) (partsN vs i) from ⟨av, cv, by unfold partsN; simp, by rw [show (partsN vs i).length = i by unfold partsN; simp]; exact hrt, fun ad e => by have := hfr ad e; have := C5.out; omega⟩)
      have A9 := Lib.hid X.out.box
      have B9 := Lib.hid X.out.res
      have S9 := Lib.hid X.out.st
      have K9 := Lib.hid X.out.kp
      clear hrt hfr
      have PE := Lib.hid (PN.out.keeps ((((((((((Keeps.refl (fun x => x = w.heap.size) wr).set (.inl rfl) 0 (.int .i64 6)).set (.inl rfl) 1 (.int .i64 0)).set (.inl rfl) 2 (.int .i64 (vs 0 - 1))).set (.inl rfl) 3 (.int .i64 0)).set (.inl rfl) 4 (.int .i64 (vs 1))).set (.inl rfl) 5 (.int .i64 0)).set (.inl rfl) 6 (.int .i64 0)).set (.inl rfl) 7 (.bool false)).set (.inl rfl) 8 (.slice av i cv)) (fun x e q => by omega))
      have u0 := A9.out.cell 0
      have u1 := A9.out.cell 1
      have u2 := A9.out.cell 2
      have u3 := A9.out.cell 3
      have u4 := A9.out.cell 4
      have u5 := A9.out.cell 5
      have u6 := A9.out.cell 6
      have u7 := A9.out.cell 7
      have u8 := A9.out.cell 8
      simp at u0 u1 u2 u3 u4 u5 u6 u7 u8
      have t0 := B9.out.cell 0; have r0 := B9.out.free 0
      have t1 := B9.out.cell 1; have r1 := B9.out.free 1
      have t2 := B9.out.cell 2; have r2 := B9.out.free 2
      have t3 := B9.out.cell 3; have r3 := B9.out.free 3
      have t4 := B9.out.cell 4; have r4 := B9.out.free 4
      have t5 := B9.out.cell 5; have r5 := B9.out.free 5
      have t6 := B9.out.cell 6; have r6 := B9.out.free 6
      have t7 := B9.out.cell 7; have r7 := B9.out.free 7
      have t8 := B9.out.cell 8; have r8 := B9.out.free 8
      simp at t0 t1 t2 t3 t4 t5 t6 t7 t8
      have EE := Lib.hid (B9.out.store9 (.int .i64 6) (.int .i64 0) (.int .i64 (vs 0 - 1)) (.int .i64 0) (.int .i64 (vs 1)) (.int .i64 0) (.int .i64 0) (.bool false) (.slice av i cv))
      have KE := Lib.hid (((((((((K9.out.set (.inr (Nat.le_refl _)) 0 (.int .i64 6)).set (.inr (Nat.le_refl _)) 1 (.int .i64 0)).set (.inr (Nat.le_refl _)) 2 (.int .i64 (vs 0 - 1))).set (.inr (Nat.le_refl _)) 3 (.int .i64 0)).set (.inr (Nat.le_refl _)) 4 (.int .i64 (vs 1))).set (.inr (Nat.le_refl _)) 5 (.int .i64 0)).set (.inr (Nat.le_refl _)) 6 (.int .i64 0)).set (.inr (Nat.le_refl _)) 7 (.bool false)).set (.inr (Nat.le_refl _)) 8 (.slice av i cv))
      have SE := Lib.hid (HS.out _ _ _ S9.out ((((((((((Keeps.refl (fun x => w.heap.size ≤ x) wr).set (.inl (Nat.le_refl _)) 0 (.int .i64 6)).set (.inl (Nat.le_refl _)) 1 (.int .i64 0)).set (.inl (Nat.le_refl _)) 2 (.int .i64 (vs 0 - 1))).set (.inl (Nat.le_refl _)) 3 (.int .i64 0)).set (.inl (Nat.le_refl _)) 4 (.int .i64 (vs 1))).set (.inl (Nat.le_refl _)) 5 (.int .i64 0)).set (.inl (Nat.le_refl _)) 6 (.int .i64 0)).set (.inl (Nat.le_refl _)) 7 (.bool false)).set (.inl (Nat.le_refl _)) 8 (.slice av i cv)))
      have e0 := EE.out.cell 0
      have e1 := EE.out.cell 1
      have e2 := EE.out.cell 2
      have e3 := EE.out.cell 3
      have e4 := EE.out.cell 4
      have e5 := EE.out.cell 5
      have e6 := EE.out.cell 6
      have e7 := EE.out.cell 7
      have e8 := EE.out.cell 8
      simp at e0 e1 e2 e3 e4 e5 e6 e7 e8
      go_wp2
      exact bodyPost_ret (v := .agg #[.int .i64 6, .int .i64 0, .int .i64 (vs 0 - 1), .int .i64 0, .int .i64 (vs 1), .int .i64 0, .int .i64 0, .bool false, .slice av i cv]) (by simp [results, Try.results21, go_sem, e0, e1, e2, e3, e4, e5, e6, e7, e8]) rfl ⟨_, by rw [CV.out], by rw [CV.out]; exact PE.out, by rw [CN.out]; exact SE.out, KE.out⟩
end Go.Proofs.Ytlcagjmppmajeaa
