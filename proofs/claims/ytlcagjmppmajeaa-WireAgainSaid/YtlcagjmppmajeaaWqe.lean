/-
  Package wire's Check, of commands that may be: contract.
-/
import Derived.Test.YtlcagjmppmajeaaWq5
import Derived.Test.YtlcagjmppmajeaaWq6a
import Derived.Test.YtlcagjmppmajeaaWqc
import Derived.Test.YtlcagjmppmajeaaWqd
namespace Go.Proofs.Ytlcagjmppmajeaa
open Go.RowKit

theorem wcmdT (k : Int) (k1 : 1 ≤ k) (k7 : k ≤ 7) (vs : Nat → Int) (pa pb : Nat) (S : Nat → World → Prop) (w : World) (hpa : pa < w.heap.size) (hpb : pb < w.heap.size)
    (hS : ∀ i W W', S i W → Keeps (fun x => w.heap.size ≤ x) W W' → S i W')
    (hN : ∀ i W, i < cntC k vs → S i W → Calls Try.prog 22 #[.int .i64 (mostC k i), .pointer (some ⟨pa, 0, none⟩), .pointer (some ⟨pb, 0, none⟩)] W fun e W' => e = .returned (.int .i64 (vs i)) ∧ S (i + 1) W' ∧ Keeps (Two pa pb) W W')
    (hf : FitC k vs) (h0 : S 0 w) :
    Calls Try.prog 21 #[.int .i64 k, .func (.func 22) #[] #[.pointer (some ⟨pa, 0, none⟩), .pointer (some ⟨pb, 0, none⟩)]] w (CmdO k vs pa pb S w) := by
  have hk : k = 1 ∨ k = 2 ∨ k = 3 ∨ k = 4 ∨ k = 5 ∨ k = 6 ∨ k = 7 := by omega
  rcases hk with rfl | rfl | rfl | rfl | rfl | rfl | rfl
  · exact wcmdT1 vs pa pb S w hpa hpb hS hN hf h0
  · exact wcmdT2 vs pa pb S w hpa hpb hS hN hf h0
  · exact wcmdT3 vs pa pb S w hpa hpb hS hN hf h0
  · exact wcmdT4 vs pa pb S w hpa hpb hS hN hf h0
  · exact wcmdT5 vs pa pb S w hpa hpb hS hN hf h0
  · exact wcmdT6 vs pa pb S w hpa hpb hS hN hf h0
  · exact wcmdT7 vs pa pb S w hpa hpb hS hN hf h0
theorem fldAt_keeps {N pa pb : Nat} {W W' : World} {zs : List Int} (h : FldAt N W pa pb zs) (ha : pa < N) (hb : pb < N) (k : Keeps (fun x => N ≤ x) W W') : FldAt N W' pa pb zs := by
  obtain ⟨a, cap, h1, h2, h3, h4⟩ := h
  exact ⟨a, cap, h1.keeps k (by omega), row_keeps h2 k (fun ad e => by have := (h4 ad e).2.2; omega), h3.keeps k (by omega), h4⟩
/-- the fields are told by the closure, one by one -/
theorem fld_tells {k : Int} {vs : Nat → Int} {fs : List Int} (hf : FitC k vs) (hfs : fs = (List.range (cntC k vs)).map vs) (N pa pb : Nat) (hne : pa ≠ pb) (i : Nat) (W : World) (hi : i < cntC k vs) (h : FldAt N W pa pb (fs.drop i)) :
    Calls Try.prog 22 #[.int .i64 (mostC k i), .pointer (some ⟨pa, 0, none⟩), .pointer (some ⟨pb, 0, none⟩)] W fun e W' => e = .returned (.int .i64 (vs i)) ∧ FldAt N W' pa pb (fs.drop (i + 1)) ∧ Keeps (Two pa pb) W W' := by
  have e : fs.drop i = vs i :: fs.drop (i + 1) := by
    rw [List.drop_eq_getElem_cons (by rw [hfs]; simpa using hi)]
    congr 1
    simp [hfs]
  rw [e] at h
  exact wtake_any (vs i) _ _ N pa pb W hne h (hf i hi).1 (hf i hi).2
theorem cnt_pos {k : Int} {vs : Nat → Int} (h1 : 1 ≤ k) (h7 : k ≤ 7) : 0 < cntC k vs := by
  unfold cntC
  have hk : k = 1 ∨ k = 2 ∨ k = 3 ∨ k = 4 ∨ k = 5 ∨ k = 6 ∨ k = 7 := by omega
  rcases hk with rfl | rfl | rfl | rfl | rfl | rfl | rfl <;> simp
  omega
set_option maxRecDepth 20000 in
set_option maxHeartbeats 4000000 in
theorem wcheck_yes (c : Cm) (v : Value) (w : World) (h : MayC c) (hp : PartsAt w v c.parts) :
    Calls Try.prog 12 #[cmV c v] w fun e w' => e = .returned (.bool true) ∧ Below w.heap.size w w' := by
  obtain ⟨s0, s1, p8, vs, hf, hc, hfs, h19⟩ := h.facts
  have FS := Lib.hid hfs
  have HF := Lib.hid hf
  have HC := Lib.hid hc
  have HP := Lib.hid hp
  have L19 := Lib.hid h19
  have S0 := Lib.hid s0
  have S1 := Lib.hid s1
  have P8 := Lib.hid p8
  obtain ⟨a, cap, hv, -⟩ := hp
  have K1 := Lib.hid h.lo
  have K7 := Lib.hid h.hi
  have LF := Lib.hid (show (fieldsV c).length ≤ 1000 by rw [hfs]; simp; omega)
  have b1 : decide (c.k < 1) = false := by have := h.lo; simp; omega
  have b2 : decide (7 < c.k) = false := by have := h.hi; simp; omega
  have b3 : decide (8 < (c.parts.length : Int)) = false := by simp; omega
  have b3' : decide (8 < c.parts.length) = false := by simp; omega
  clear hfs hf hc s0 s1 p8 h h19
  subst hv
  obtain ⟨fs, hfs⟩ : ∃ fs, fieldsV c = fs := ⟨_, rfl⟩
  rw [hfs] at FS LF
  obtain ⟨W1, hW1⟩ : ∃ W1, w.alloc (.cells (cmA c (.slice a c.parts.length cap)) 37) = W1 := ⟨_, rfl⟩
  have B1 := Lib.hid (show Below w.heap.size w W1 by rw [← hW1]; exact wbox _ _)
  have X1 := Lib.hid (show Blk W1 37 w.heap.size (cmA c (.slice a c.parts.length cap)) by rw [← hW1]; exact Blk.new _ _ _)
  have HG := Lib.hid (fun n => wfields_gives n c (.slice a c.parts.length cap) W1.heap.size (W1.alloc (.cells (cmA c (.slice a c.parts.length cap)) 37)) (Blk.new _ _ _) ((HP.out.below B1.out).below (wbox _ _)) K1.out K7.out S0.out S1.out P8.out)
  rw [hfs] at HG
  clear hfs
  have WF := Lib.hid (wfields_any c (.slice a c.parts.length cap) W1)
  have x0 := X1.out.cell 0; have x1 := X1.out.cell 1; have x2 := X1.out.cell 2; have x3 := X1.out.cell 3; have x4 := X1.out.cell 4; have x5 := X1.out.cell 5; have x6 := X1.out.cell 6; have x7 := X1.out.cell 7; have x8 := X1.out.cell 8
  simp at x0 x1 x2 x3 x4 x5 x6 x7 x8
  obtain ⟨k, id, sv, m, co, e, p, early, parts⟩ := c
  simp only at x0 x1 x2 x3 x4 x5 x6 x7 x8 b1 b2 b3 b3'
  go_enter Try.func12, Try.ntmps12
  go_wp2_with fail
  refine WF.out.mono ?_
  rintro e1 W2 ⟨rfl, rfl⟩
  go_wp2_with fail
  refine (wcollect_any _ rfl _ fs _ _ HG.out (fun F hF => ⟨fun q => ?_, fun a' len' cap' e' ad ea q => ?_⟩) LF.out).mono ?_
  · have := hF _ q
    simp at this
    omega
  · cases e'
    obtain ⟨a9, cap9, e9, hr9⟩ := HP.out
    cases e9
    have h1 := hF _ q
    have h2 := hr9.2 ad ea
    have h3 := B1.out.size
    simp at h1
    omega
  rintro e2 W3 ⟨a2, cap2, rfl, hr, hf, hb⟩
  have B3 := Lib.hid (show Below w.heap.size w W3 from below_next (below_next B1.out (wbox _ _)) hb)
  have X3 := Lib.hid ((X1.out.below (wbox W1 (.cells (cmA ⟨k, id, sv, m, co, e, p, early, parts⟩ (.slice a parts.length cap)) 37))).below hb)
  have R3 := Lib.hid hr
  have F3 := Lib.hid hf
  have LB := Lib.hid (show 0 < fs.length → ∀ ad : Addr, a2 = some ad → ad.block < W3.heap.size from fun h ad e => row_lt hr h e)
  clear hr hf hb hW1 x0 x1 x2 x3 x4 x5 x6 x7 x8
  obtain ⟨fl, hfl⟩ : ∃ fl, fs.length = fl := ⟨_, rfl⟩
  rw [hfl]
  have FL := Lib.hid hfl
  clear hfl
  obtain ⟨pa, hpa⟩ : ∃ pa, W3.heap.size = pa := ⟨_, rfl⟩
  obtain ⟨W4, hW4⟩ : ∃ W4, (W3.alloc (.cells #[.slice a2 fl cap2] 46)).alloc (.cells #[.bool true] 4) = W4 := ⟨_, rfl⟩
  have B4 := Lib.hid (show Below w.heap.size w W4 by rw [← hW4]; exact below_next B3.out (wbox2 _ _ _))
  have Z4 := Lib.hid (show W4.heap.size = pa + 2 by rw [← hW4, ← hpa]; simp)
  have X4 := Lib.hid (show Blk W4 37 w.heap.size #[.int .i64 k, .int .i64 id, .int .i64 sv, .int .i64 m, .int .i64 co, .int .i64 e, .int .i64 p, .bool early, .slice a parts.length cap] by rw [← hW4]; exact X3.out.below (wbox2 _ _ _))
  have S4 := Lib.hid (show FldAt (pa + 2) W4 pa (pa + 1) (fs.drop 0) by
    rw [List.drop_zero, ← hW4, ← hpa]
    refine ⟨a2, cap2, ?_, ?_, ?_, ?_⟩
    · rw [FL.out]; exact (Blk.new _ _ _).alloc _
    · exact R3.out.below (wbox2 _ _ _)
    · exact Blk.new2 _ _ _ _
    · intro ad e
      have h0 : 0 < fs.length := by rw [FS.out]; simpa using cnt_pos K1.out K7.out
      have h1 := LB.out h0 ad e
      omega)
  have y0 := X4.out.cell 0
  simp at y0
  have HW4 := Lib.hid hW4
  have HPA := Lib.hid hpa
  clear hW4 hpa
  go_upto_region 4 with fail
  rw [HW4.out, HPA.out]
  go_wp2_with fail
  refine (wcmdT k K1.out K7.out vs pa (pa + 1) (fun i W => FldAt (pa + 2) W pa (pa + 1) (fs.drop i)) W4 (by rw [Z4.out]; omega) (by rw [Z4.out]; omega)
    (fun i W W' h hk => fldAt_keeps h (by omega) (by omega) (by rw [Z4.out] at hk; exact hk))
    (fun i W hi h => fld_tells HF.out FS.out (pa + 2) pa (pa + 1) (by omega) i W hi h) HF.out S4.out).mono ?_
  rintro e3 W5 ⟨v5, rfl, hpn, hfl, hkp⟩
  rw [← show _ = commandV k vs from HC.out] at hpn ⊢
  obtain ⟨av, cv, hv5, hr5, hf5⟩ := hpn
  subst hv5
  dsimp only [cmV]
  obtain ⟨a', cap', _, _, hok, _⟩ := hfl
  have OK5 := Lib.hid hok
  have PN5 := Lib.hid (show PartsAt W5 (.slice av parts.length cv) parts from ⟨av, cv, rfl, hr5⟩)
  have B5 := Lib.hid (show Below w.heap.size w W5 from hkp.below B4.out (fun x q => by have := B3.out.size; have := HPA.out; unfold Two at q; omega) B4.out.size)
  have X5 := Lib.hid (X4.out.keeps hkp (by have := B3.out.size; have := X3.out.lt; have := HPA.out; unfold Two; omega))
  clear hok hr5 hf5 hkp y0
  obtain ⟨W6, hW6⟩ : ∃ W6, W5.alloc (.cells #[.int .i64 k, .int .i64 id, .int .i64 sv, .int .i64 m, .int .i64 co, .int .i64 e, .int .i64 p, .bool early, .slice av parts.length cv] 37) = W6 := ⟨_, rfl⟩
  have B6 := Lib.hid (show Below W5.heap.size W5 W6 by rw [← hW6]; exact wbox _ _)
  have Y6 := Lib.hid (show Blk W6 37 W5.heap.size #[.int .i64 k, .int .i64 id, .int .i64 sv, .int .i64 m, .int .i64 co, .int .i64 e, .int .i64 p, .bool early, .slice av parts.length cv] by rw [← hW6]; exact Blk.new _ _ _)
  have X6 := Lib.hid (X5.out.below B6.out)
  have z := (OK5.out.below B6.out).cell 0
  simp at z
  have x0 := X6.out.cell 0; have x1 := X6.out.cell 1; have x2 := X6.out.cell 2; have x3 := X6.out.cell 3; have x4 := X6.out.cell 4; have x5 := X6.out.cell 5; have x6 := X6.out.cell 6; have x7 := X6.out.cell 7; have x8 := X6.out.cell 8
  simp at x0 x1 x2 x3 x4 x5 x6 x7 x8
  have y0 := Y6.out.cell 0; have y1 := Y6.out.cell 1; have y2 := Y6.out.cell 2; have y3 := Y6.out.cell 3; have y4 := Y6.out.cell 4; have y5 := Y6.out.cell 5; have y6 := Y6.out.cell 6; have y7 := Y6.out.cell 7; have y8 := Y6.out.cell 8
  simp at y0 y1 y2 y3 y4 y5 y6 y7 y8
  have HW6 := Lib.hid hW6
  clear hW6
  go_upto_region 5 with fail
  rw [HW6.out]
  go_wp2_with fail
  refine (wsame_yes ⟨k, id, sv, m, co, e, p, early, parts⟩ (.slice a parts.length cap) (.slice av parts.length cv) W6 (HP.out.below (below_next B5.out B6.out)) (PN5.out.below B6.out)).mono ?_
  rintro e7 W7 ⟨rfl, hb⟩
  have B7 := Lib.hid (below_next (below_next B5.out B6.out) hb)
  clear hb
  go_wp2
  go_ret
  exact ⟨rfl, B7.out⟩
end Go.Proofs.Ytlcagjmppmajeaa
