/-
  Package wire's first: contract.
-/
import Derived.Test.YtlcagjmppmajeaaWq7
import Derived.Test.YtlcagjmppmajeaaWq6b
import Derived.Test.YtlcagjmppmajeaaWqg
namespace Go.Proofs.Ytlcagjmppmajeaa
open Go.RowKit

theorem wcmdN (k : Int) (k1 : 0 ≤ k) (k7 : k ≤ 7) (vs : Nat → Int) (pa pb : Nat) (S : Nat → World → Prop) (w : World) (hpa : pa < w.heap.size) (hpb : pb < w.heap.size)
    (hS : ∀ i W W', S i W → Keeps (fun x => w.heap.size ≤ x) W W' → S i W')
    (hN : ∀ i W, i < cntC k vs → S i W → Calls Try.prog 27 #[.int .i64 (mostC k i), .pointer (some ⟨pa, 0, none⟩), .pointer (some ⟨pb, 0, none⟩)] W fun e W' => e = .returned (.int .i64 (vs i)) ∧ S (i + 1) W' ∧ Keeps (Two pa pb) W W')
    (hf : FitC k vs) (h0 : S 0 w) :
    Calls Try.prog 21 #[.int .i64 k, .func (.func 27) #[] #[.pointer (some ⟨pa, 0, none⟩), .pointer (some ⟨pb, 0, none⟩)]] w (CmdO k vs pa pb S w) := by
  have hk : k = 0 ∨ k = 1 ∨ k = 2 ∨ k = 3 ∨ k = 4 ∨ k = 5 ∨ k = 6 ∨ k = 7 := by omega
  rcases hk with rfl | rfl | rfl | rfl | rfl | rfl | rfl | rfl
  · exact wcmdN0 vs pa pb S w hpa hpb hS hN hf h0
  · exact wcmdN1 vs pa pb S w hpa hpb hS hN hf h0
  · exact wcmdN2 vs pa pb S w hpa hpb hS hN hf h0
  · exact wcmdN3 vs pa pb S w hpa hpb hS hN hf h0
  · exact wcmdN4 vs pa pb S w hpa hpb hS hN hf h0
  · exact wcmdN5 vs pa pb S w hpa hpb hS hN hf h0
  · exact wcmdN6 vs pa pb S w hpa hpb hS hN hf h0
  · exact wcmdN7 vs pa pb S w hpa hpb hS hN hf h0
theorem rdAt_keeps {N pa pb : Nat} {W W' : World} {s : Rd} (h : RdAt W pa pb s) (ha : pa < N) (hb : pb < N) (k : Keeps (fun x => N ≤ x) W W') : RdAt W' pa pb s := ⟨h.str.keeps k (by omega), h.ok.keeps k (by omega)⟩
theorem rdAt_below {pa pb : Nat} {W W' : World} {s : Rd} (h : RdAt W pa pb s) (k : Below W.heap.size W W') : RdAt W' pa pb s := ⟨h.str.below k, h.ok.below k⟩
theorem below_store9 {w W : World} {g : Nat} (h : Below w.heap.size w W) (hg : w.heap.size ≤ g) (x0 x1 x2 x3 x4 x5 x6 x7 x8 : Value) :
    Below w.heap.size w (((((((((W.setCell ⟨g, 0, none⟩ x0).setCell ⟨g, 1, none⟩ x1).setCell ⟨g, 2, none⟩ x2).setCell ⟨g, 3, none⟩ x3).setCell ⟨g, 4, none⟩ x4).setCell ⟨g, 5, none⟩ x5).setCell ⟨g, 6, none⟩ x6).setCell ⟨g, 7, none⟩ x7).setCell ⟨g, 8, none⟩ x8) :=
  ((((((((h.setCell hg _).setCell hg _).setCell hg _).setCell hg _).setCell hg _).setCell hg _).setCell hg _).setCell hg _).setCell hg _
theorem far_store9 {W : World} {T : TypeId} {k g : Nat} {cs : Array Value} (h : Blk W T k cs) (hg : k ≠ g) (x0 x1 x2 x3 x4 x5 x6 x7 x8 : Value) :
    Blk (((((((((W.setCell ⟨g, 0, none⟩ x0).setCell ⟨g, 1, none⟩ x1).setCell ⟨g, 2, none⟩ x2).setCell ⟨g, 3, none⟩ x3).setCell ⟨g, 4, none⟩ x4).setCell ⟨g, 5, none⟩ x5).setCell ⟨g, 6, none⟩ x6).setCell ⟨g, 7, none⟩ x7).setCell ⟨g, 8, none⟩ x8) T k cs :=
  far_blk (far_blk (far_blk (far_blk (far_blk (far_blk (far_blk (far_blk (far_blk h hg _) hg _) hg _) hg _) hg _) hg _) hg _) hg _) hg _
def cm00 : Cm := ⟨0, 0, 0, 0, 0, 0, 0, false, []⟩
def FirstO (l : List UInt8) (w : World) (e : Ending) (w' : World) : Prop :=
  Below w.heap.size w w' ∧ ((∃ c m v, firstV l = some (c, m) ∧ e = .returned (.tuple #[cmV c v, .int .i64 (m : Nat), .bool true]) ∧ PartsN (w.heap.size + 1) w' v c.parts) ∨ (firstV l = none ∧ e = .returned (.tuple #[cmV cm00 (.slice none 0 0), .int .i64 0, .bool false])))
set_option maxRecDepth 20000 in
set_option maxHeartbeats 4000000 in
theorem wfirst_any (l : List UInt8) (w : World) (hl : l.length ≤ 1000000000) :
    Calls Try.prog 17 #[.string (BS l)] w (FirstO l w) := by
  have HL := Lib.hid hl
  obtain ⟨W1, hW1⟩ : ∃ W1, w.alloc (.cells #[.int .i64 0, .int .i64 0, .int .i64 0, .int .i64 0, .int .i64 0, .int .i64 0, .int .i64 0, .bool false, .slice none 0 0] 37) = W1 := ⟨_, rfl⟩
  obtain ⟨pa, hpa⟩ : ∃ pa, W1.heap.size = pa := ⟨_, rfl⟩
  obtain ⟨W3, hW3⟩ : ∃ W3, (W1.alloc (.cells #[.string (BS l)] 9)).alloc (.cells #[.bool true] 4) = W3 := ⟨_, rfl⟩
  have PA := Lib.hid (show w.heap.size < pa by rw [← hpa, ← hW1]; simp)
  have A3 := Lib.hid (show Blk W3 37 w.heap.size #[.int .i64 0, .int .i64 0, .int .i64 0, .int .i64 0, .int .i64 0, .int .i64 0, .int .i64 0, .bool false, .slice none 0 0] by rw [← hW3, ← hW1]; exact (Blk.new _ _ _).below (wbox2 _ _ _))
  have R3 := Lib.hid (show RdAt W3 pa (pa + 1) (l, true) from ⟨by rw [← hW3, ← hpa]; exact (Blk.new _ _ _).alloc _, by rw [← hW3, ← hpa]; exact Blk.new2 _ _ _ _⟩)
  have B3 := Lib.hid (show Below w.heap.size w W3 by rw [← hW3, ← hW1]; exact below_next (wbox _ _) (wbox2 _ _ _))
  have HW1 := Lib.hid hW1
  have HPA := Lib.hid hpa
  have HW3 := Lib.hid hW3
  clear hW1 hpa hW3 hl
  go_enter Try.func17, Try.ntmps17
  go_upto_region 1 with fail
  rw [HW1.out]
  go_upto_region 2 with fail
  rw [HW3.out, HPA.out]
  go_wp2_with fail
  refine (wnext_any (l, true) 7 pa (pa + 1) W3 (by omega) HL.out R3.out).mono ?_
  rintro e w4 ⟨rfl, hr, hk⟩
  have KE := Lib.hid (show nx (l, true) 7 = firstK l from rfl)
  rw [KE.out] at hr ⊢
  have b7 := nx_bd (l, true) 7 (by omega)
  rw [KE.out] at b7
  have R4 := Lib.hid hr
  have A4 := Lib.hid (A3.out.keeps hk (by have := PA.out; unfold Two; omega))
  have B4 := Lib.hid (show Below w.heap.size w w4 from hk.below B3.out (fun x q => by have := PA.out; unfold Two at q; omega) B3.out.size)
  have FS := Lib.hid (show firstS l = stR (firstK l).1 (firstK l).2 (cntC (firstK l).1 (vsR (firstK l).1 (firstK l).2)) from rfl)
  have FV := Lib.hid (show firstV l = if (firstS l).2 = true ∧ 1 ≤ (firstK l).1 then some (commandV (firstK l).1 (vsR (firstK l).1 (firstK l).2), l.length - (firstS l).1.length) else none from rfl)
  have LK := Lib.hid (show (firstK l).2.1.length ≤ l.length from nx_len (l, true) 7)
  have LS := Lib.hid (firstS_len l)
  obtain ⟨kk, s0, hks⟩ : ∃ kk s0, firstK l = (kk, s0) := ⟨_, _, rfl⟩
  rw [hks] at R4 b7 FS FV LK ⊢
  obtain ⟨st, hst⟩ : ∃ st, firstS l = st := ⟨_, rfl⟩
  rw [hst] at FS FV LS
  simp only at R4 b7 FS FV LK ⊢
  clear hks hst hr hk
  have PL := Lib.hid (show pa + 1 < w4.heap.size from R4.out.ok.lt)
  go_wp2_with fail
  refine (wcmdN kk b7.1 b7.2 (vsR kk s0) pa (pa + 1) (fun i W => RdAt W pa (pa + 1) (stR kk s0 i)) w4 (by have := PL.out; omega) PL.out
    (fun i W W' h hk => rdAt_keeps h (by have := PL.out; omega) PL.out hk)
    (fun i W _ h => wnext_any (stR kk s0 i) (mostC kk i) pa (pa + 1) W (by omega) (by have h1 := stR_len kk s0 i; have h2 := LK.out; have h3 := HL.out; omega) h)
    (fun i _ => vsR_bd kk s0 i) R4.out).mono ?_
  rintro e2 w5 ⟨v5, rfl, hpn, hrd, hkp⟩
  rw [← FS.out] at hrd
  have CK := Lib.hid (command_k kk (vsR kk s0))
  obtain ⟨cc, hcc⟩ : ∃ cc, commandV kk (vsR kk s0) = cc := ⟨_, rfl⟩
  rw [hcc] at hpn FV CK ⊢
  clear hcc
  obtain ⟨av, cv, hv5, hr5, hf5⟩ := hpn
  subst hv5
  obtain ⟨k, id, sv, m, co, e, p, early, parts⟩ := cc
  replace CK := Lib.hid (show k = kk from CK.out)
  have hk2 := CK.out
  subst hk2
  dsimp only [cmV]
  simp only at hr5
  obtain ⟨left, ok⟩ := st
  have R5 := Lib.hid hrd
  have A5 := Lib.hid (A4.out.keeps hkp (by have := PA.out; unfold Two; omega))
  have B5 := Lib.hid (show Below w.heap.size w w5 from hkp.below B4.out (fun x q => by have := PA.out; unfold Two at q; omega) B4.out.size)
  have P5 := Lib.hid (show PartsN (w.heap.size + 1) w5 (.slice av parts.length cv) parts from ⟨av, cv, rfl, hr5, fun ad e => by have := hf5 ad e; have := B4.out.size; omega⟩)
  clear hrd hkp hr5 hf5
  obtain ⟨W6, hW6⟩ : ∃ W6, w5.alloc (.cells #[.int .i64 k, .int .i64 id, .int .i64 sv, .int .i64 m, .int .i64 co, .int .i64 e, .int .i64 p, .bool early, .slice av parts.length cv] 37) = W6 := ⟨_, rfl⟩
  have B56 := Lib.hid (show Below w5.heap.size w5 W6 by rw [← hW6]; exact wbox _ _)
  have Y6 := Lib.hid (show Blk W6 37 w5.heap.size #[.int .i64 k, .int .i64 id, .int .i64 sv, .int .i64 m, .int .i64 co, .int .i64 e, .int .i64 p, .bool early, .slice av parts.length cv] by rw [← hW6]; exact Blk.new _ _ _)
  have R6 := Lib.hid (rdAt_below R5.out B56.out)
  have A6 := Lib.hid (A5.out.below B56.out)
  have B6 := Lib.hid (below_next B5.out B56.out)
  have P6 := Lib.hid (show PartsN (w.heap.size + 1) W6 (.slice av parts.length cv) parts from by
    obtain ⟨a', c', e', h', f'⟩ := P5.out
    exact ⟨a', c', e', h'.below B56.out, f'⟩)
  have GW := Lib.hid (show w.heap.size < w5.heap.size from A5.out.lt)
  have HW6 := Lib.hid hW6
  clear hW6
  go_upto_region 4 with fail
  rw [HW6.out]
  have z0 := R6.out.str.cell 0; have z1 := R6.out.ok.cell 0
  simp at z0 z1
  have y0 := Y6.out.cell 0; have y1 := Y6.out.cell 1; have y2 := Y6.out.cell 2; have y3 := Y6.out.cell 3; have y4 := Y6.out.cell 4; have y5 := Y6.out.cell 5; have y6 := Y6.out.cell 6; have y7 := Y6.out.cell 7; have y8 := Y6.out.cell 8
  simp at y0 y1 y2 y3 y4 y5 y6 y7 y8
  have t0 := A6.out.cell 0; have t1 := A6.out.cell 1; have t2 := A6.out.cell 2; have t3 := A6.out.cell 3; have t4 := A6.out.cell 4; have t5 := A6.out.cell 5; have t6 := A6.out.cell 6; have t7 := A6.out.cell 7; have t8 := A6.out.cell 8
  simp at t0 t1 t2 t3 t4 t5 t6 t7 t8
  have r0 := A6.out.free 0; have r1 := A6.out.free 1; have r2 := A6.out.free 2; have r3 := A6.out.free 3; have r4 := A6.out.free 4; have r5 := A6.out.free 5; have r6 := A6.out.free 6; have r7 := A6.out.free 7; have r8 := A6.out.free 8
  have EZ := Lib.hid (A6.out.store9 (.int .i64 0) (.int .i64 0) (.int .i64 0) (.int .i64 0) (.int .i64 0) (.int .i64 0) (.int .i64 0) (.bool false) (.slice none 0 0))
  have NO := Lib.hid (show ∀ W', Below w.heap.size w W' → ¬ (ok = true ∧ 1 ≤ k) → FirstO l w (.returned (.tuple #[cmV cm00 (.slice none 0 0), .int .i64 0, .bool false])) W' from fun W' hb hn => ⟨hb, .inr ⟨by rw [FV.out, if_neg hn], rfl⟩⟩)
  cases ok with
  | false =>
    have e0 := EZ.out.cell 0; have e1 := EZ.out.cell 1; have e2 := EZ.out.cell 2; have e3 := EZ.out.cell 3; have e4 := EZ.out.cell 4; have e5 := EZ.out.cell 5; have e6 := EZ.out.cell 6; have e7 := EZ.out.cell 7; have e8 := EZ.out.cell 8
    simp at e0 e1 e2 e3 e4 e5 e6 e7 e8
    go_wp2
    exact bodyPost_ret (v := .tuple #[.agg #[.int .i64 0, .int .i64 0, .int .i64 0, .int .i64 0, .int .i64 0, .int .i64 0, .int .i64 0, .bool false, .slice none 0 0], .int .i64 0, .bool false]) (by simp [results, Try.results17, go_sem, e0, e1, e2, e3, e4, e5, e6, e7, e8]) rfl (NO.out _ (below_store9 B6.out (Nat.le_refl _) _ _ _ _ _ _ _ _ _) (by simp))
  | true =>
    by_cases q : k < 1
    · have d1 : decide (k < 1) = true := decide_eq_true q
      have e0 := EZ.out.cell 0; have e1 := EZ.out.cell 1; have e2 := EZ.out.cell 2; have e3 := EZ.out.cell 3; have e4 := EZ.out.cell 4; have e5 := EZ.out.cell 5; have e6 := EZ.out.cell 6; have e7 := EZ.out.cell 7; have e8 := EZ.out.cell 8
      simp at e0 e1 e2 e3 e4 e5 e6 e7 e8
      go_wp2
      exact bodyPost_ret (v := .tuple #[.agg #[.int .i64 0, .int .i64 0, .int .i64 0, .int .i64 0, .int .i64 0, .int .i64 0, .int .i64 0, .bool false, .slice none 0 0], .int .i64 0, .bool false]) (by simp [results, Try.results17, go_sem, e0, e1, e2, e3, e4, e5, e6, e7, e8]) rfl (NO.out _ (below_store9 B6.out (Nat.le_refl _) _ _ _ _ _ _ _ _ _) (by omega))
    · have d1 : decide (k < 1) = false := decide_eq_false q
      go_upto_region 6 with fail
      have zz := (far_store9 (g := w.heap.size) R6.out.str (by have := PA.out; omega) (.int .i64 k) (.int .i64 id) (.int .i64 sv) (.int .i64 m) (.int .i64 co) (.int .i64 e) (.int .i64 p) (.bool early) (.slice av parts.length cv)).cell 0
      simp at zz
      go_region
      have ws : wrap64 (((BS l).size : Int) - ((BS left).size : Int)) = ((l.length - left.length : Nat) : Int) := by
        rw [BS_size, BS_size, IntWalk.wrap64_in _ (by have := HL.out; have := (show left.length ≤ l.length from LS.out); omega)]
        have := (show left.length ≤ l.length from LS.out)
        omega
      rw [ws]
      have EY := Lib.hid (Blk.drew (A6.out.store9 (.int .i64 k) (.int .i64 id) (.int .i64 sv) (.int .i64 m) (.int .i64 co) (.int .i64 e) (.int .i64 p) (.bool early) (.slice av parts.length cv)))
      have e0 := EY.out.cell 0; have e1 := EY.out.cell 1; have e2 := EY.out.cell 2; have e3 := EY.out.cell 3; have e4 := EY.out.cell 4; have e5 := EY.out.cell 5; have e6 := EY.out.cell 6; have e7 := EY.out.cell 7; have e8 := EY.out.cell 8
      simp at e0 e1 e2 e3 e4 e5 e6 e7 e8
      have FI := Lib.hid (show FirstO l w (.returned (.tuple #[cmV ⟨k, id, sv, m, co, e, p, early, parts⟩ (.slice av parts.length cv), .int .i64 ((l.length - left.length : Nat) : Int), .bool true])) _ from ⟨(below_store9 B6.out (Nat.le_refl _) (.int .i64 k) (.int .i64 id) (.int .i64 sv) (.int .i64 m) (.int .i64 co) (.int .i64 e) (.int .i64 p) (.bool early) (.slice av parts.length cv)).drew, .inl ⟨_, _, _, by rw [FV.out, if_pos ⟨rfl, by omega⟩], rfl, by
        obtain ⟨a', c', e', h', f'⟩ := P6.out
        refine ⟨a', c', e', ?_, f'⟩
        have kk := ((((((((((Keeps.refl (fun x => x = w.heap.size) W6).set (.inl rfl) 0 (.int .i64 k)).set (.inl rfl) 1 (.int .i64 id)).set (.inl rfl) 2 (.int .i64 sv)).set (.inl rfl) 3 (.int .i64 m)).set (.inl rfl) 4 (.int .i64 co)).set (.inl rfl) 5 (.int .i64 e)).set (.inl rfl) 6 (.int .i64 p)).set (.inl rfl) 7 (.bool early)).set (.inl rfl) 8 (.slice av parts.length cv)).drew
        exact h'.keeps kk (fun ad e q => by have := f' ad e; omega)⟩⟩)
      go_wp2
      exact bodyPost_ret (v := .tuple #[.agg #[.int .i64 k, .int .i64 id, .int .i64 sv, .int .i64 m, .int .i64 co, .int .i64 e, .int .i64 p, .bool early, .slice av parts.length cv], .int .i64 ((l.length - left.length : Nat) : Int), .bool true]) (by simp [results, Try.results17, go_sem, e0, e1, e2, e3, e4, e5, e6, e7, e8]) rfl FI.out
end Go.Proofs.Ytlcagjmppmajeaa
