/-
  Package super: the closure that finds a part's jobs: contracts.
  Package super: the earliest job that waits: contract.
-/
import Derived.Test.YtnlgophgglgneaaSzA
namespace Go.Proofs.Ytnlgophgglgneaa
open Go.RowKit

/-- the closure's two boxes -/
structure WaitAt (w : World) (b1 b2 g : Nat) (t : Int) : Prop where
  x : Blk w 29 b1 #[.pointer (some ⟨g, 0, none⟩)]
  y : Blk w 2 b2 #[.int .i64 t]
theorem WaitAt.below {w w' : World} {b1 b2 g : Nat} {t : Int} (h : WaitAt w b1 b2 g t) (hb : Below w.heap.size w w') : WaitAt w' b1 b2 g t := ⟨h.x.below hb, h.y.below hb⟩
theorem WaitAt.drew {w : World} {b1 b2 g : Nat} {t : Int} (h : WaitAt w b1 b2 g t) : WaitAt w.drew b1 b2 g t := ⟨h.x.drew, h.y.drew⟩
def waitF (b1 b2 : Nat) : Value := .func (.func 65) #[] #[.pointer (some ⟨b1, 0, none⟩), .pointer (some ⟨b2, 0, none⟩)]
theorem Blk.by {W : World} {T : TypeId} {n : Nat} {cs : Array Value} (h : W.heap.size = n) : Blk (W.alloc (.cells cs T)) T n cs := h ▸ Blk.new W T cs
theorem Blk.set_ {w : World} {T : TypeId} {g : Nat} {cs : Array Value} (h : Blk w T g cs) (i : Nat) (u : Value) : Blk (w.setCell ⟨g, i, none⟩ u) T g (cs.setIfInBounds i u) := by
  unfold Blk at h ⊢
  simp [World.setCell, Array.getElem?_modify, h]
theorem Blk.far {w : World} {T : TypeId} {g : Nat} {cs : Array Value} (h : Blk w T g cs) {p : Addr} (hp : g ≠ p.block) (u : Value) : Blk (w.setCell p u) T g cs := (Below.heap_setCell w p u g hp).trans h
theorem swaiting_any (g : Nat) (t : Int) (w : World) : Calls Try.prog 44 #[.pointer (some ⟨g, 0, none⟩), .int .i64 t] w fun e w' => e = .returned (.func (.func 65) #[] #[.pointer (some ⟨w.heap.size, 0, none⟩), .pointer (some ⟨w.heap.size + 1, 0, none⟩)]) ∧ WaitAt w' w.heap.size (w.heap.size + 1) g t ∧ Below w.heap.size w w' := by
  have H := Lib.hid (show WaitAt ((w.alloc (.cells #[.pointer (some ⟨g, 0, none⟩)] 29)).alloc (.cells #[.int .i64 t] 2)) w.heap.size (w.heap.size + 1) g t from ⟨(Blk.new w _ _).alloc _, Blk.new2 w _ _ _⟩)
  have B := Lib.hid (wbox2 w (.cells #[.pointer (some ⟨g, 0, none⟩)] 29) (.cells #[.int .i64 t] 2))
  go_enter Try.func44, Try.ntmps44
  go_wp2
  go_ret
  exact ⟨rfl, H.out, B.out⟩
/-- what a job's numbers are, at most -/
theorem job_fit {s : SS} (h : GoodU s) (hs : s.served ≤ 1000000) {i k : Nat} (hi : i < s.n) (hk : k ≤ 1000) : 0 ≤ ixS s i + k ∧ ixS s i + k ≤ 1001000 ∧ 0 ≤ (ixS s i + k) * s.P i ∧ (ixS s i + k) * s.P i ≤ 1049624576000 ∧ 1 ≤ s.P i ∧ s.P i ≤ 1048576 := by
  have ⟨b1, b2, _, _⟩ := ix_bd h hi
  have b5 := h.d1 i
  obtain ⟨m1, m2, m3⟩ := h.mb hi
  have h1 : 0 ≤ (ixS s i + k) * s.P i := Int.mul_nonneg (by omega) (by omega)
  have h2 : (ixS s i + k) * s.P i ≤ 1001000 * s.P i := Int.mul_le_mul_of_nonneg_right (by omega) (by omega)
  omega
set_option maxRecDepth 20000 in
set_option maxHeartbeats 4000000 in
theorem sjob_any (g gc cap b1 b2 : Nat) (s : SS) (t : Int) (i k : Nat) (w : World) (h : SAt w g gc cap s) (hw : WaitAt w b1 b2 g t) (hi : i < s.n) (hk : k ≤ 1000) (hs : s.served ≤ 1000000) (J : Jb) (hJ : jobS s i k = J) (b : Bool) (hb : decide (J.rel ≤ t) = b) :
    Calls Try.prog 65 #[.int .i64 i, .int .i64 k, .pointer (some ⟨b1, 0, none⟩), .pointer (some ⟨b2, 0, none⟩)] w fun e w' => e = .returned (.tuple #[J.v, .bool b]) ∧ Below w.heap.size w w' := by
  subst hb
  obtain ⟨f1, f2, f3, f4, f5, f6⟩ := job_fit h.good hs hi hk
  have ⟨x1, x2, x3, x4⟩ := ix_bd h.good hi
  have x5 := h.good.d1 i
  have x6 := (h.good.mb hi).2.1
  have a0 := h.good.a0; have a1 := h.good.al; have a2 := h.good.l1
  have CC := Lib.hid (owns_comp h.row hi)
  have i1 : (i : Int) < (s.n : Int) := by omega
  have i0 : 0 ≤ (i : Int) := by omega
  have CL := Lib.hid (show ∀ W : World, Below w.heap.size w W → W.cell? ⟨b1, 0, none⟩ = some (.pointer (some ⟨g, 0, none⟩)) ∧ W.cell? ⟨b2, 0, none⟩ = some (.int .i64 t) ∧ W.cell? ⟨g, 0, none⟩ = some (.slice (some ⟨gc, 0, none⟩) s.n cap) ∧ W.cell? ⟨g, 1, none⟩ = some (.int .i64 s.A) from fun W hb => ⟨(hw.below hb).x.cell 0, (hw.below hb).y.cell 0, (h.below hb).box.cell 0, (h.below hb).box.cell 1⟩)
  have SZ := Lib.hid (show b1 < w.heap.size ∧ b2 < w.heap.size ∧ g < w.heap.size ∧ gc < w.heap.size from ⟨hw.x.lt, hw.y.lt, h.lt.1, h.lt.2⟩)
  have JV := Lib.hid (show J = ⟨i, ixS s i + k, s.A + (ixS s i + k) * s.P i, s.A + (ixS s i + k) * s.P i + s.P i, if k = 0 then lfS s i else s.E i⟩ from hJ.symm)
  obtain ⟨n, hn⟩ : ∃ n, s.n = n := ⟨_, rfl⟩
  obtain ⟨E, hE⟩ : ∃ E, s.E i = E := ⟨_, rfl⟩
  obtain ⟨P, hP⟩ : ∃ P, s.P i = P := ⟨_, rfl⟩
  obtain ⟨X, hX⟩ : ∃ X, ixS s i = X := ⟨_, rfl⟩
  obtain ⟨L, hL⟩ : ∃ L, lfS s i = L := ⟨_, rfl⟩
  obtain ⟨A, hA⟩ : ∃ A, s.A = A := ⟨_, rfl⟩
  obtain ⟨p0, p1, p2, p3⟩ := CC.out
  rw [hE] at JV x4 x6 p0
  rw [hP] at JV x6 p1
  rw [hX] at JV x1 x2 p2
  rw [hL] at JV x3 x4 p3
  rw [hA] at JV CL a0 a1
  rw [hn] at CL i1
  rw [hX, hP] at f3 f4
  rw [hX] at f1 f2
  rw [hP] at f5 f6
  have PC := Lib.hid (show ∀ W : World, Below w.heap.size w W → W.cell? ⟨gc, i * 4, none⟩ = some (.int .i64 E) ∧ W.cell? ⟨gc, i * 4 + 1, none⟩ = some (.int .i64 P) ∧ W.cell? ⟨gc, i * 4 + 2, none⟩ = some (.int .i64 X) ∧ W.cell? ⟨gc, i * 4 + 3, none⟩ = some (.int .i64 L) from fun W hb => ⟨(hb.cell (p := ⟨gc, i * 4, none⟩) SZ.out.2.2.2).trans p0, (hb.cell (p := ⟨gc, i * 4 + 1, none⟩) SZ.out.2.2.2).trans p1, (hb.cell (p := ⟨gc, i * 4 + 2, none⟩) SZ.out.2.2.2).trans p2, (hb.cell (p := ⟨gc, i * 4 + 3, none⟩) SZ.out.2.2.2).trans p3⟩)
  obtain ⟨M, hM⟩ : ∃ M, (X + k) * P = M := ⟨_, rfl⟩
  rw [hM] at JV f3 f4
  have wM : IntKind.i64.wrap ((X + k) * P) = M := by rw [hM]; exact IntWalk.i64_in _ (by omega)
  have WM := Lib.hid wM
  clear h hw hJ hn hE hP hX hL hA CC p0 p1 p2 p3 hM wM
  obtain ⟨z0, z1, z2, z3⟩ := SZ.out
  have Bz := Lib.hid (wbox w (.cells #[.int .i64 0, .int .i64 0, .int .i64 0, .int .i64 0, .int .i64 0] 39))
  have ⟨c0, c1, c2, c3⟩ := CL.out _ Bz.out
  have ⟨p0, p1, p2, p3⟩ := PC.out _ Bz.out
  go_enter Try.func65, Try.ntmps65
  go_upto_region 3 with fail
  obtain ⟨W3, hW3⟩ : ∃ W3, ((w.alloc (.cells #[.int .i64 0, .int .i64 0, .int .i64 0, .int .i64 0, .int .i64 0] 39)).alloc (.cells #[.int .i64 E, .int .i64 P, .int .i64 X, .int .i64 L] 73)).alloc (.cells #[.int .i64 i, .int .i64 (X + k), .int .i64 0, .int .i64 0, .int .i64 E] 39) = W3 := ⟨_, rfl⟩
  have B3 := Lib.hid (show Below w.heap.size w W3 by rw [← hW3]; exact wbox3 _ _ _ _)
  have Z3 := Lib.hid (show Blk W3 39 w.heap.size #[.int .i64 0, .int .i64 0, .int .i64 0, .int .i64 0, .int .i64 0] by rw [← hW3]; exact ((Blk.new w _ _).alloc _).alloc _)
  have C3 := Lib.hid (show Blk W3 73 (w.heap.size + 1) #[.int .i64 E, .int .i64 P, .int .i64 X, .int .i64 L] by rw [← hW3]; exact (Blk.new2 w _ _ _).alloc _)
  have K3 := Lib.hid (show Blk W3 39 (w.heap.size + 1 + 1) #[.int .i64 i, .int .i64 (X + k), .int .i64 0, .int .i64 0, .int .i64 E] by rw [← hW3]; exact Blk.by (by simp))
  rw [hW3]
  clear hW3 c0 c1 c2 c3 p0 p1 p2 p3 Bz
  have WAM : IntKind.i64.wrap (A + M) = A + M := IntWalk.i64_in _ (by omega)
  have HWAM := Lib.hid WAM
  clear WAM
  by_cases k0 : k = 0
  · have t1 : ((k : Int) == 0) = true := by simp [k0]
    have K0 := Lib.hid k0
    clear k0
    have kf : ∀ o, W3.frozen? ⟨w.heap.size + 1 + 1, o, none⟩ = false := fun o => K3.out.free o
    have c3 := C3.out.cell 3
    have k4 := K3.out.cell 4
    simp at c3 k4
    go_upto_region 5 with fail
    obtain ⟨W4, hW4⟩ : ∃ W4, W3.setCell ⟨w.heap.size + 1 + 1, 4, none⟩ (.int .i64 L) = W4 := ⟨_, rfl⟩
    obtain ⟨Lv, hLv⟩ : ∃ Lv, L = Lv := ⟨_, rfl⟩
    have LV := Lib.hid (show Lv = if k = 0 then L else E by rw [if_pos K0.out, hLv])
    have B4 := Lib.hid (show Below w.heap.size w W4 by rw [← hW4]; exact B3.out.setCell (by simp; omega) _)
    have Z4 := Lib.hid (show Blk W4 39 w.heap.size #[.int .i64 0, .int .i64 0, .int .i64 0, .int .i64 0, .int .i64 0] by rw [← hW4]; exact Z3.out.far (by simp; omega) _)
    have C4 := Lib.hid (show Blk W4 73 (w.heap.size + 1) #[.int .i64 E, .int .i64 P, .int .i64 X, .int .i64 L] by rw [← hW4]; exact C3.out.far (by simp) _)
    have K4 := Lib.hid (show Blk W4 39 (w.heap.size + 1 + 1) #[.int .i64 i, .int .i64 (X + k), .int .i64 0, .int .i64 0, .int .i64 Lv] by rw [← hW4, ← hLv]; exact K3.out.set_ 4 _)
    rw [hW4]
    clear hW4 hLv kf c3 k4 B3 Z3 C3 K3 K0
    have ⟨c0, c1, c2, c3⟩ := CL.out _ B4.out
    have P4 := C4.out.cell 1
    have I4 := K4.out.cell 1
    simp at P4 I4
    have kf : ∀ o, W4.frozen? ⟨w.heap.size + 1 + 1, o, none⟩ = false := fun o => K4.out.free o
    have k2 := K4.out.cell 2
    simp at k2
    have wM := WM.out
    have WAM := HWAM.out
    go_region
    all_goals
      obtain ⟨W5, hW5⟩ : ∃ W5, (W4.setCell ⟨w.heap.size + 1 + 1, 2, none⟩ (.int .i64 (A + M))).drew = W5 := ⟨_, rfl⟩
      have B5 := Lib.hid (show Below w.heap.size w W5 by rw [← hW5]; exact (B4.out.setCell (by simp; omega) _).drew)
      have Z5 := Lib.hid (show Blk W5 39 w.heap.size #[.int .i64 0, .int .i64 0, .int .i64 0, .int .i64 0, .int .i64 0] by rw [← hW5]; exact (Z4.out.far (by simp; omega) _).drew)
      have C5 := Lib.hid (show Blk W5 73 (w.heap.size + 1) #[.int .i64 E, .int .i64 P, .int .i64 X, .int .i64 L] by rw [← hW5]; exact (C4.out.far (by simp) _).drew)
      have K5 := Lib.hid (show Blk W5 39 (w.heap.size + 1 + 1) #[.int .i64 i, .int .i64 (X + k), .int .i64 (A + M), .int .i64 0, .int .i64 Lv] by rw [← hW5]; exact (K4.out.set_ 2 _).drew)
      rw [hW5]
      clear hW5 kf k2 P4 I4 c0 c1 c2 c3 B4 Z4 C4 K4 wM WAM
      have P5 := C5.out.cell 1
      have R5 := K5.out.cell 2
      have D5 := K5.out.cell 3
      simp at P5 R5 D5
      have kf : ∀ o, W5.frozen? ⟨w.heap.size + 1 + 1, o, none⟩ = false := fun o => K5.out.free o
      go_upto_region 7 with fail
      obtain ⟨W6, hW6⟩ : ∃ W6, W5.setCell ⟨w.heap.size + 1 + 1, 3, none⟩ (.int .i64 (A + M + P)) = W6 := ⟨_, rfl⟩
      have B6 := Lib.hid (show Below w.heap.size w W6 by rw [← hW6]; exact B5.out.setCell (by simp; omega) _)
      have Z6 := Lib.hid (show Blk W6 39 w.heap.size #[.int .i64 0, .int .i64 0, .int .i64 0, .int .i64 0, .int .i64 0] by rw [← hW6]; exact Z5.out.far (by simp; omega) _)
      have K6 := Lib.hid (show Blk W6 39 (w.heap.size + 1 + 1) #[.int .i64 i, .int .i64 (X + k), .int .i64 (A + M), .int .i64 (A + M + P), .int .i64 Lv] by rw [← hW6]; exact K5.out.set_ 3 _)
      rw [hW6]
      clear hW6 kf P5 R5 D5 B5 Z5 C5 K5
      have ⟨c0, c1, c2, c3⟩ := CL.out _ B6.out
      have k0 := K6.out.cell 0; have k1 := K6.out.cell 1; have k2 := K6.out.cell 2; have k3 := K6.out.cell 3; have k4 := K6.out.cell 4
      have z0 := Z6.out.cell 0; have z1 := Z6.out.cell 1; have z2 := Z6.out.cell 2; have z3 := Z6.out.cell 3; have z4 := Z6.out.cell 4
      simp at k0 k1 k2 k3 k4 z0 z1 z2 z3 z4
      have zf : ∀ o, W6.frozen? ⟨w.heap.size, o, none⟩ = false := fun o => Z6.out.free o
      go_region
      all_goals
        have JJ : J = ⟨i, X + k, A + M, A + M + P, Lv⟩ := by rw [JV.out, LV.out]
        obtain ⟨W7, hW7⟩ : ∃ W7, (((((W6.setCell ⟨w.heap.size, 0, none⟩ (.int .i64 i)).setCell ⟨w.heap.size, 1, none⟩ (.int .i64 (X + k))).setCell ⟨w.heap.size, 2, none⟩ (.int .i64 (A + M))).setCell ⟨w.heap.size, 3, none⟩ (.int .i64 (A + M + P))).setCell ⟨w.heap.size, 4, none⟩ (.int .i64 Lv)).drew = W7 := ⟨_, rfl⟩
        have Z7 : Blk W7 39 w.heap.size #[.int .i64 i, .int .i64 (X + k), .int .i64 (A + M), .int .i64 (A + M + P), .int .i64 Lv] := by rw [← hW7]; exact (((((Z6.out.set_ 0 _).set_ 1 _).set_ 2 _).set_ 3 _).set_ 4 _).drew
        have B7 : Below w.heap.size w W7 := by rw [← hW7]; exact (((((B6.out.setCell (Nat.le_refl _) _).setCell (Nat.le_refl _) _).setCell (Nat.le_refl _) _).setCell (Nat.le_refl _) _).setCell (Nat.le_refl _) _).drew
        have y0 := Z7.cell 0; have y1 := Z7.cell 1; have y2 := Z7.cell 2; have y3 := Z7.cell 3; have y4 := Z7.cell 4
        simp at y0 y1 y2 y3 y4
        rw [hW7]
        go_wp2
        refine bodyPost_ret (v := .tuple #[.agg #[.int .i64 i, .int .i64 (X + k), .int .i64 (A + M), .int .i64 (A + M + P), .int .i64 Lv], .bool (decide (A + M ≤ t))]) (by simp [results, Try.results65, go_sem, y0, y1, y2, y3, y4]) rfl ⟨?_, B7⟩
        rw [JJ]; rfl
  · have t1 : ((k : Int) == 0) = false := by simp [k0]
    obtain ⟨Lv, hLv⟩ : ∃ Lv, E = Lv := ⟨_, rfl⟩
    have LV := Lib.hid (show Lv = if k = 0 then L else E by rw [if_neg k0, hLv])
    have K4 := Lib.hid (show Blk W3 39 (w.heap.size + 1 + 1) #[.int .i64 i, .int .i64 (X + k), .int .i64 0, .int .i64 0, .int .i64 Lv] by rw [← hLv]; exact K3.out)
    clear k0 K3 hLv
    go_upto_region 5 with fail
    obtain ⟨W4, hW4⟩ : ∃ W4, W3 = W4 := ⟨_, rfl⟩
    rw [hW4] at B3 Z3 C3 K4
    rw [hW4]
    have B4 := Lib.hid B3.out; have Z4 := Lib.hid Z3.out; have C4 := Lib.hid C3.out
    clear hW4 B3 Z3 C3
    have ⟨c0, c1, c2, c3⟩ := CL.out _ B4.out
    have P4 := C4.out.cell 1
    have I4 := K4.out.cell 1
    simp at P4 I4
    have kf : ∀ o, W4.frozen? ⟨w.heap.size + 1 + 1, o, none⟩ = false := fun o => K4.out.free o
    have k2 := K4.out.cell 2
    simp at k2
    have wM := WM.out
    have WAM := HWAM.out
    go_region
    all_goals
      obtain ⟨W5, hW5⟩ : ∃ W5, (W4.setCell ⟨w.heap.size + 1 + 1, 2, none⟩ (.int .i64 (A + M))).drew = W5 := ⟨_, rfl⟩
      have B5 := Lib.hid (show Below w.heap.size w W5 by rw [← hW5]; exact (B4.out.setCell (by simp; omega) _).drew)
      have Z5 := Lib.hid (show Blk W5 39 w.heap.size #[.int .i64 0, .int .i64 0, .int .i64 0, .int .i64 0, .int .i64 0] by rw [← hW5]; exact (Z4.out.far (by simp; omega) _).drew)
      have C5 := Lib.hid (show Blk W5 73 (w.heap.size + 1) #[.int .i64 E, .int .i64 P, .int .i64 X, .int .i64 L] by rw [← hW5]; exact (C4.out.far (by simp) _).drew)
      have K5 := Lib.hid (show Blk W5 39 (w.heap.size + 1 + 1) #[.int .i64 i, .int .i64 (X + k), .int .i64 (A + M), .int .i64 0, .int .i64 Lv] by rw [← hW5]; exact (K4.out.set_ 2 _).drew)
      rw [hW5]
      clear hW5 kf k2 P4 I4 c0 c1 c2 c3 B4 Z4 C4 K4 wM WAM
      have P5 := C5.out.cell 1
      have R5 := K5.out.cell 2
      have D5 := K5.out.cell 3
      simp at P5 R5 D5
      have kf : ∀ o, W5.frozen? ⟨w.heap.size + 1 + 1, o, none⟩ = false := fun o => K5.out.free o
      go_upto_region 7 with fail
      obtain ⟨W6, hW6⟩ : ∃ W6, W5.setCell ⟨w.heap.size + 1 + 1, 3, none⟩ (.int .i64 (A + M + P)) = W6 := ⟨_, rfl⟩
      have B6 := Lib.hid (show Below w.heap.size w W6 by rw [← hW6]; exact B5.out.setCell (by simp; omega) _)
      have Z6 := Lib.hid (show Blk W6 39 w.heap.size #[.int .i64 0, .int .i64 0, .int .i64 0, .int .i64 0, .int .i64 0] by rw [← hW6]; exact Z5.out.far (by simp; omega) _)
      have K6 := Lib.hid (show Blk W6 39 (w.heap.size + 1 + 1) #[.int .i64 i, .int .i64 (X + k), .int .i64 (A + M), .int .i64 (A + M + P), .int .i64 Lv] by rw [← hW6]; exact K5.out.set_ 3 _)
      rw [hW6]
      clear hW6 kf P5 R5 D5 B5 Z5 C5 K5
      have ⟨c0, c1, c2, c3⟩ := CL.out _ B6.out
      have k0 := K6.out.cell 0; have k1 := K6.out.cell 1; have k2 := K6.out.cell 2; have k3 := K6.out.cell 3; have k4 := K6.out.cell 4
      have z0 := Z6.out.cell 0; have z1 := Z6.out.cell 1; have z2 := Z6.out.cell 2; have z3 := Z6.out.cell 3; have z4 := Z6.out.cell 4
      simp at k0 k1 k2 k3 k4 z0 z1 z2 z3 z4
      have zf : ∀ o, W6.frozen? ⟨w.heap.size, o, none⟩ = false := fun o => Z6.out.free o
      go_region
      all_goals
        have JJ : J = ⟨i, X + k, A + M, A + M + P, Lv⟩ := by rw [JV.out, LV.out]
        obtain ⟨W7, hW7⟩ : ∃ W7, (((((W6.setCell ⟨w.heap.size, 0, none⟩ (.int .i64 i)).setCell ⟨w.heap.size, 1, none⟩ (.int .i64 (X + k))).setCell ⟨w.heap.size, 2, none⟩ (.int .i64 (A + M))).setCell ⟨w.heap.size, 3, none⟩ (.int .i64 (A + M + P))).setCell ⟨w.heap.size, 4, none⟩ (.int .i64 Lv)).drew = W7 := ⟨_, rfl⟩
        have Z7 : Blk W7 39 w.heap.size #[.int .i64 i, .int .i64 (X + k), .int .i64 (A + M), .int .i64 (A + M + P), .int .i64 Lv] := by rw [← hW7]; exact (((((Z6.out.set_ 0 _).set_ 1 _).set_ 2 _).set_ 3 _).set_ 4 _).drew
        have B7 : Below w.heap.size w W7 := by rw [← hW7]; exact (((((B6.out.setCell (Nat.le_refl _) _).setCell (Nat.le_refl _) _).setCell (Nat.le_refl _) _).setCell (Nat.le_refl _) _).setCell (Nat.le_refl _) _).drew
        have y0 := Z7.cell 0; have y1 := Z7.cell 1; have y2 := Z7.cell 2; have y3 := Z7.cell 3; have y4 := Z7.cell 4
        simp at y0 y1 y2 y3 y4
        rw [hW7]
        go_wp2
        refine bodyPost_ret (v := .tuple #[.agg #[.int .i64 i, .int .i64 (X + k), .int .i64 (A + M), .int .i64 (A + M + P), .int .i64 Lv], .bool (decide (A + M ≤ t))]) (by simp [results, Try.results65, go_sem, y0, y1, y2, y3, y4]) rfl ⟨?_, B7⟩
        rw [JJ]; rfl
end Go.Proofs.Ytnlgophgglgneaa
namespace Go.Proofs.Ytnlgophgglgneaa
open Go.RowKit

def Jb.arr (j : Jb) : Array Value := #[.int .i64 j.part, .int .i64 j.idx, .int .i64 j.rel, .int .i64 j.dl, .int .i64 j.left]
theorem Jb.arr_v (j : Jb) : j.v = .agg j.arr := rfl
/-- the earliest of the first i parts -/
def bestI (s : SS) (t : Int) (i : Nat) : Option Nat := bestN s.E s.P s.D s.A t i
def jobO (s : SS) : Option Nat → Jb | none => jb0 | some b => jobS s b 0
theorem bestI_zero (s : SS) (t : Int) : bestI s t 0 = none := rfl
theorem bestI_n (s : SS) (t : Int) : bestI s t s.n = bestS s t := rfl
theorem bestI_lt {s : SS} {t : Int} {i b : Nat} (h : bestI s t i = some b) : b < i := (best_some s.E s.P s.D s.A t h).1
theorem bestI_idle {s : SS} {t : Int} {i : Nat} (hp : ¬ PendN s.E s.P s.D s.A t i) : bestI s t (i + 1) = bestI s t i := by unfold bestI; rw [bestN, if_neg hp]
theorem bestI_first {s : SS} {t : Int} {i : Nat} (hp : PendN s.E s.P s.D s.A t i) (hb : bestI s t i = none) : bestI s t (i + 1) = some i := by unfold bestI at hb ⊢; rw [bestN, if_pos hp, hb]
theorem bestI_next {s : SS} {t : Int} {i b : Nat} (hp : PendN s.E s.P s.D s.A t i) (hb : bestI s t i = some b) : bestI s t (i + 1) = if (jobS s i 0).dl < (jobS s b 0).dl then some i else some b := by
  unfold bestI at hb ⊢
  rw [bestN, if_pos hp, hb]
  simp only [dl_is]
theorem cf_pos {x y : Jb} (h : y.part < x.part) : decide (cfJ x y > 0) = !decide (x.dl < y.dl) := by
  unfold cfJ orV cmpV
  by_cases h1 : x.dl < y.dl
  · simp [h1]
  · by_cases h2 : y.dl < x.dl
    · simp [h1, h2]
    · have : ¬ x.part < y.part := by omega
      simp [h1, h2, h, this]
theorem pend_job {s : SS} (h : GoodU s) {i : Nat} (hi : i < s.n) {t : Int} : PendN s.E s.P s.D s.A t i ↔ (jobS s i 0).rel ≤ t := by
  rw [pend_is h hi]
  show _ ↔ s.A + (ixS s i + ((0 : Nat) : Int)) * s.P i ≤ t
  rw [show ixS s i + ((0 : Nat) : Int) = ixS s i by simp]
theorem sjob0_any (g gc cap b1 b2 : Nat) (s : SS) (t : Int) (i : Nat) (w : World) (h : SAt w g gc cap s) (hw : WaitAt w b1 b2 g t) (hi : i < s.n) (hs : s.served ≤ 1000000) (J : Jb) (hJ : jobS s i 0 = J) (b : Bool) (hb : decide (J.rel ≤ t) = b) :
    Calls Try.prog 65 #[.int .i64 i, .int .i64 0, .pointer (some ⟨b1, 0, none⟩), .pointer (some ⟨b2, 0, none⟩)] w fun e w' => e = .returned (.tuple #[J.v, .bool b]) ∧ Below w.heap.size w w' :=
  sjob_any g gc cap b1 b2 s t i 0 w h hw hi (by omega) hs J hJ b hb
theorem WaitAt.keeps {F : Nat → Prop} {w w' : World} {b1 b2 g : Nat} {t : Int} (h : WaitAt w b1 b2 g t) (k : Keeps F w w') (h1 : ¬ F b1) (h2 : ¬ F b2) : WaitAt w' b1 b2 g t := ⟨h.x.keeps k h1, h.y.keeps k h2⟩
set_option maxRecDepth 20000 in
set_option maxHeartbeats 4000000 in
theorem searliest_any (g gc cap : Nat) (s : SS) (t : Int) (w : World) (h : SAt w g gc cap s) (hs : s.served ≤ 1000000) (J : Jb) (hJ : jobO s (bestS s t) = J) (b : Bool) (hb : (bestS s t).isSome = b) :
    Calls Try.prog 39 #[.pointer (some ⟨g, 0, none⟩), .int .i64 t] w fun e w' => e = .returned (.tuple #[J.v, .bool b]) ∧ Below w.heap.size w w' := by
  have H0 := Lib.hid h
  have GD := Lib.hid h.good
  have ⟨l1, l2⟩ := h.lt
  have HJ := Lib.hid hJ; have HB := Lib.hid hb
  have n8 : s.n ≤ 8 := h.good.may.few
  clear h hJ hb
  obtain ⟨W1, hW1⟩ : ∃ W1, w.alloc (.cells #[.int .i64 0, .int .i64 0, .int .i64 0, .int .i64 0, .int .i64 0] 39) = W1 := ⟨_, rfl⟩
  have B1 := Lib.hid (show Below w.heap.size w W1 by rw [← hW1]; exact wbox _ _)
  have R1 := Lib.hid (show Blk W1 39 w.heap.size jb0.arr by rw [← hW1]; exact Blk.new w _ _)
  have z1 : W1.heap.size = w.heap.size + 1 := by rw [← hW1]; simp
  have Z1 := Lib.hid z1
  clear z1
  go_enter Try.func39, Try.ntmps39
  go_wp2_with fail
  go_step3
  go_wp2_with fail
  clear hW1
  refine (swaiting_any g t W1).mono ?_
  rintro e W2 ⟨rfl, hw, hb2⟩
  have WT := Lib.hid hw
  have S2 := Lib.hid ((H0.out.below B1.out).below hb2)
  have R2 := Lib.hid (R1.out.below hb2)
  have B2 := Lib.hid (below_next B1.out hb2)
  have z2 : W1.heap.size + 2 ≤ W2.heap.size := by have h1 := hw.y.lt; omega
  have Z2 := Lib.hid z2
  obtain ⟨q, hq⟩ : ∃ q, W1.heap.size = q := ⟨_, rfl⟩
  rw [hq] at WT Z1 z2 ⊢
  rw [hq] at Z2
  have sq : w.heap.size < q := by have := Z1.out; omega
  clear hw hb2 z2 R1 B1 H0 hq Z1
  have c0 := S2.out.box.cell 0
  simp [boxS] at c0
  obtain ⟨n, hn⟩ : ∃ n, s.n = n := ⟨_, rfl⟩
  have HN := Lib.hid hn
  rw [hn] at c0 n8
  clear hn
  go_wp2
  go_step3
  go_wp2
  clear c0
  go_loopw [5, 18] (fun u v wr => ∃ i : Nat, v = .int .i64 i ∧ i ≤ n ∧ u = .bool (bestI s t i).isSome ∧ Blk wr 39 w.heap.size (jobO s (bestI s t i)).arr ∧ Keeps (fun k => k = w.heap.size) W2 wr) (fun _ v _ => n - (intOf v).toNat)
  case atStart => exact ⟨0, rfl, by omega, rfl, R2.out, Keeps.refl _ _⟩
  case round =>
    obtain ⟨i, rfl, i1, rfl, hR, hK⟩ := hrel
    have R := Lib.hid hR
    have K := Lib.hid hK
    have SR := Lib.hid (S2.out.keeps hK (by omega) (by omega))
    have WR := Lib.hid (WT.out.keeps hK (by omega) (by omega))
    have BR := Lib.hid (hK.below B2.out (fun k e => by omega) (by have := hK.size; have := Z2.out; omega))
    clear hR hK
    by_cases go : i < n
    · have b1 : decide (i < n) = true := by simp; omega
      have b2 : decide ((i : Int) < (n : Int)) = true := by simp; omega
      have hi := Lib.hid (show i < s.n by rw [HN.out]; exact go)
      have PJ := Lib.hid (pend_job GD.out hi.out (t := t))
      have NX := Lib.hid (fun b (e : bestI s t i = some b) (hp : PendN s.E s.P s.D s.A t i) => bestI_next hp e)
      have FX := Lib.hid (fun (e : bestI s t i = none) (hp : PendN s.E s.P s.D s.A t i) => bestI_first hp e)
      have IX := Lib.hid (fun (hp : ¬ PendN s.E s.P s.D s.A t i) => bestI_idle hp)
      have JO := Lib.hid (show jobO s (some i) = jobS s i 0 from rfl)
      have JP := Lib.hid (show (jobS s i 0).part = i from rfl)
      obtain ⟨J1, hJ1⟩ : ∃ J, jobS s i 0 = J := ⟨_, rfl⟩
      have HJ1 := Lib.hid hJ1
      rw [hJ1] at PJ NX JO JP
      clear hJ1
      obtain ⟨wb, hwb⟩ : ∃ wb, decide (J1.rel ≤ t) = wb := ⟨_, rfl⟩
      have WB := Lib.hid hwb
      clear hwb
      go_wp2_with fail
      refine (sjob0_any g gc cap q (q + 1) s t i wr SR.out WR.out hi.out hs J1 HJ1.out wb WB.out).mono ?_
      rintro e W3 ⟨rfl, hb3⟩
      have K3 := Lib.hid (K.out.next hb3)
      have R3 := Lib.hid (R.out.below hb3)
      have B3 := Lib.hid (below_next BR.out hb3)
      clear hb3
      obtain ⟨p1, n1, r1, d1, f1⟩ := J1
      simp only [Jb.v]
      obtain ⟨W4, hW4⟩ : ∃ W4, W3.alloc (.cells #[.int .i64 p1, .int .i64 n1, .int .i64 r1, .int .i64 d1, .int .i64 f1] 39) = W4 := ⟨_, rfl⟩
      have XB := Lib.hid (show Blk W4 39 W3.heap.size #[.int .i64 p1, .int .i64 n1, .int .i64 r1, .int .i64 d1, .int .i64 f1] by rw [← hW4]; exact Blk.new _ _ _)
      have K4 := Lib.hid (show Keeps (fun k => k = w.heap.size) W2 W4 by rw [← hW4]; exact K3.out.alloc _)
      have R4 := Lib.hid (show Blk W4 39 w.heap.size (jobO s (bestI s t i)).arr by rw [← hW4]; exact R3.out.alloc _)
      have hz3 : w.heap.size < W3.heap.size := by have h1 := K3.out.size; have h2 := Z2.out; omega
      have HZ3 := Lib.hid hz3
      clear K3 R3 B3 hz3
      cases wb with
      | false =>
        have NP := Lib.hid (IX.out (fun hp => by have h1 : r1 ≤ t := PJ.out.mp hp; have h2 := WB.out; simp at h2; omega))
        go_wp2
        go_roundw
        case rel => exact ⟨i + 1, by go_num, by omega, by rw [NP.out], by rw [NP.out]; exact R4.out, K4.out⟩
        case measure => simp [intOf]; omega
      | true =>
        have HP := Lib.hid (PJ.out.mpr (show r1 ≤ t by have h2 := WB.out; simp at h2; omega))
        cases hbi : bestI s t i with
        | none =>
          have FN := Lib.hid (FX.out hbi HP.out)
          rw [hbi] at R4
          have YB := Lib.hid (show Blk W4 39 w.heap.size #[.int .i64 0, .int .i64 0, .int .i64 0, .int .i64 0, .int .i64 0] from R4.out)
          clear hbi FX NX IX
          have x0 := XB.out.cell 0; have x1 := XB.out.cell 1; have x2 := XB.out.cell 2; have x3 := XB.out.cell 3; have x4 := XB.out.cell 4
          have y0 := YB.out.cell 0; have y1 := YB.out.cell 1; have y2 := YB.out.cell 2; have y3 := YB.out.cell 3; have y4 := YB.out.cell 4
          simp at x0 x1 x2 x3 x4 y0 y1 y2 y3 y4
          have fz : ∀ o, W4.frozen? ⟨w.heap.size, o, none⟩ = false := fun o => YB.out.free o
          simp only [Option.isSome_none]
          go_wp2
          go_roundw
          case rel =>
            refine ⟨i + 1, by go_num, by omega, by rw [FN.out]; rfl, ?_, ?_⟩
            · rw [FN.out, JO.out]
              exact ((((YB.out.set_ 0 _).set_ 1 _).set_ 2 _).set_ 3 _).set_ 4 _
            · exact ((((K4.out.set (.inl rfl) _ _).set (.inl rfl) _ _).set (.inl rfl) _ _).set (.inl rfl) _ _).set (.inl rfl) _ _
          case measure => simp [intOf]; omega
        | some b =>
          have FN := Lib.hid (NX.out b hbi HP.out)
          have BL := Lib.hid (bestI_lt hbi)
          have ON := Lib.hid hbi
          rw [hbi] at R4
          have JB := Lib.hid (show jobO s (some b) = jobS s b 0 from rfl)
          have JQ := Lib.hid (show (jobS s b 0).part = b from rfl)
          rw [JB.out] at R4
          obtain ⟨J2, hJ2⟩ : ∃ J, jobS s b 0 = J := ⟨_, rfl⟩
          rw [hJ2] at R4 JB JQ FN
          clear hJ2 hbi FX NX IX
          obtain ⟨p2, n2, r2, d2, f2⟩ := J2
          have YB := Lib.hid (show Blk W4 39 w.heap.size #[.int .i64 p2, .int .i64 n2, .int .i64 r2, .int .i64 d2, .int .i64 f2] from R4.out)
          have x0 := XB.out.cell 0; have x1 := XB.out.cell 1; have x2 := XB.out.cell 2; have x3 := XB.out.cell 3; have x4 := XB.out.cell 4
          have y0 := YB.out.cell 0; have y1 := YB.out.cell 1; have y2 := YB.out.cell 2; have y3 := YB.out.cell 3; have y4 := YB.out.cell 4
          simp at x0 x1 x2 x3 x4 y0 y1 y2 y3 y4
          simp only [Option.isSome_some]
          go_wp2_with fail
          refine (sorder_any ⟨p1, n1, r1, d1, f1⟩ ⟨p2, n2, r2, d2, f2⟩ _ _ rfl).mono ?_
          rintro e W5 ⟨rfl, hg5⟩
          have XB := Lib.hid (XB.out.below hg5.below)
          have YB := Lib.hid (YB.out.below hg5.below)
          have K5 := Lib.hid (K4.out.next hg5.below)
          clear hg5 x0 x1 x2 x3 x4 y0 y1 y2 y3 y4 hW4
          have x0 := XB.out.cell 0; have x1 := XB.out.cell 1; have x2 := XB.out.cell 2; have x3 := XB.out.cell 3; have x4 := XB.out.cell 4
          have y0 := YB.out.cell 0; have y1 := YB.out.cell 1; have y2 := YB.out.cell 2; have y3 := YB.out.cell 3; have y4 := YB.out.cell 4
          simp at x0 x1 x2 x3 x4 y0 y1 y2 y3 y4
          have fz : ∀ o, W5.frozen? ⟨w.heap.size, o, none⟩ = false := fun o => YB.out.free o
          have CP := Lib.hid (cf_pos (x := ⟨p1, n1, r1, d1, f1⟩) (y := ⟨p2, n2, r2, d2, f2⟩) (by have h1 := JP.out; have h2 := JQ.out; have h3 := BL.out; simp at h1 h2 ⊢; omega))
          obtain ⟨cv, hcv⟩ : ∃ cv, cfJ ⟨p1, n1, r1, d1, f1⟩ ⟨p2, n2, r2, d2, f2⟩ = cv := ⟨_, rfl⟩
          rw [hcv] at CP ⊢
          clear hcv
          by_cases hd : d1 < d2
          · have t1 : decide (0 < cv) = false := by have h1 := CP.out; simp [hd] at h1; simp; omega
            have FS := Lib.hid (show bestI s t (i + 1) = some i by rw [FN.out, if_pos hd])
            clear hd
            go_wp2
            go_roundw
            case rel =>
              refine ⟨i + 1, by go_num, by omega, by rw [FS.out]; rfl, ?_, ?_⟩
              · rw [FS.out, JO.out]
                exact ((((YB.out.set_ 0 _).set_ 1 _).set_ 2 _).set_ 3 _).set_ 4 _
              · exact ((((K5.out.set (.inl rfl) _ _).set (.inl rfl) _ _).set (.inl rfl) _ _).set (.inl rfl) _ _).set (.inl rfl) _ _
            case measure => simp [intOf]; omega
          · have t1 : decide (0 < cv) = true := by have h1 := CP.out; simp [hd] at h1; simp; omega
            have FS := Lib.hid (show bestI s t (i + 1) = some b by rw [FN.out, if_neg hd])
            clear hd
            go_wp2
            go_roundw
            case rel => exact ⟨i + 1, by go_num, by omega, by rw [FS.out]; rfl, by rw [FS.out, JB.out]; exact YB.out, K5.out⟩
            case measure => simp [intOf]; omega
    · have b1 : decide (i < n) = false := by simp; omega
      have b2 : decide ((i : Int) < (n : Int)) = false := by simp; omega
      have EN := Lib.hid (show bestI s t i = bestS s t by rw [← bestI_n, HN.out]; congr 1; omega)
      rw [EN.out] at R ⊢
      have RJ := Lib.hid (show Blk wr 39 w.heap.size J.arr by rw [← HJ.out]; exact R.out)
      obtain ⟨p1, n1, r1, d1, f1⟩ := J
      have YB := Lib.hid (show Blk wr 39 w.heap.size #[.int .i64 p1, .int .i64 n1, .int .i64 r1, .int .i64 d1, .int .i64 f1] from RJ.out)
      have y0 := YB.out.cell 0; have y1 := YB.out.cell 1; have y2 := YB.out.cell 2; have y3 := YB.out.cell 3; have y4 := YB.out.cell 4
      simp at y0 y1 y2 y3 y4
      have fz : ∀ o, wr.frozen? ⟨w.heap.size, o, none⟩ = false := fun o => YB.out.free o
      rw [HB.out]
      go_wp2
      obtain ⟨W7, hW7⟩ : ∃ W7, ((((wr.setCell ⟨w.heap.size, 0, none⟩ (.int .i64 p1)).setCell ⟨w.heap.size, 1, none⟩ (.int .i64 n1)).setCell ⟨w.heap.size, 2, none⟩ (.int .i64 r1)).setCell ⟨w.heap.size, 3, none⟩ (.int .i64 d1)).setCell ⟨w.heap.size, 4, none⟩ (.int .i64 f1) = W7 := ⟨_, rfl⟩
      have Z7 : Blk W7 39 w.heap.size #[.int .i64 p1, .int .i64 n1, .int .i64 r1, .int .i64 d1, .int .i64 f1] := by rw [← hW7]; exact ((((YB.out.set_ 0 _).set_ 1 _).set_ 2 _).set_ 3 _).set_ 4 _
      have B7 : Below w.heap.size w W7 := by rw [← hW7]; exact ((((BR.out.setCell (Nat.le_refl _) _).setCell (Nat.le_refl _) _).setCell (Nat.le_refl _) _).setCell (Nat.le_refl _) _).setCell (Nat.le_refl _) _
      rw [hW7]
      have v0 := Z7.cell 0; have v1 := Z7.cell 1; have v2 := Z7.cell 2; have v3 := Z7.cell 3; have v4 := Z7.cell 4
      simp at v0 v1 v2 v3 v4
      try rw [Exit.noGoto_ret]
      exact bodyPost_ret (v := .tuple #[.agg #[.int .i64 p1, .int .i64 n1, .int .i64 r1, .int .i64 d1, .int .i64 f1], .bool b]) (by simp [results, Try.results39, go_sem, v0, v1, v2, v3, v4]) rfl ⟨rfl, B7⟩
end Go.Proofs.Ytnlgophgglgneaa
