/-
  The document's own supertask: slot, released, job: contracts.
  The document's own supertask: Grant: contract.
-/
import Derived.Test.YtnlgophgglgneaaSrA
import Derived.Deep.RegionHeld3
import Derived.Test.YtnlgophgglgneaaSzB
import Derived.BigRegion
namespace Go.Proofs.Ytnlgophgglgneaa
open Go.RowKit

section
variable {w : World} {r : Nat} {a : Option Addr} {len cap : Nat} {s : SS}
theorem r14slot_any (h : RAt w r a len cap s) (t : Int) (b : Bool) (hb : mayS s t = b) : Calls Try.prog 41 #[.pointer (some ⟨r, 0, none⟩), .int .i64 t] w fun e w' => e = .returned (.bool b) ∧ w = w' := by
  subst hb
  have c2 := h.box.cell 2
  simp [rboxS] at c2
  obtain ⟨l, hl⟩ : ∃ l, s.last = l := ⟨_, rfl⟩
  have M := Lib.hid (show mayS s t = (decide (l ≤ t) && decide (t ≤ 1099511627776)) by unfold mayS; rw [hl])
  rw [hl] at c2
  clear h hl
  by_cases h1 : l ≤ t
  · have b1 : decide (l ≤ t) = true := by simp; omega
    by_cases h2 : t ≤ 1099511627776
    · have b2 : decide (t ≤ 1099511627776) = true := by simp; omega
      go_enter Try.func41, Try.ntmps41
      go_wp2
      go_ret
      exact ⟨by rw [M.out, b1, b2]; rfl, rfl⟩
    · have b2 : decide (t ≤ 1099511627776) = false := by simp; omega
      go_enter Try.func41, Try.ntmps41
      go_wp2
      go_ret
      exact ⟨by rw [M.out, b1, b2]; rfl, rfl⟩
  · have b1 : decide (l ≤ t) = false := by simp; omega
    go_enter Try.func41, Try.ntmps41
    go_wp2
    go_ret
    exact ⟨by rw [M.out, b1]; rfl, rfl⟩
theorem RAt.part (h : RAt w r a len cap s) {i : Nat} (hi : i < s.n) : ∃ b off, a = some ⟨b, off, none⟩ ∧ w.cell? ⟨b, off + i * 2, none⟩ = some (.int .i64 (s.E i)) ∧ w.cell? ⟨b, off + i * 2 + 1, none⟩ = some (.int .i64 (s.P i)) := h.parts.cell (by rw [← h.len]; exact hi)
theorem r14released_any (h : RAt w r a len cap s) (i : Nat) (hi : i < s.n) (t : Int) (t0 : s.A ≤ t) (t1 : t ≤ 1099511627776) (v : Int) (hv : (t - s.A) / s.P i + 1 = v) : Calls Try.prog 42 #[.pointer (some ⟨r, 0, none⟩), .int .i64 i, .int .i64 t] w fun e w' => e = .returned (.int .i64 v) ∧ ∃ n, w' = w.drewN n := by
  subst hv
  have c0 := h.box.cell 0
  have c1 := h.box.cell 1
  simp [rboxS] at c0 c1
  obtain ⟨ba, oa, rfl, _, hy⟩ := h.part hi
  have hl := h.len
  have m := h.good.mb hi
  have a0 := h.good.a0
  obtain ⟨A, hA⟩ : ∃ A, s.A = A := ⟨_, rfl⟩
  obtain ⟨P, hP⟩ : ∃ P, s.P i = P := ⟨_, rfl⟩
  obtain ⟨E, hE⟩ : ∃ E, s.E i = E := ⟨_, rfl⟩
  rw [hA] at c1 a0 t0 ⊢
  rw [hP] at hy ⊢
  rw [hP, hE] at m
  obtain ⟨m1, m2, m3⟩ := m
  have i0 : 0 ≤ (i : Int) := by omega
  have i2 : (i : Int) < (len : Int) := by omega
  have q0 : 0 ≤ (t - A) / P := Int.ediv_nonneg (by omega) (by omega)
  have q1 := Int.ediv_le_self P (show 0 ≤ t - A by omega)
  have q2 : (t - A).tdiv P = (t - A) / P := Int.tdiv_eq_ediv_of_nonneg (by omega)
  have q3 : ¬ P = 0 := by omega
  obtain ⟨T, hT⟩ : ∃ T, (t - A) / P = T := ⟨_, rfl⟩
  rw [hT] at q0 q1 q2 ⊢
  have w1 : IntKind.i64.wrap (t - A) = t - A := IntWalk.i64_in _ (by omega)
  have w2 : IntKind.i64.wrap T = T := IntWalk.i64_in _ (by omega)
  have w3 : IntKind.i64.wrap (T + 1) = T + 1 := IntWalk.i64_in _ (by omega)
  clear h hl hA hP hE hT
  go_enter Try.func42, Try.ntmps42
  go_upto_region 1 with fail
  go_quiet (fail)
  all_goals
    clear w1 w2 w3 q2
    go_wp2
    go_ret
    exact ⟨rfl, _, rfl⟩
end
set_option maxRecDepth 20000 in
set_option maxHeartbeats 4000000 in
theorem r14job_any (r : Nat) (a : Option Addr) (len cap : Nat) (s : SS) (i k : Nat) (w : World) (h : RAt w r a len cap s) (hi : i < s.n) (hk : k ≤ 1000) (hs : s.served ≤ 1000000) (N : Int) (hN : ixS s i + k = N) (J : Jb) (hJ : jobS s i k = J) :
    Calls Try.prog 43 #[.pointer (some ⟨r, 0, none⟩), .int .i64 i, .int .i64 N] w fun e w' => e = .returned J.v ∧ Below w.heap.size w w' := by
  obtain ⟨f1, f2, f3, f4, f5, f6⟩ := job_fit h.good hs hi hk
  have ⟨x1, x2, x3, x4⟩ := ix_bd h.good hi
  have x5 := h.good.d1 i
  have x6 := (h.good.mb hi).2.1
  have x0 := h.good.d0 i
  have a0 := h.good.a0; have a1 := h.good.al; have a2 := h.good.l1
  have i8 : i < 8 := Nat.lt_of_lt_of_le hi h.good.may.few
  have JV := Lib.hid (show J = ⟨i, ixS s i + k, s.A + (ixS s i + k) * s.P i, s.A + (ixS s i + k) * s.P i + s.P i, if k = 0 then lfS s i else s.E i⟩ from hJ.symm)
  have LF := Lib.hid (show lfS s i = (ixS s i + 1) * s.E i - s.D i from rfl)
  have hl := h.len
  have DC := Lib.hid (rbox_done (s := s) (a := a) (len := len) (cap := cap) i8)
  have RL := Lib.hid h.box.lt
  obtain ⟨W1, hW1⟩ : ∃ W1, w.alloc (.cells #[.int .i64 0, .int .i64 0, .int .i64 0, .int .i64 0, .int .i64 0] 39) = W1 := ⟨_, rfl⟩
  have B1 := Lib.hid (show Below w.heap.size w W1 by rw [← hW1]; exact wbox _ _)
  have R1 := Lib.hid (show Blk W1 39 w.heap.size #[.int .i64 0, .int .i64 0, .int .i64 0, .int .i64 0, .int .i64 0] by rw [← hW1]; exact Blk.new w _ _)
  have H1 := Lib.hid (h.below B1.out)
  obtain ⟨ba, oa, rfl, hx, hy⟩ := H1.out.part hi
  obtain ⟨n, hn⟩ : ∃ n, s.n = n := ⟨_, rfl⟩
  obtain ⟨E, hE⟩ : ∃ E, s.E i = E := ⟨_, rfl⟩
  obtain ⟨P, hP⟩ : ∃ P, s.P i = P := ⟨_, rfl⟩
  obtain ⟨X, hX⟩ : ∃ X, ixS s i = X := ⟨_, rfl⟩
  obtain ⟨L, hL⟩ : ∃ L, lfS s i = L := ⟨_, rfl⟩
  obtain ⟨A, hA⟩ : ∃ A, s.A = A := ⟨_, rfl⟩
  obtain ⟨D, hD⟩ : ∃ D, s.D i = D := ⟨_, rfl⟩
  rw [hE] at JV x4 x6 hx LF
  rw [hP] at JV x6 hy
  rw [hX] at JV x1 x2 hN LF
  rw [hL] at JV x3 x4 LF
  rw [hA] at JV a0 a1
  rw [hD] at x0 x2 x5 LF DC
  rw [hX, hP] at f3 f4
  rw [hX] at f1 f2
  rw [hP] at f5 f6
  rw [hN] at JV f1 f2 f3 f4
  have i0 : 0 ≤ (i : Int) := by omega
  have i2 : (i : Int) < (len : Int) := by omega
  have i3 : (i : Int) < 8 := by omega
  have c0 := H1.out.box.cell 0
  simp [rboxS] at c0
  go_enter Try.func43, Try.ntmps43
  go_upto_region 2 with fail
  obtain ⟨b7, hb7⟩ : ∃ b, W1.heap.size = b := ⟨_, rfl⟩
  have Z7 := Lib.hid (show b7 = w.heap.size + 1 by rw [← hb7, ← hW1]; simp)
  obtain ⟨W2, hW2⟩ : ∃ W2, W1.alloc (.cells #[.int .i64 E, .int .i64 P] 62) = W2 := ⟨_, rfl⟩
  have B2 := Lib.hid (show Below w.heap.size w W2 by rw [← hW2]; exact below_next B1.out (wbox _ _))
  have R2 := Lib.hid (show Blk W2 39 w.heap.size #[.int .i64 0, .int .i64 0, .int .i64 0, .int .i64 0, .int .i64 0] by rw [← hW2]; exact R1.out.alloc _)
  have C2 := Lib.hid (show Blk W2 62 b7 #[.int .i64 E, .int .i64 P] by rw [← hW2, ← hb7]; exact Blk.new _ _ _)
  have H2 := Lib.hid (show RAt W2 r (some ⟨ba, oa, none⟩) len cap s by rw [← hW2]; exact H1.out.below (wbox _ _))
  have Z2 := Lib.hid (show W2.heap.size = w.heap.size + 2 by have := Z7.out; rw [← hW2]; simp; omega)
  have rl := RL.out
  rw [hW2, hb7]
  clear hW2 hb7 hW1 c0 hx hy B1 R1 H1 h
  obtain ⟨M, hM⟩ : ∃ M, N * P = M := ⟨_, rfl⟩
  rw [hM] at JV f3 f4
  have e2 : (N + 1) * P = M + P := by rw [Int.add_mul, Int.one_mul, hM]
  have w1 : IntKind.i64.wrap (N * P) = M := by rw [hM]; exact IntWalk.i64_in _ (by omega)
  have w2 : IntKind.i64.wrap (A + M) = A + M := IntWalk.i64_in _ (by omega)
  have w3 : IntKind.i64.wrap (N + 1) = N + 1 := IntWalk.i64_in _ (by omega)
  have w4 : IntKind.i64.wrap ((N + 1) * P) = M + P := by rw [e2]; exact IntWalk.i64_in _ (by omega)
  have w5 : IntKind.i64.wrap (A + (M + P)) = A + (M + P) := IntWalk.i64_in _ (by omega)
  have SA := Lib.hid (show W2.drew.cell? ⟨r, 1, none⟩ = some (.int .i64 A) ∧ W2.drew.cell? ⟨b7, 1, none⟩ = some (.int .i64 P) from ⟨by have := H2.out.box.drew.cell 1; rw [this]; simp [rboxS, hA], C2.out.drew.cell 1⟩)
  have HN := Lib.hid hN
  clear hn hE hP hX hL hA hD hN hM e2 hJ
  have SB := Lib.hid (show ∀ o, (W2.alloc o).cell? ⟨r, 1, none⟩ = some (.int .i64 A) ∧ (W2.alloc o).cell? ⟨b7, 1, none⟩ = some (.int .i64 P) from fun o => ⟨((wbox W2 o).cell (p := ⟨r, 1, none⟩) (by show r < _; have := Z2.out; simp; omega)).trans SA.out.1, ((wbox W2 o).cell (p := ⟨b7, 1, none⟩) (by show b7 < _; have := Z2.out; have := Z7.out; simp; omega)).trans SA.out.2⟩)
  go_region_held3 (fun W => W.cell? ⟨r, 1, none⟩ = some (.int .i64 A) ∧ W.cell? ⟨b7, 1, none⟩ = some (.int .i64 P))
    (first | exact SA.out | exact SB.out _ | go_keep)
    (fail)
  all_goals
    go_upto_region 3 with fail
    obtain ⟨b8, hb8⟩ : ∃ b, W2.heap.size = b := ⟨_, rfl⟩
    obtain ⟨W3, hW3⟩ : ∃ W3, (W2.alloc (.cells #[.int .i64 i, .int .i64 N, .int .i64 (A + M), .int .i64 (A + (M + P)), .int .i64 0] 39)).drew = W3 := ⟨_, rfl⟩
    have BX := Lib.hid (show Below W2.heap.size W2 W3 by rw [← hW3]; exact (wbox _ _).drew)
    have B3 := Lib.hid (below_next B2.out BX.out)
    have R3 := Lib.hid (R2.out.below BX.out)
    have C3 := Lib.hid (C2.out.below BX.out)
    have H3 := Lib.hid (H2.out.below BX.out)
    have K3 := Lib.hid (show Blk W3 39 b8 #[.int .i64 i, .int .i64 N, .int .i64 (A + M), .int .i64 (A + (M + P)), .int .i64 0] by rw [← hW3, ← hb8]; exact (Blk.new _ _ _).drew)
    have z8 : w.heap.size < b8 ∧ b7 < b8 := by have := Z2.out; have := Z7.out; omega
    obtain ⟨z81, z82⟩ := z8
    rw [hW3, hb8]
    clear hW3 hb8 B2 R2 C2 H2 SA SB w1 w2 w3 w4 w5 BX Z2
    have e0 : 0 ≤ E := by omega
    have n0 : 0 ≤ N * E := Int.mul_nonneg (by omega) e0
    have n1 : N * E ≤ 1001000 * E := Int.mul_le_mul_of_nonneg_right (by omega) e0
    have JE := Lib.hid (show (k = 0 → N = X) ∧ (k ≠ 0 → (X + 1) * E ≤ N * E) from ⟨fun q => by subst q; have := HN.out; simpa using this.symm, fun q => Int.mul_le_mul_of_nonneg_right (by have := HN.out; omega) e0⟩)
    have LX := Lib.hid (show (X + 1) * E = X * E + E by rw [Int.add_mul, Int.one_mul])
    obtain ⟨NE, hNE⟩ : ∃ q, N * E = q := ⟨_, rfl⟩
    rw [hNE] at n0 n1 JE
    have HNE := Lib.hid hNE
    have v1 : IntKind.i64.wrap (N * E) = NE := by rw [hNE]; exact IntWalk.i64_in _ (by omega)
    have v2 : IntKind.i64.wrap (D - NE) = D - NE := IntWalk.i64_in _ (by omega)
    have dc : W3.cell? ⟨r, 3 + i, none⟩ = some (.int .i64 D) := by rw [H3.out.box.cell]; exact DC.out
    have c70 := C3.out.cell 0
    simp at c70
    clear hNE
    go_quiet (fail)
    all_goals
      clear v1 v2 dc
      have fk : ∀ o, (W3.drewN nq).frozen? ⟨b8, o, none⟩ = false := fun o => K3.out.free o
      by_cases hk0 : k = 0
      · have q1 : N = X := JE.out.1 hk0
        have q2 : D - NE = E - L := by have h1 := LF.out; have h2 := HNE.out; rw [LX.out] at h1; rw [← q1, h2] at h1; omega
        have t1 : decide (D - NE < 0) = false := by simp; omega
        have JF := Lib.hid (show J = ⟨i, N, A + M, A + (M + P), L⟩ by rw [JV.out, if_pos hk0]; congr 1; omega)
        have w6 : IntKind.i64.wrap (E - (D - NE)) = L := by rw [q2]; exact (IntWalk.i64_in _ (by omega)).trans (by omega)
        have lq : E - (D - NE) = L := by omega
        have LQ := Lib.hid lq
        clear q1 q2 hk0 lq
        have k4 := K3.out.cell 4
        simp at k4
        obtain ⟨W4, hW4⟩ : ∃ W4, (W3.drewN nq).setCell ⟨b8, 4, none⟩ (.int .i64 L) = W4 := ⟨_, rfl⟩
        have B4 := Lib.hid (show Below w.heap.size w W4 by rw [← hW4]; exact (below_drews B3.out nq).setCell (by simp; omega) _)
        have R4 := Lib.hid (show Blk W4 39 w.heap.size #[.int .i64 0, .int .i64 0, .int .i64 0, .int .i64 0, .int .i64 0] by rw [← hW4]; exact Blk.far (w := W3.drewN nq) R3.out (by simp; omega) _)
        have K4 := Lib.hid (show Blk W4 39 b8 #[.int .i64 i, .int .i64 N, .int .i64 (A + M), .int .i64 (A + (M + P)), .int .i64 L] by rw [← hW4]; exact Blk.set_ (w := W3.drewN nq) K3.out 4 _)
        have u0 := K4.out.cell 0; have u1 := K4.out.cell 1; have u2 := K4.out.cell 2; have u3 := K4.out.cell 3; have u4 := K4.out.cell 4
        have y0 := R4.out.cell 0; have y1 := R4.out.cell 1; have y2 := R4.out.cell 2; have y3 := R4.out.cell 3; have y4 := R4.out.cell 4
        simp at u0 u1 u2 u3 u4 y0 y1 y2 y3 y4
        have fr : ∀ o, W4.frozen? ⟨w.heap.size, o, none⟩ = false := fun o => R4.out.free o
        go_wp2
        clear hW4
        obtain ⟨W8, hW8⟩ : ∃ W8, ((((W4.setCell ⟨w.heap.size, 0, none⟩ (.int .i64 i)).setCell ⟨w.heap.size, 1, none⟩ (.int .i64 N)).setCell ⟨w.heap.size, 2, none⟩ (.int .i64 (A + M))).setCell ⟨w.heap.size, 3, none⟩ (.int .i64 (A + (M + P)))).setCell ⟨w.heap.size, 4, none⟩ (.int .i64 L) = W8 := ⟨_, rfl⟩
        have Z8 : Blk W8 39 w.heap.size #[.int .i64 i, .int .i64 N, .int .i64 (A + M), .int .i64 (A + (M + P)), .int .i64 L] := by rw [← hW8]; exact ((((R4.out.set_ 0 _).set_ 1 _).set_ 2 _).set_ 3 _).set_ 4 _
        have B8 : Below w.heap.size w W8 := by rw [← hW8]; exact ((((B4.out.setCell (Nat.le_refl _) _).setCell (Nat.le_refl _) _).setCell (Nat.le_refl _) _).setCell (Nat.le_refl _) _).setCell (Nat.le_refl _) _
        rw [hW8]
        have v0 := Z8.cell 0; have v1 := Z8.cell 1; have v2 := Z8.cell 2; have v3 := Z8.cell 3; have v4 := Z8.cell 4
        simp at v0 v1 v2 v3 v4
        refine bodyPost_ret (v := .agg #[.int .i64 i, .int .i64 N, .int .i64 (A + M), .int .i64 (A + (M + P)), .int .i64 L]) (by simp [results, Try.results43, go_sem, v0, v1, v2, v3, v4]) rfl ⟨?_, B8⟩
        rw [JF.out]; rfl
      · have q1 := JE.out.2 hk0
        have q2 : D < X * E + E := by have h1 := LF.out; rw [LX.out] at h1; omega
        rw [LX.out] at q1
        have t1 : decide (D - NE < 0) = true := by simp; omega
        have JF := Lib.hid (show J = ⟨i, N, A + M, A + (M + P), E⟩ by rw [JV.out, if_neg hk0]; congr 1; omega)
        have lq : E - 0 = E := by omega
        have LQ := Lib.hid lq
        clear q1 q2 hk0 lq
        have k4 := K3.out.cell 4
        simp at k4
        obtain ⟨W4, hW4⟩ : ∃ W4, (W3.drewN nq).setCell ⟨b8, 4, none⟩ (.int .i64 E) = W4 := ⟨_, rfl⟩
        have B4 := Lib.hid (show Below w.heap.size w W4 by rw [← hW4]; exact (below_drews B3.out nq).setCell (by simp; omega) _)
        have R4 := Lib.hid (show Blk W4 39 w.heap.size #[.int .i64 0, .int .i64 0, .int .i64 0, .int .i64 0, .int .i64 0] by rw [← hW4]; exact Blk.far (w := W3.drewN nq) R3.out (by simp; omega) _)
        have K4 := Lib.hid (show Blk W4 39 b8 #[.int .i64 i, .int .i64 N, .int .i64 (A + M), .int .i64 (A + (M + P)), .int .i64 E] by rw [← hW4]; exact Blk.set_ (w := W3.drewN nq) K3.out 4 _)
        have u0 := K4.out.cell 0; have u1 := K4.out.cell 1; have u2 := K4.out.cell 2; have u3 := K4.out.cell 3; have u4 := K4.out.cell 4
        have y0 := R4.out.cell 0; have y1 := R4.out.cell 1; have y2 := R4.out.cell 2; have y3 := R4.out.cell 3; have y4 := R4.out.cell 4
        simp at u0 u1 u2 u3 u4 y0 y1 y2 y3 y4
        have fr : ∀ o, W4.frozen? ⟨w.heap.size, o, none⟩ = false := fun o => R4.out.free o
        go_wp2
        clear hW4
        obtain ⟨W8, hW8⟩ : ∃ W8, ((((W4.setCell ⟨w.heap.size, 0, none⟩ (.int .i64 i)).setCell ⟨w.heap.size, 1, none⟩ (.int .i64 N)).setCell ⟨w.heap.size, 2, none⟩ (.int .i64 (A + M))).setCell ⟨w.heap.size, 3, none⟩ (.int .i64 (A + (M + P)))).setCell ⟨w.heap.size, 4, none⟩ (.int .i64 E) = W8 := ⟨_, rfl⟩
        have Z8 : Blk W8 39 w.heap.size #[.int .i64 i, .int .i64 N, .int .i64 (A + M), .int .i64 (A + (M + P)), .int .i64 E] := by rw [← hW8]; exact ((((R4.out.set_ 0 _).set_ 1 _).set_ 2 _).set_ 3 _).set_ 4 _
        have B8 : Below w.heap.size w W8 := by rw [← hW8]; exact ((((B4.out.setCell (Nat.le_refl _) _).setCell (Nat.le_refl _) _).setCell (Nat.le_refl _) _).setCell (Nat.le_refl _) _).setCell (Nat.le_refl _) _
        rw [hW8]
        have v0 := Z8.cell 0; have v1 := Z8.cell 1; have v2 := Z8.cell 2; have v3 := Z8.cell 3; have v4 := Z8.cell 4
        simp at v0 v1 v2 v3 v4
        refine bodyPost_ret (v := .agg #[.int .i64 i, .int .i64 N, .int .i64 (A + M), .int .i64 (A + (M + P)), .int .i64 E]) (by simp [results, Try.results43, go_sem, v0, v1, v2, v3, v4]) rfl ⟨?_, B8⟩
        rw [JF.out]; rfl
end Go.Proofs.Ytnlgophgglgneaa
namespace Go.Proofs.Ytnlgophgglgneaa
open Go.RowKit

theorem goodu_last {s : SS} {t : Int} (h : GoodU s) (m : mayS s t = true) : GoodU { s with last := t } := by
  have ⟨m1, m2⟩ := may_is.mp m
  exact ⟨h.may, h.d0, h.d1, h.a0, Int.le_trans h.al m1, m2, h.i0⟩
def jbN : Jb := ⟨-1, 0, 0, 0, 0⟩
/-- the best one so far, of the document's own -/
def jobB (s : SS) : Option Nat → Jb | none => jbN | some b => jobS s b 0
set_option maxRecDepth 20000 in
set_option maxHeartbeats 4000000 in
theorem r14grant_no (r : Nat) (a : Option Addr) (len cap : Nat) (s : SS) (t : Int) (w : World) (h : RAt w r a len cap s) (m : mayS s t = false) :
    Calls Try.prog 17 #[.pointer (some ⟨r, 0, none⟩), .int .i64 t] w fun e w' => e = .returned (.tuple #[.agg #[.int .i64 0, .int .i64 0, .int .i64 0, .int .i64 0, .int .i64 0], .bool false]) ∧ Below w.heap.size w w' := by
  obtain ⟨W1, hW1⟩ : ∃ W1, w.alloc (.cells #[.int .i64 0, .int .i64 0, .int .i64 0, .int .i64 0, .int .i64 0] 39) = W1 := ⟨_, rfl⟩
  have B1 := Lib.hid (show Below w.heap.size w W1 by rw [← hW1]; exact wbox _ _)
  have R1 := Lib.hid (show Blk W1 39 w.heap.size #[.int .i64 0, .int .i64 0, .int .i64 0, .int .i64 0, .int .i64 0] by rw [← hW1]; exact Blk.new w _ _)
  have S1 := Lib.hid (h.below B1.out)
  have M := Lib.hid m
  clear h m
  go_enter Try.func17, Try.ntmps17
  go_wp2_with fail
  clear hW1
  refine (r14slot_any S1.out t false M.out).mono ?_
  rintro e w1 ⟨rfl, rfl⟩
  have x0 := R1.out.cell 0; have x1 := R1.out.cell 1; have x2 := R1.out.cell 2; have x3 := R1.out.cell 3; have x4 := R1.out.cell 4
  simp at x0 x1 x2 x3 x4
  have fz : ∀ o, W1.frozen? ⟨w.heap.size, o, none⟩ = false := fun o => R1.out.free o
  go_wp2
  obtain ⟨W7, hW7⟩ : ∃ W7, ((((W1.setCell ⟨w.heap.size, 0, none⟩ (.int .i64 0)).setCell ⟨w.heap.size, 1, none⟩ (.int .i64 0)).setCell ⟨w.heap.size, 2, none⟩ (.int .i64 0)).setCell ⟨w.heap.size, 3, none⟩ (.int .i64 0)).setCell ⟨w.heap.size, 4, none⟩ (.int .i64 0) = W7 := ⟨_, rfl⟩
  have Z7 : Blk W7 39 w.heap.size #[.int .i64 0, .int .i64 0, .int .i64 0, .int .i64 0, .int .i64 0] := by rw [← hW7]; exact ((((R1.out.set_ 0 _).set_ 1 _).set_ 2 _).set_ 3 _).set_ 4 _
  have B7 : Below w.heap.size w W7 := by rw [← hW7]; exact ((((B1.out.setCell (Nat.le_refl _) _).setCell (Nat.le_refl _) _).setCell (Nat.le_refl _) _).setCell (Nat.le_refl _) _).setCell (Nat.le_refl _) _
  rw [hW7]
  have v0 := Z7.cell 0; have v1 := Z7.cell 1; have v2 := Z7.cell 2; have v3 := Z7.cell 3; have v4 := Z7.cell 4
  simp at v0 v1 v2 v3 v4
  exact bodyPost_ret (v := .tuple #[.agg #[.int .i64 0, .int .i64 0, .int .i64 0, .int .i64 0, .int .i64 0], .bool false]) (by simp [results, Try.results17, go_sem, v0, v1, v2, v3, v4]) rfl ⟨rfl, B7⟩
set_option maxRecDepth 20000 in
set_option maxHeartbeats 4000000 in
theorem r14grant_yes (r : Nat) (a : Option Addr) (len cap : Nat) (s : SS) (t : Int) (w : World) (h : RAt w r a len cap s) (m : mayS s t = true) (hs : s.served < 1000000) (hi : s.idle < 1000000) :
    Calls Try.prog 17 #[.pointer (some ⟨r, 0, none⟩), .int .i64 t] w fun e w' => e = .returned (.tuple #[(grantJ s t).v, .bool (grantB s t)]) ∧ RAt w' r a len cap (grantS s t) ∧ Keeps (fun k => k = r) w w' := by
  obtain ⟨W1, hW1⟩ : ∃ W1, w.alloc (.cells #[.int .i64 0, .int .i64 0, .int .i64 0, .int .i64 0, .int .i64 0] 39) = W1 := ⟨_, rfl⟩
  have B1 := Lib.hid (show Below w.heap.size w W1 by rw [← hW1]; exact wbox _ _)
  have R1 := Lib.hid (show Blk W1 39 w.heap.size #[.int .i64 0, .int .i64 0, .int .i64 0, .int .i64 0, .int .i64 0] by rw [← hW1]; exact Blk.new w _ _)
  have S1 := Lib.hid (h.below B1.out)
  have rl := h.box.lt
  have M := Lib.hid m
  have GL := Lib.hid (goodu_last h.good m)
  have GG := Lib.hid (good_grant h.good t)
  have PW0 := Lib.hid h.parts
  have GD := Lib.hid h.good
  have s0 := h.good.s0; have i00 := h.good.i0
  have hl := Lib.hid h.len
  have l8 : len ≤ 8 := by have := h.good.may.few; have := h.len; unfold SS.n at this; omega
  have AL := Lib.hid (show ∀ ad : Addr, a = some ad → ad.block < w.heap.size from fun ad e => by
    have hn : 0 < len := by have := h.good.may.some_; have := h.len; unfold SS.n at this; omega
    obtain ⟨b, off, e', hc, _⟩ := h.parts.cell hn
    have := World.block_lt_of_cell? _ _ hc
    rw [e] at e'; cases e'; exact this)
  clear h m
  go_enter Try.func17, Try.ntmps17
  go_wp2_with fail
  clear hW1
  refine (r14slot_any S1.out t true M.out).mono ?_
  rintro e w1 ⟨rfl, rfl⟩
  have g2 := S1.out.box.cell 2
  simp [rboxS] at g2
  have fz : ∀ o, W1.frozen? ⟨r, o, none⟩ = false := fun o => S1.out.box.free o
  obtain ⟨W2, hW2⟩ : ∃ W2, W1.setCell ⟨r, 2, none⟩ (.int .i64 t) = W2 := ⟨_, rfl⟩
  obtain ⟨s1, hs1⟩ : ∃ s1 : SS, { s with last := t } = s1 := ⟨_, rfl⟩
  have S2 := Lib.hid (show RAt W2 r a len cap s1 by rw [← hW2, ← hs1]; exact S1.out.wrote 2 _ rfl rfl GL.out)
  have R2 := Lib.hid (show Blk W2 39 w.heap.size #[.int .i64 0, .int .i64 0, .int .i64 0, .int .i64 0, .int .i64 0] by rw [← hW2]; exact R1.out.far (by simp; omega) _)
  have K2 := Lib.hid (show Keeps (fun k => k = r) w W2 by rw [← hW2]; exact (Keeps.of (F := fun k => k = r) B1.out).set (.inl rfl) _ _)
  have E1 := Lib.hid (show (∀ i, bestI s1 t i = bestI s t i) ∧ (∀ o, jobB s1 o = jobB s o) ∧ s1.served = s.served ∧ s1.idle = s.idle ∧ s1.n = s.n ∧ s1.last = t ∧ s1.A = s.A by rw [← hs1]; exact ⟨fun _ => rfl, (fun o => by cases o <;> rfl), rfl, rfl, rfl, rfl, rfl⟩)
  have z7 := Lib.hid R2.out.lt
  go_wp2
  obtain ⟨W3, hW3⟩ : ∃ W3, W2.alloc (.cells #[.int .i64 (-1), .int .i64 0, .int .i64 0, .int .i64 0, .int .i64 0] 39) = W3 := ⟨_, rfl⟩
  have S3 := Lib.hid (show RAt W3 r a len cap s1 by rw [← hW3]; exact S2.out.below (wbox _ _))
  have R3 := Lib.hid (show Blk W3 39 w.heap.size #[.int .i64 0, .int .i64 0, .int .i64 0, .int .i64 0, .int .i64 0] by rw [← hW3]; exact R2.out.alloc _)
  have K3 := Lib.hid (show Keeps (fun k => k = r) w W3 by rw [← hW3]; exact K2.out.alloc _)
  have N3 := Lib.hid (show Blk W3 39 W2.heap.size (jobB s1 (bestI s1 t 0)).arr by rw [← hW3]; exact Blk.new _ _ _)
  rw [hW3]
  clear S2 R2 K2 S1 R1 B1
  obtain ⟨b7, hb7⟩ : ∃ b, W2.heap.size = b := ⟨_, rfl⟩
  rw [hb7] at N3 z7 ⊢
  have z7 := z7.out
  clear hW2 g2 fz hW3 hb7
  go_loopw [8] (fun v wr => ∃ i : Nat, v = .int .i64 i ∧ i ≤ len ∧ Blk wr 39 b7 (jobB s1 (bestI s1 t i)).arr ∧ Keeps (fun k => k = b7) W3 wr) (fun v _ => len - (intOf v).toNat)
  case atStart => exact ⟨0, rfl, by omega, N3.out, Keeps.refl _ _⟩
  case round =>
    obtain ⟨i, rfl, i1, hN, hK⟩ := hrel
    have NB := Lib.hid hN
    have K := Lib.hid hK
    have SR := Lib.hid (S3.out.keeps hK (by omega) (fun ad e => by have := AL.out ad e; omega))
    have RR := Lib.hid (R3.out.keeps hK (by omega))
    clear hN hK
    have c0 := SR.out.box.cell 0
    simp [rboxS] at c0
    by_cases go : i < len
    · have b1 : decide (i < len) = true := by simp; omega
      have b2 : decide ((i : Int) < (len : Int)) = true := by simp; omega
      have i0 : 0 ≤ (i : Int) := by omega
      have i2 : (i : Int) < (len : Int) := by omega
      have i3 : (i : Int) < 8 := by omega
      have hi := Lib.hid (show i < s1.n by rw [E1.out.2.2.2.2.1, hl.out]; exact go)
      have G1 := Lib.hid SR.out.good
      have PJ := Lib.hid (show PendN s1.E s1.P s1.D s1.A t i ↔ ixS s1 i < (t - s1.A) / s1.P i + 1 from Iff.rfl)
      have NX := Lib.hid (fun b (e : bestI s1 t i = some b) (hp : PendN s1.E s1.P s1.D s1.A t i) => bestI_next hp e)
      have FX := Lib.hid (fun (e : bestI s1 t i = none) (hp : PendN s1.E s1.P s1.D s1.A t i) => bestI_first hp e)
      have IX := Lib.hid (fun (hp : ¬ PendN s1.E s1.P s1.D s1.A t i) => bestI_idle hp)
      have m := G1.out.mb hi.out
      have ⟨x1, x2, x3, x4⟩ := ix_bd G1.out hi.out
      have DC := Lib.hid (show wr.cell? ⟨r, 3 + i, none⟩ = some (.int .i64 (s1.D i)) by rw [SR.out.box.cell]; exact rbox_done (by omega))
      have dc := DC.out
      obtain ⟨ba, oa, ea, hx, _⟩ := SR.out.part hi.out
      subst ea
      have RV := Lib.hid (fun W (h : RAt W r (some ⟨ba, oa, none⟩) len cap s1) => r14released_any h i hi.out t (by have h1 := may_is.mp M.out; have h2 := GD.out.al; have h3 := E1.out.2.2.2.2.2.2; rw [h3]; omega) (may_is.mp M.out).2)
      obtain ⟨E, hE⟩ : ∃ E, s1.E i = E := ⟨_, rfl⟩
      obtain ⟨D, hD⟩ : ∃ D, s1.D i = D := ⟨_, rfl⟩
      have IE := Lib.hid (show ixS s1 i = D / E by unfold ixS; rw [hE, hD])
      have d00 := G1.out.d0 i
      rw [hE] at hx x4
      rw [hD] at dc x2 d00
      have m1 : 1 ≤ E := by rw [← hE]; exact m.1
      have d1 : ¬ E = 0 := by omega
      have d2 : D.tdiv E = D / E := Int.tdiv_eq_ediv_of_nonneg (by omega)
      have d5 := G1.out.d1 i
      rw [hD] at d5
      have d6 : D < 1000000 := by have := E1.out.2.2.1; omega
      obtain ⟨X, hX⟩ : ∃ X, ixS s1 i = X := ⟨_, rfl⟩
      rw [hX] at PJ x1 x2
      rw [IE.out] at hX
      rw [hX] at d2
      have HX := Lib.hid (IE.out.trans hX)
      have w1 : IntKind.i64.wrap X = X := IntWalk.i64_in _ (by omega)
      clear hE hD hX m
      go_upto_region 9 with fail
      go_quiet (fail)
      all_goals
        clear w1 d2 dc c0 hx
        obtain ⟨RL, hRL⟩ : ∃ RL, (t - s1.A) / s1.P i + 1 = RL := ⟨_, rfl⟩
        have HRL := Lib.hid hRL
        rw [hRL] at PJ
        clear hRL
        have SRn := Lib.hid (SR.out.below (below_drews (Below.refl _ _) nq))
        go_wp2_with fail
        refine (RV.out _ SRn.out RL HRL.out).mono ?_
        rintro z w5 ⟨rfl, n2, rfl⟩
        have BD := Lib.hid (show Below wr.heap.size wr ((wr.drewN nq).drewN n2) from below_drews (below_drews (Below.refl _ _) nq) n2)
        obtain ⟨W5, hW5⟩ : ∃ W5, (wr.drewN nq).drewN n2 = W5 := ⟨_, rfl⟩
        rw [hW5] at BD ⊢
        have SR5 := Lib.hid (SR.out.below BD.out)
        have NB5 := Lib.hid (NB.out.below BD.out)
        have K5 := Lib.hid (K.out.next BD.out)
        clear hW5 SRn NB K RR SR BD DC
        by_cases hp : X < RL
        · have t1 : decide (RL ≤ X) = false := by simp; omega
          have HP := Lib.hid (PJ.out.mpr hp)
          clear hp
          have JP := Lib.hid (show (jobS s1 i 0).part = i from rfl)
          have JB1 := Lib.hid (show jobB s1 (some i) = jobS s1 i 0 from rfl)
          obtain ⟨J1, hJ1⟩ : ∃ J, jobS s1 i 0 = J := ⟨_, rfl⟩
          have HJ1 := Lib.hid hJ1
          rw [hJ1] at JP NX JB1
          clear hJ1
          go_wp2_with fail
          refine (r14job_any r (some ⟨ba, oa, none⟩) len cap s1 i 0 W5 SR5.out hi.out (by omega) (by have := E1.out.2.2.1; omega) X (by rw [HX.out]; simp) J1 HJ1.out).mono ?_
          rintro z W6 ⟨rfl, hb6⟩
          obtain ⟨p1, n1, r1, d1, f1⟩ := J1
          simp only [Jb.v]
          have z6 := Lib.hid (show b7 < W6.heap.size from Nat.lt_of_lt_of_le NB5.out.lt hb6.size)
          obtain ⟨W7, hW7⟩ : ∃ W7, W6.alloc (.cells #[.int .i64 p1, .int .i64 n1, .int .i64 r1, .int .i64 d1, .int .i64 f1] 39) = W7 := ⟨_, rfl⟩
          have XB := Lib.hid (show Blk W7 39 W6.heap.size #[.int .i64 p1, .int .i64 n1, .int .i64 r1, .int .i64 d1, .int .i64 f1] by rw [← hW7]; exact Blk.new _ _ _)
          have K7 := Lib.hid (show Keeps (fun k => k = b7) W3 W7 by rw [← hW7]; exact (K5.out.next hb6).alloc _)
          have R7 := Lib.hid (show Blk W7 39 b7 (jobB s1 (bestI s1 t i)).arr by rw [← hW7]; exact (NB5.out.below hb6).alloc _)
          clear hb6 SR5 NB5 K5
          cases hbi : bestI s1 t i with
          | none =>
            have FS := Lib.hid (FX.out hbi HP.out)
            rw [hbi] at R7
            have YB := Lib.hid (show Blk W7 39 b7 #[.int .i64 (-1), .int .i64 0, .int .i64 0, .int .i64 0, .int .i64 0] from R7.out)
            clear hbi FX NX IX
            have x0 := XB.out.cell 0; have x1 := XB.out.cell 1; have x2 := XB.out.cell 2; have x3 := XB.out.cell 3; have x4 := XB.out.cell 4
            have y0 := YB.out.cell 0; have y1 := YB.out.cell 1; have y2 := YB.out.cell 2; have y3 := YB.out.cell 3; have y4 := YB.out.cell 4
            simp at x0 x1 x2 x3 x4 y0 y1 y2 y3 y4
            have fz : ∀ o, W7.frozen? ⟨b7, o, none⟩ = false := fun o => YB.out.free o
            go_wp2
            go_roundw
            case rel =>
              refine ⟨i + 1, by go_num, by omega, ?_, ?_⟩
              · rw [FS.out, JB1.out]
                exact ((((YB.out.set_ 0 _).set_ 1 _).set_ 2 _).set_ 3 _).set_ 4 _
              · exact ((((K7.out.set (.inl rfl) _ _).set (.inl rfl) _ _).set (.inl rfl) _ _).set (.inl rfl) _ _).set (.inl rfl) _ _
            case measure => simp [intOf]; omega
          | some b =>
            have FN := Lib.hid (NX.out b hbi HP.out)
            have BL := Lib.hid (bestI_lt hbi)
            rw [hbi] at R7
            have JB := Lib.hid (show jobB s1 (some b) = jobS s1 b 0 from rfl)
            have JQ := Lib.hid (show (jobS s1 b 0).part = b from rfl)
            rw [JB.out] at R7
            obtain ⟨J2, hJ2⟩ : ∃ J, jobS s1 b 0 = J := ⟨_, rfl⟩
            rw [hJ2] at R7 JB JQ FN
            clear hJ2 hbi FX NX IX
            obtain ⟨p2, n2', r2, d2, f2⟩ := J2
            have YB := Lib.hid (show Blk W7 39 b7 #[.int .i64 p2, .int .i64 n2', .int .i64 r2, .int .i64 d2, .int .i64 f2] from R7.out)
            have t2 : decide (p2 < 0) = false := by have h1 : p2 = (b : Int) := JQ.out; simp; omega
            have x0 := XB.out.cell 0; have x1 := XB.out.cell 1; have x2 := XB.out.cell 2; have x3 := XB.out.cell 3; have x4 := XB.out.cell 4
            have y0 := YB.out.cell 0; have y1 := YB.out.cell 1; have y2 := YB.out.cell 2; have y3 := YB.out.cell 3; have y4 := YB.out.cell 4
            simp at x0 x1 x2 x3 x4 y0 y1 y2 y3 y4
            have fz : ∀ o, W7.frozen? ⟨b7, o, none⟩ = false := fun o => YB.out.free o
            by_cases hd : d1 < d2
            · have t3 : decide (d1 < d2) = true := by simp; omega
              have FS := Lib.hid (show bestI s1 t (i + 1) = some i by rw [FN.out, if_pos hd])
              clear hd
              go_wp2
              go_roundw
              case rel =>
                refine ⟨i + 1, by go_num, by omega, ?_, ?_⟩
                · rw [FS.out, JB1.out]
                  exact ((((YB.out.set_ 0 _).set_ 1 _).set_ 2 _).set_ 3 _).set_ 4 _
                · exact ((((K7.out.set (.inl rfl) _ _).set (.inl rfl) _ _).set (.inl rfl) _ _).set (.inl rfl) _ _).set (.inl rfl) _ _
              case measure => simp [intOf]; omega
            · have t3 : decide (d1 < d2) = false := by simp; omega
              have FS := Lib.hid (show bestI s1 t (i + 1) = some b by rw [FN.out, if_neg hd])
              clear hd
              go_wp2
              go_roundw
              case rel => exact ⟨i + 1, by go_num, by omega, by rw [FS.out, JB.out]; exact YB.out, K7.out⟩
              case measure => simp [intOf]; omega
        · have t1 : decide (RL ≤ X) = true := by simp; omega
          have NP := Lib.hid (IX.out (fun q => hp (PJ.out.mp q)))
          clear hp
          go_wp2
          go_roundw
          case rel => exact ⟨i + 1, by go_num, by omega, by rw [NP.out]; exact NB5.out, K5.out⟩
          case measure => simp [intOf]; omega
    · have b1 : decide (i < len) = false := by simp; omega
      have b2 : decide ((i : Int) < (len : Int)) = false := by simp; omega
      have EN := Lib.hid (show bestI s1 t i = bestS s t by
        have e : i = s.n := by rw [hl.out]; omega
        rw [E1.out.1, e]
        exact bestI_n s t)
      rw [EN.out] at NB
      have KW := Lib.hid (show Keeps (fun k => k = r) w wr from K3.out.trans K.out (fun x e => .inr (by omega)))
      cases hbo : bestS s t with
      | none =>
        have GN := Lib.hid (grant_none M.out hbo)
        rw [hbo] at NB
        have YB := Lib.hid (show Blk wr 39 b7 #[.int .i64 (-1), .int .i64 0, .int .i64 0, .int .i64 0, .int .i64 0] from NB.out)
        clear hbo NB
        have y0 := YB.out.cell 0
        simp at y0
        have g4 := SR.out.box.cell 12
        simp [rboxS] at g4
        rw [E1.out.2.2.2.1] at g4
        have fz : ∀ o, wr.frozen? ⟨r, o, none⟩ = false := fun o => SR.out.box.free o
        obtain ⟨W5, hW5⟩ : ∃ W5, wr.setCell ⟨r, 12, none⟩ (.int .i64 (s.idle + 1)) = W5 := ⟨_, rfl⟩
        have EG := Lib.hid (show (grantS s t).ps = s1.ps ∧ (rboxS s1 a len cap).setIfInBounds 12 (.int .i64 (s.idle + 1)) = rboxS (grantS s t) a len cap by rw [GN.out.2.2, ← hs1]; exact ⟨rfl, rfl⟩)
        have S5 := Lib.hid (show RAt W5 r a len cap (grantS s t) by rw [← hW5]; exact SR.out.wrote 12 _ EG.out.1 EG.out.2 GG.out)
        have R5 := Lib.hid (show Blk W5 39 w.heap.size #[.int .i64 0, .int .i64 0, .int .i64 0, .int .i64 0, .int .i64 0] by rw [← hW5]; exact RR.out.far (by simp; omega) _)
        have K5 := Lib.hid (show Keeps (fun k => k = r) w W5 by rw [← hW5]; exact KW.out.set (.inl rfl) _ _)
        have x0 := R5.out.cell 0; have x1 := R5.out.cell 1; have x2 := R5.out.cell 2; have x3 := R5.out.cell 3; have x4 := R5.out.cell 4
        simp at x0 x1 x2 x3 x4
        have fr : ∀ o, W5.frozen? ⟨w.heap.size, o, none⟩ = false := fun o => R5.out.free o
        clear hs1
        go_wp2
        clear hW5
        obtain ⟨W7, hW7⟩ : ∃ W7, ((((W5.setCell ⟨w.heap.size, 0, none⟩ (.int .i64 0)).setCell ⟨w.heap.size, 1, none⟩ (.int .i64 0)).setCell ⟨w.heap.size, 2, none⟩ (.int .i64 0)).setCell ⟨w.heap.size, 3, none⟩ (.int .i64 0)).setCell ⟨w.heap.size, 4, none⟩ (.int .i64 0) = W7 := ⟨_, rfl⟩
        have Z7 : Blk W7 39 w.heap.size #[.int .i64 0, .int .i64 0, .int .i64 0, .int .i64 0, .int .i64 0] := by rw [← hW7]; exact ((((R5.out.set_ 0 _).set_ 1 _).set_ 2 _).set_ 3 _).set_ 4 _
        have K7 : Keeps (fun k => k = w.heap.size) W5 W7 := by rw [← hW7]; exact (((((Keeps.refl (fun k => k = w.heap.size) W5).set (.inl rfl) _ _).set (.inl rfl) _ _).set (.inl rfl) _ _).set (.inl rfl) _ _).set (.inl rfl) _ _
        rw [hW7]
        have v0 := Z7.cell 0; have v1 := Z7.cell 1; have v2 := Z7.cell 2; have v3 := Z7.cell 3; have v4 := Z7.cell 4
        simp at v0 v1 v2 v3 v4
        refine bodyPost_ret (v := .tuple #[.agg #[.int .i64 0, .int .i64 0, .int .i64 0, .int .i64 0, .int .i64 0], .bool false]) (by simp [results, Try.results17, go_sem, v0, v1, v2, v3, v4]) rfl ⟨?_, S5.out.keeps K7 (by omega) (fun ad e => by have := AL.out ad e; omega), K5.out.trans K7 (fun x e => .inr (by omega))⟩
        rw [GN.out.1, GN.out.2.1]; rfl
      | some pb =>
        have GS := Lib.hid (grant_some M.out hbo)
        have PB := Lib.hid (show pb < s.n from bestI_lt (i := s.n) hbo)
        rw [hbo] at NB
        have JB := Lib.hid (show jobB s1 (some pb) = jobS s pb 0 by rw [E1.out.2.1]; rfl)
        rw [JB.out] at NB
        obtain ⟨J1, hJ1⟩ : ∃ J, jobS s pb 0 = J := ⟨_, rfl⟩
        have JJ := Lib.hid hJ1
        rw [hJ1] at NB
        have JP := Lib.hid (show J1.part = (pb : Int) by rw [← hJ1]; rfl)
        have JL := Lib.hid (show J1.left = lfS s pb by rw [← hJ1]; rfl)
        clear hJ1 JB
        obtain ⟨p1, n1, r1, d1, f1⟩ := J1
        obtain rfl : p1 = (pb : Int) := JP.out
        have LF := Lib.hid (ix_bd GD.out PB.out)
        have LE := Lib.hid (GD.out.mb PB.out)
        have p8 : pb < 8 := by have := PB.out; have := hl.out; omega
        have YB := Lib.hid (show Blk wr 39 b7 #[.int .i64 pb, .int .i64 n1, .int .i64 r1, .int .i64 d1, .int .i64 f1] from NB.out)
        clear hbo NB
        have y0 := YB.out.cell 0
        simp at y0
        have q0 : 0 ≤ (pb : Int) := by omega
        have q8 : (pb : Int) < 8 := by omega
        have t2 : decide ((pb : Int) < 0) = false := by simp
        have dd := GD.out.d0 pb
        have de := GD.out.d1 pb
        have dc : wr.cell? ⟨r, 3 + pb, none⟩ = some (.int .i64 (s.D pb)) := by
          have := rbox_done (s := s1) (a := a) (len := len) (cap := cap) p8
          rw [SR.out.box.cell, this, ← hs1]
        obtain ⟨D, hD⟩ : ∃ D, s.D pb = D := ⟨_, rfl⟩
        have HD := Lib.hid hD
        rw [hD] at dc dd de
        have w1 : IntKind.i64.wrap (D + 1) = D + 1 := IntWalk.i64_in _ (by omega)
        have fz : ∀ o, wr.frozen? ⟨r, o, none⟩ = false := fun o => SR.out.box.free o
        obtain ⟨s2, hs2⟩ : ∃ s2 : SS, { s1 with D := fun i => if i = pb then s1.D i + 1 else s1.D i } = s2 := ⟨_, rfl⟩
        have EB := Lib.hid (show (rboxS s1 a len cap).setIfInBounds (3 + pb) (.int .i64 (D + 1)) = rboxS s2 a len cap by
          have e : s2.D pb = D + 1 := by rw [← hs2, ← hs1, ← hD]; exact if_pos rfl
          rw [← e]
          exact rbox_set p8 (by rw [← hs2]) (by rw [← hs2]) (fun j hj => by rw [← hs2]; exact if_neg hj) (by rw [← hs2]) (by rw [← hs2]))
        have EC := Lib.hid (show (rboxS s2 a len cap).setIfInBounds 11 (.int .i64 (s.served + 1)) = rboxS (grantS s t) a len cap ∧ (grantS s t).ps = s1.ps ∧ (rboxS s2 a len cap)[11]? = some (.int .i64 s.served) by rw [GS.out.2.2, ← hs2, ← hs1]; exact ⟨rfl, rfl, rfl⟩)
        have PW := Lib.hid (show RowP w a len cap s1.ps by rw [← hs1]; exact PW0.out)
        clear hD hs2 hs1
        go_upto_region 17 with fail
        go_region
        all_goals
          clear w1 dc
          obtain ⟨W5, hW5⟩ : ∃ W5, (wr.setCell ⟨r, 3 + pb, none⟩ (.int .i64 (D + 1))).drew = W5 := ⟨_, rfl⟩
          have X5 := Lib.hid (show Blk W5 49 r (rboxS s2 a len cap) by rw [← hW5, ← EB.out]; exact (SR.out.box.set_ (3 + pb) _).drew)
          have Y5 := Lib.hid (show Blk W5 39 b7 #[.int .i64 pb, .int .i64 n1, .int .i64 r1, .int .i64 d1, .int .i64 f1] by rw [← hW5]; exact (YB.out.far (by simp; omega) _).drew)
          have K5 := Lib.hid (show Keeps (fun k => k = r) wr W5 by rw [← hW5]; exact ((Keeps.refl (fun k => k = r) wr).set (.inl rfl) _ _).drew)
          rw [hW5]
          clear hW5 fz y0
          have g4 := X5.out.cell 11
          rw [EC.out.2.2] at g4
          have fz : ∀ o, W5.frozen? ⟨r, o, none⟩ = false := fun o => X5.out.free o
          have y4 := Y5.out.cell 4
          simp at y4
          go_upto_region 19 with fail
          obtain ⟨W6, hW6⟩ : ∃ W6, W5.setCell ⟨r, 11, none⟩ (.int .i64 (s.served + 1)) = W6 := ⟨_, rfl⟩
          have X6 := Lib.hid (show Blk W6 49 r (rboxS (grantS s t) a len cap) by rw [← hW6, ← EC.out.1]; exact X5.out.set_ 11 _)
          have Y6 := Lib.hid (show Blk W6 39 b7 #[.int .i64 pb, .int .i64 n1, .int .i64 r1, .int .i64 d1, .int .i64 f1] by rw [← hW6]; exact Y5.out.far (by simp; omega) _)
          have K6 := Lib.hid (show Keeps (fun k => k = r) wr W6 by rw [← hW6]; exact K5.out.set (.inl rfl) _ _)
          have R6 := Lib.hid (RR.out.keeps K6.out (by omega))
          rw [hW6]
          clear hW6 fz y4 g4
          have y4 := Y6.out.cell 4
          simp at y4
          have fz : ∀ o, W6.frozen? ⟨b7, o, none⟩ = false := fun o => Y6.out.free o
          have f1b : 1 ≤ f1 ∧ f1 ≤ 1048576 := by
            have h1 : f1 = lfS s pb := JL.out
            have h2 := LF.out; have h3 := LE.out
            have h4 := h3.2.1; have h5 := h3.2.2
            omega
          obtain ⟨f10, f11⟩ := f1b
          obtain ⟨W7, hW7⟩ : ∃ W7, W6.setCell ⟨b7, 4, none⟩ (.int .i64 (f1 - 1)) = W7 := ⟨_, rfl⟩
          have X7 := Lib.hid (show Blk W7 49 r (rboxS (grantS s t) a len cap) by rw [← hW7]; exact X6.out.far (by simp; omega) _)
          have Y7 := Lib.hid (show Blk W7 39 b7 #[.int .i64 pb, .int .i64 n1, .int .i64 r1, .int .i64 d1, .int .i64 (f1 - 1)] by rw [← hW7]; exact Y6.out.set_ 4 _)
          have R7 := Lib.hid (show Blk W7 39 w.heap.size #[.int .i64 0, .int .i64 0, .int .i64 0, .int .i64 0, .int .i64 0] by rw [← hW7]; exact R6.out.far (by simp; omega) _)
          have K7 := Lib.hid (show Keeps (fun k => k = r) w W7 by rw [← hW7]; exact (KW.out.trans K6.out (fun x e => .inl e)).set (.inr (by omega)) _ _)
          have u0 := Y7.out.cell 0; have u1 := Y7.out.cell 1; have u2 := Y7.out.cell 2; have u3 := Y7.out.cell 3; have u4 := Y7.out.cell 4
          have v0 := R7.out.cell 0; have v1 := R7.out.cell 1; have v2 := R7.out.cell 2; have v3 := R7.out.cell 3; have v4 := R7.out.cell 4
          simp at u0 u1 u2 u3 u4 v0 v1 v2 v3 v4
          have fr : ∀ o, W7.frozen? ⟨w.heap.size, o, none⟩ = false := fun o => R7.out.free o
          go_wp2
          clear hW7
          obtain ⟨W8, hW8⟩ : ∃ W8, ((((W7.setCell ⟨w.heap.size, 0, none⟩ (.int .i64 pb)).setCell ⟨w.heap.size, 1, none⟩ (.int .i64 n1)).setCell ⟨w.heap.size, 2, none⟩ (.int .i64 r1)).setCell ⟨w.heap.size, 3, none⟩ (.int .i64 d1)).setCell ⟨w.heap.size, 4, none⟩ (.int .i64 (f1 - 1)) = W8 := ⟨_, rfl⟩
          have Z8 : Blk W8 39 w.heap.size #[.int .i64 pb, .int .i64 n1, .int .i64 r1, .int .i64 d1, .int .i64 (f1 - 1)] := by rw [← hW8]; exact ((((R7.out.set_ 0 _).set_ 1 _).set_ 2 _).set_ 3 _).set_ 4 _
          have K8 : Keeps (fun k => k = w.heap.size) W7 W8 := by rw [← hW8]; exact (((((Keeps.refl (fun k => k = w.heap.size) W7).set (.inl rfl) _ _).set (.inl rfl) _ _).set (.inl rfl) _ _).set (.inl rfl) _ _).set (.inl rfl) _ _
          rw [hW8]
          have e0 := Z8.cell 0; have e1 := Z8.cell 1; have e2 := Z8.cell 2; have e3 := Z8.cell 3; have e4 := Z8.cell 4
          simp at e0 e1 e2 e3 e4
          have KK : Keeps (fun k => k = r) w W8 := K7.out.trans K8 (fun x e => .inr (by omega))
          have FIN : RAt W8 r a len cap (grantS s t) := ⟨X7.out.keeps K8 (by omega), by rw [EC.out.2.1]; exact PW.out.keepsP KK S3.out.ne, S3.out.ne, GG.out⟩
          refine bodyPost_ret (v := .tuple #[.agg #[.int .i64 pb, .int .i64 n1, .int .i64 r1, .int .i64 d1, .int .i64 (f1 - 1)], .bool true]) (by simp [results, Try.results17, go_sem, e0, e1, e2, e3, e4]) rfl ⟨?_, FIN, KK⟩
          rw [GS.out.1, GS.out.2.1, JJ.out, ← JL.out]; rfl
theorem r14grant_any (r : Nat) (a : Option Addr) (len cap : Nat) (s : SS) (t : Int) (w : World) (h : RAt w r a len cap s) (hs : s.served < 1000000) (hi : s.idle < 1000000) :
    Calls Try.prog 17 #[.pointer (some ⟨r, 0, none⟩), .int .i64 t] w fun e w' => e = .returned (.tuple #[(grantJ s t).v, .bool (grantB s t)]) ∧ RAt w' r a len cap (grantS s t) ∧ Keeps (fun k => k = r) w w' := by
  cases m : mayS s t with
  | true => exact r14grant_yes r a len cap s t w h m hs hi
  | false =>
    obtain ⟨e1, e2, e3⟩ := grant_no m
    rw [e1, e2, e3]
    exact (r14grant_no r a len cap s t w h m).mono fun _ _ ⟨a, b⟩ => ⟨a, h.below b, Keeps.of b⟩
end Go.Proofs.Ytnlgophgglgneaa
