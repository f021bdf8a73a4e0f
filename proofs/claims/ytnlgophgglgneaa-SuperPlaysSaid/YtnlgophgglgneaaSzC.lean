/-
  Package super: Grant: contract.
  Package super: Missed: contract.
-/
import Derived.Test.YtnlgophgglgneaaSzB
namespace Go.Proofs.Ytnlgophgglgneaa
open Go.RowKit

/-- the supertask's own block, written -/
theorem SAt.wrote {w : World} {g gc cap : Nat} {s s' : SS} (h : SAt w g gc cap s) (i : Nat) (u : Value) (ep : s'.ps = s.ps) (ed : s'.D = s.D) (eb : (boxS s gc cap).setIfInBounds i u = boxS s' gc cap) (hg : GoodU s') : SAt (w.setCell ⟨g, i, none⟩ u) g gc cap s' := by
  have en : s'.n = s.n := by unfold SS.n; rw [ep]
  have ec : compsC s' = compsC s := by unfold compsC; rw [en]; congr 1; funext j; unfold compC ixS lfS ixS SS.E SS.P; rw [ep, ed]
  refine ⟨by rw [← eb]; exact h.box.set_ i u, ?_, h.ne, hg⟩
  rw [en, ec]
  exact owns_keeps h.row (F := fun k => k = g) ((Keeps.refl (fun k => k = g) w).set (.inl rfl) _ _) (fun x e => by simp [Value.ownBlock] at e; subst e; exact Ne.symm h.ne)
/-- .. its components, too -/
theorem SAt.served {w w' : World} {g gc cap : Nat} {s s' : SS} (h : SAt w g gc cap s) (hr : w'.ownsRow 0 73 4 (.slice (some ⟨gc, 0, none⟩) s.n cap) s.n (compsC s').flatten) (k : Keeps (fun k => k = gc) w w') (ep : s'.ps = s.ps) (ea : s'.A = s.A) (el : s'.last = s.last) (es : s'.served = s.served) (ei : s'.idle = s.idle) (hg : GoodU s') : SAt w' g gc cap s' := by
  have en : s'.n = s.n := by unfold SS.n; rw [ep]
  have eb : boxS s' gc cap = boxS s gc cap := by unfold boxS; rw [en, ea, el, es, ei]
  exact ⟨by rw [eb]; exact h.box.keeps k h.ne, by rw [en]; exact hr, h.ne, hg⟩
theorem good_last {s : SS} {t : Int} (h : GoodU s) (m : mayS s t = true) : GoodU { s with last := t } := by
  have ⟨m1, m2⟩ := may_is.mp m
  exact ⟨h.may, h.d0, h.d1, h.a0, Int.le_trans h.al m1, m2, h.i0⟩
set_option maxRecDepth 20000 in
set_option maxHeartbeats 4000000 in
theorem sgrant_no (g gc cap : Nat) (s : SS) (t : Int) (w : World) (h : SAt w g gc cap s) (m : mayS s t = false) :
    Calls Try.prog 16 #[.pointer (some ⟨g, 0, none⟩), .int .i64 t] w fun e w' => e = .returned (.tuple #[.agg #[.int .i64 0, .int .i64 0, .int .i64 0, .int .i64 0, .int .i64 0], .bool false]) ∧ Below w.heap.size w w' := by
  obtain ⟨W1, hW1⟩ : ∃ W1, w.alloc (.cells #[.int .i64 0, .int .i64 0, .int .i64 0, .int .i64 0, .int .i64 0] 39) = W1 := ⟨_, rfl⟩
  have B1 := Lib.hid (show Below w.heap.size w W1 by rw [← hW1]; exact wbox _ _)
  have R1 := Lib.hid (show Blk W1 39 w.heap.size #[.int .i64 0, .int .i64 0, .int .i64 0, .int .i64 0, .int .i64 0] by rw [← hW1]; exact Blk.new w _ _)
  have S1 := Lib.hid (h.below B1.out)
  have M := Lib.hid m
  clear h m
  go_enter Try.func16, Try.ntmps16
  go_wp2_with fail
  clear hW1
  refine (smay_any S1.out t false M.out).mono ?_
  rintro e w1 ⟨rfl, rfl⟩
  have x0 := R1.out.cell 0; have x1 := R1.out.cell 1; have x2 := R1.out.cell 2; have x3 := R1.out.cell 3; have x4 := R1.out.cell 4
  simp at x0 x1 x2 x3 x4
  have fz : ∀ o, W1.frozen? ⟨w.heap.size, o, none⟩ = false := fun o => R1.out.free o
  go_wp2
  obtain ⟨W7, hW7⟩ : ∃ W7, ((((W1.setCell ⟨w.heap.size, 0, none⟩ (.int .i64 0)).setCell ⟨w.heap.size, 1, none⟩ (.int .i64 0)).setCell ⟨w.heap.size, 2, none⟩ (.int .i64 0)).setCell ⟨w.heap.size, 3, none⟩ (.int .i64 0)).setCell ⟨w.heap.size, 4, none⟩ (.int .i64 0) = W7 := ⟨_, rfl⟩
  have Z7 : Blk W7 39 w.heap.size #[.int .i64 0, .int .i64 0, .int .i64 0, .int .i64 0, .int .i64 0] := by rw [← hW7]; exact ((((R1.out.set_ 0 _).set_ 1 _).set_ 2 _).set_ 3 _).set_ 4 _
  have B7 : Below w.heap.size w W7 := by rw [← hW7]; exact ((((B1.out.setCell (Nat.le_refl _) _).setCell (Nat.le_refl _) _).setCell (Nat.le_refl _) _).setCell (Nat.le_refl _) _).setCell (Nat.le_refl _) _
  rw [hW7]
  have v0 := Z7.cell 0; have v1 := Z7.cell 1; have v2 := Z7.cell 2; have v3 := Z7.cell 3; have v4 := Z7.cell 4
  simp at v0 v1 v2 v3 v4
  exact bodyPost_ret (v := .tuple #[.agg #[.int .i64 0, .int .i64 0, .int .i64 0, .int .i64 0, .int .i64 0], .bool false]) (by simp [results, Try.results16, go_sem, v0, v1, v2, v3, v4]) rfl ⟨rfl, B7⟩
set_option maxRecDepth 20000 in
set_option maxHeartbeats 4000000 in
theorem sgrant_yes (g gc cap : Nat) (s : SS) (t : Int) (w : World) (h : SAt w g gc cap s) (m : mayS s t = true) (hs : s.served < 1000000) (hi : s.idle < 1000000) :
    Calls Try.prog 16 #[.pointer (some ⟨g, 0, none⟩), .int .i64 t] w fun e w' => e = .returned (.tuple #[(grantJ s t).v, .bool (grantB s t)]) ∧ SAt w' g gc cap (grantS s t) ∧ Keeps (fun k => k = g ∨ k = gc) w w' := by
  obtain ⟨W1, hW1⟩ : ∃ W1, w.alloc (.cells #[.int .i64 0, .int .i64 0, .int .i64 0, .int .i64 0, .int .i64 0] 39) = W1 := ⟨_, rfl⟩
  have B1 := Lib.hid (show Below w.heap.size w W1 by rw [← hW1]; exact wbox _ _)
  have R1 := Lib.hid (show Blk W1 39 w.heap.size #[.int .i64 0, .int .i64 0, .int .i64 0, .int .i64 0, .int .i64 0] by rw [← hW1]; exact Blk.new w _ _)
  have S1 := Lib.hid (h.below B1.out)
  have ⟨l1, l2⟩ := h.lt
  have M := Lib.hid m
  have GL := Lib.hid (good_last h.good m)
  have GG := Lib.hid (good_grant h.good t)
  have s0 := h.good.s0; have i0 := h.good.i0
  clear h m
  go_enter Try.func16, Try.ntmps16
  go_wp2_with fail
  clear hW1
  refine (smay_any S1.out t true M.out).mono ?_
  rintro e w1 ⟨rfl, rfl⟩
  have g2 := S1.out.box.cell 2
  simp [boxS] at g2
  have fz : ∀ o, W1.frozen? ⟨g, o, none⟩ = false := fun o => S1.out.box.free o
  obtain ⟨W2, hW2⟩ : ∃ W2, W1.setCell ⟨g, 2, none⟩ (.int .i64 t) = W2 := ⟨_, rfl⟩
  obtain ⟨s1, hs1⟩ : ∃ s1 : SS, { s with last := t } = s1 := ⟨_, rfl⟩
  have S2 := Lib.hid (show SAt W2 g gc cap s1 by rw [← hW2, ← hs1]; exact S1.out.wrote 2 _ rfl rfl rfl GL.out)
  have R2 := Lib.hid (show Blk W2 39 w.heap.size #[.int .i64 0, .int .i64 0, .int .i64 0, .int .i64 0, .int .i64 0] by rw [← hW2]; exact R1.out.far (by simp; omega) _)
  have K2 := Lib.hid (show Keeps (fun k => k = g ∨ k = gc) w W2 by rw [← hW2]; exact (Keeps.of B1.out).set (.inl (.inl rfl)) _ _)
  have E1 := Lib.hid (show bestS s1 t = bestS s t ∧ (∀ o, jobO s1 o = jobO s o) ∧ s1.served = s.served ∧ s1.idle = s.idle ∧ s1.n = s.n ∧ s1.last = t by rw [← hs1]; exact ⟨rfl, (fun o => by cases o <;> rfl), rfl, rfl, rfl, rfl⟩)
  go_wp2_with fail
  clear hW2 g2 fz
  obtain ⟨J, hJ⟩ : ∃ J, jobO s1 (bestS s1 t) = J := ⟨_, rfl⟩
  obtain ⟨b, hb⟩ : ∃ b, (bestS s1 t).isSome = b := ⟨_, rfl⟩
  refine (searliest_any g gc cap s1 t W2 S2.out (by rw [E1.out.2.2.1]; omega) J hJ b hb).mono ?_
  rintro e W3 ⟨rfl, hb3⟩
  have hJ2 : jobO s (bestS s t) = J := by rw [← hJ, E1.out.1, E1.out.2.1]
  have hb2 : (bestS s t).isSome = b := by rw [← hb, E1.out.1]
  clear hJ hb
  have HJ := Lib.hid hJ2
  have HB := Lib.hid hb2
  clear hJ2 hb2
  obtain ⟨p1, n1, r1, d1, f1⟩ := J
  simp only [Jb.v]
  have zw : w.heap.size < W3.heap.size := Nat.lt_of_lt_of_le R2.out.lt hb3.size
  obtain ⟨W4, hW4⟩ : ∃ W4, W3.alloc (.cells #[.int .i64 p1, .int .i64 n1, .int .i64 r1, .int .i64 d1, .int .i64 f1] 39) = W4 := ⟨_, rfl⟩
  have XB := Lib.hid (show Blk W4 39 W3.heap.size #[.int .i64 p1, .int .i64 n1, .int .i64 r1, .int .i64 d1, .int .i64 f1] by rw [← hW4]; exact Blk.new _ _ _)
  have S4 := Lib.hid (show SAt W4 g gc cap s1 by rw [← hW4]; exact (S2.out.below hb3).below (wbox _ _))
  have R4 := Lib.hid (show Blk W4 39 w.heap.size #[.int .i64 0, .int .i64 0, .int .i64 0, .int .i64 0, .int .i64 0] by rw [← hW4]; exact (R2.out.below hb3).alloc _)
  have K4 := Lib.hid (show Keeps (fun k => k = g ∨ k = gc) w W4 by rw [← hW4]; exact (K2.out.next hb3).alloc _)
  clear hb3 S2 R2 K2 S1 R1 B1
  have fz : ∀ o, W4.frozen? ⟨g, o, none⟩ = false := fun o => S4.out.box.free o
  cases hbo : bestS s t with
  | none =>
    have eb : b = false := by rw [← HB.out, hbo]; rfl
    subst eb
    have GN := Lib.hid (grant_none M.out hbo)
    clear hbo
    have g4 := S4.out.box.cell 4
    simp [boxS] at g4
    rw [E1.out.2.2.2.1] at g4
    obtain ⟨W5, hW5⟩ : ∃ W5, W4.setCell ⟨g, 4, none⟩ (.int .i64 (s.idle + 1)) = W5 := ⟨_, rfl⟩
    have EG := Lib.hid (show (grantS s t).ps = s1.ps ∧ (grantS s t).D = s1.D ∧ (boxS s1 gc cap).setIfInBounds 4 (.int .i64 (s.idle + 1)) = boxS (grantS s t) gc cap by rw [GN.out.2.2, ← hs1]; exact ⟨rfl, rfl, rfl⟩)
    have S5 := Lib.hid (show SAt W5 g gc cap (grantS s t) by rw [← hW5]; exact S4.out.wrote 4 _ EG.out.1 EG.out.2.1 EG.out.2.2 GG.out)
    have R5 := Lib.hid (show Blk W5 39 w.heap.size #[.int .i64 0, .int .i64 0, .int .i64 0, .int .i64 0, .int .i64 0] by rw [← hW5]; exact R4.out.far (by simp; omega) _)
    have K5 := Lib.hid (show Keeps (fun k => k = g ∨ k = gc) w W5 by rw [← hW5]; exact K4.out.set (.inl (.inl rfl)) _ _)
    have x0 := R5.out.cell 0; have x1 := R5.out.cell 1; have x2 := R5.out.cell 2; have x3 := R5.out.cell 3; have x4 := R5.out.cell 4
    simp at x0 x1 x2 x3 x4
    have fr : ∀ o, W5.frozen? ⟨w.heap.size, o, none⟩ = false := fun o => R5.out.free o
    clear hs1
    go_wp2
    clear hW5 hW4
    obtain ⟨W7, hW7⟩ : ∃ W7, ((((W5.setCell ⟨w.heap.size, 0, none⟩ (.int .i64 0)).setCell ⟨w.heap.size, 1, none⟩ (.int .i64 0)).setCell ⟨w.heap.size, 2, none⟩ (.int .i64 0)).setCell ⟨w.heap.size, 3, none⟩ (.int .i64 0)).setCell ⟨w.heap.size, 4, none⟩ (.int .i64 0) = W7 := ⟨_, rfl⟩
    have Z7 : Blk W7 39 w.heap.size #[.int .i64 0, .int .i64 0, .int .i64 0, .int .i64 0, .int .i64 0] := by rw [← hW7]; exact ((((R5.out.set_ 0 _).set_ 1 _).set_ 2 _).set_ 3 _).set_ 4 _
    have K7 : Keeps (fun k => k = w.heap.size) W5 W7 := by rw [← hW7]; exact (((((Keeps.refl (fun k => k = w.heap.size) W5).set (.inl rfl) _ _).set (.inl rfl) _ _).set (.inl rfl) _ _).set (.inl rfl) _ _).set (.inl rfl) _ _
    rw [hW7]
    have v0 := Z7.cell 0; have v1 := Z7.cell 1; have v2 := Z7.cell 2; have v3 := Z7.cell 3; have v4 := Z7.cell 4
    simp at v0 v1 v2 v3 v4
    refine bodyPost_ret (v := .tuple #[.agg #[.int .i64 0, .int .i64 0, .int .i64 0, .int .i64 0, .int .i64 0], .bool false]) (by simp [results, Try.results16, go_sem, v0, v1, v2, v3, v4]) rfl ⟨?_, S5.out.keeps K7 (by omega) (by omega), K5.out.trans K7 (fun x e => .inr (by omega))⟩
    rw [GN.out.1, GN.out.2.1]; rfl
  | some pb =>
    have eb : b = true := by rw [← HB.out, hbo]; rfl
    subst eb
    have GS := Lib.hid (grant_some M.out hbo)
    have PB := Lib.hid (show pb < s.n from bestI_lt (i := s.n) hbo)
    have JJ := Lib.hid (show jobS s pb 0 = ⟨p1, n1, r1, d1, f1⟩ by rw [← HJ.out, hbo]; rfl)
    have JP := Lib.hid (show p1 = (pb : Int) from by have := congrArg Jb.part JJ.out; exact this.symm)
    have JL := Lib.hid (show f1 = lfS s pb from by have := congrArg Jb.left JJ.out; exact this.symm)
    have LF := Lib.hid (ix_bd S4.out.good (i := pb) (by rw [E1.out.2.2.2.2.1]; exact PB.out))
    have LE := Lib.hid (show lfS s1 pb = lfS s pb ∧ s1.E pb = s.E pb ∧ s.E pb ≤ 1048576 by rw [← hs1]; exact ⟨rfl, rfl, by have h1 := S4.out.good.mb (i := pb) (by rw [E1.out.2.2.2.2.1]; exact PB.out); rw [← hs1] at h1; have h2 := h1.2; show s.E pb ≤ _; have h3 : s.E pb ≤ s.P pb := h2.1; have h4 : s.P pb ≤ 1048576 := h2.2; omega⟩)
    obtain rfl := JP.out
    clear hbo
    have g4 := S4.out.box.cell 3
    simp [boxS] at g4
    rw [E1.out.2.2.1] at g4
    obtain ⟨W5, hW5⟩ : ∃ W5, W4.setCell ⟨g, 3, none⟩ (.int .i64 (s.served + 1)) = W5 := ⟨_, rfl⟩
    obtain ⟨s2, hs2⟩ : ∃ s2 : SS, { s1 with served := s.served + 1 } = s2 := ⟨_, rfl⟩
    have G2 := Lib.hid (show GoodU s2 by
      have h1 := S4.out.good
      rw [← hs2]
      exact ⟨h1.may, h1.d0, fun i => by have h2 := h1.d1 i; rw [E1.out.2.2.1] at h2; show s1.D i ≤ s.served + 1; omega, h1.a0, h1.al, h1.l1, h1.i0⟩)
    have S5 := Lib.hid (show SAt W5 g gc cap s2 by rw [← hW5, ← hs2]; exact S4.out.wrote 3 _ rfl rfl rfl (by rw [hs2]; exact G2.out))
    have R5 := Lib.hid (show Blk W5 39 w.heap.size #[.int .i64 0, .int .i64 0, .int .i64 0, .int .i64 0, .int .i64 0] by rw [← hW5]; exact R4.out.far (by simp; omega) _)
    have X5 := Lib.hid (show Blk W5 39 W3.heap.size #[.int .i64 pb, .int .i64 n1, .int .i64 r1, .int .i64 d1, .int .i64 f1] by rw [← hW5]; exact XB.out.far (by simp; omega) _)
    have K5 := Lib.hid (show Keeps (fun k => k = g ∨ k = gc) w W5 by rw [← hW5]; exact K4.out.set (.inl (.inl rfl)) _ _)
    have E2 := Lib.hid (show s2.n = s.n ∧ s2.served = s.served + 1 ∧ (grantS s t).ps = s2.ps ∧ (∀ j, j ≠ pb → (grantS s t).D j = s2.D j) ∧ (grantS s t).D pb = s2.D pb + 1 ∧ (grantS s t).A = s2.A ∧ (grantS s t).last = s2.last ∧ (grantS s t).served = s2.served ∧ (grantS s t).idle = s2.idle by
      rw [GS.out.2.2, ← hs2, ← hs1]
      exact ⟨rfl, rfl, rfl, fun j hj => if_neg hj, if_pos rfl, rfl, rfl, rfl, rfl⟩)
    clear hs1 hs2
    go_upto_region 9 with fail
    clear hW5 hW4 g4 fz
    have PN := Lib.hid (show pb < s2.n by rw [E2.out.1]; exact PB.out)
    obtain ⟨n, hn⟩ : ∃ n, s2.n = n := ⟨_, rfl⟩
    have HN := Lib.hid hn
    have i0 : 0 ≤ (pb : Int) := by omega
    have i1 : (pb : Int) < (n : Int) := by have := PN.out; omega
    clear hn
    have SM := Lib.hid (show s2.served ≤ 1000000 by rw [E2.out.2.1]; omega)
    have RW := Lib.hid (show W5.drew.ownsRow 0 73 4 (.slice (some ⟨gc, 0, none⟩) s2.n cap) s2.n (compsC s2).flatten from S5.out.row.drew)
    have CL := Lib.hid (show W5.drew.cell? ⟨g, 0, none⟩ = some (.slice (some ⟨gc, 0, none⟩) n cap) ∧ W5.drew.cell? ⟨W3.heap.size, 0, none⟩ = some (.int .i64 pb) from ⟨by have := S5.out.box.drew.cell 0; rw [this]; simp [boxS, HN.out], X5.out.drew.cell 0⟩)
    have KEPT := Lib.hid (show ∀ W : World, Keeps (fun k => k = gc) W5.drew W → W.cell? ⟨g, 0, none⟩ = some (.slice (some ⟨gc, 0, none⟩) n cap) ∧ W.cell? ⟨W3.heap.size, 0, none⟩ = some (.int .i64 pb) from fun W k => ⟨by have := (S5.out.box.drew.keeps k S5.out.ne).cell 0; rw [this]; simp [boxS, HN.out], (X5.out.drew.keeps k (by omega)).cell 0⟩)
    go_region_held3 (fun W => W.cell? ⟨g, 0, none⟩ = some (.slice (some ⟨gc, 0, none⟩) n cap) ∧ W.cell? ⟨W3.heap.size, 0, none⟩ = some (.int .i64 pb))
      (first | exact CL.out | exact KEPT.out _ HK.out)
      ((go_at_call 40; (with_reducible refine (sserve_any (gc := gc) (cap := cap) (s := s2) (grantS s t) pb RW.out G2.out PN.out SM.out E2.out.2.2.1 E2.out.2.2.2.1 E2.out.2.2.2.2.1).mono ?_); rintro e W6 ⟨rfl, hr, hk⟩; have HR := Lib.hid hr; have HK := Lib.hid hk; clear hr hk))
    all_goals
      have S6 := Lib.hid (show SAt W6 g gc cap (grantS s t) from SAt.served (w := W5.drew) ⟨S5.out.box.drew, S5.out.row.drew, S5.out.ne, S5.out.good⟩ HR.out HK.out E2.out.2.2.1 E2.out.2.2.2.2.2.1 E2.out.2.2.2.2.2.2.1 E2.out.2.2.2.2.2.2.2.1 E2.out.2.2.2.2.2.2.2.2 GG.out)
      have X6 := Lib.hid (X5.out.drew.keeps HK.out (by omega))
      have R6 := Lib.hid (R5.out.drew.keeps HK.out (by omega))
      have K6 := Lib.hid (show Keeps (fun k => k = g ∨ k = gc) w W6 from K5.out.drew.trans HK.out (fun x e => .inl (.inr e)))
      clear HR HK KEPT CL RW i0 i1
      have x4 := X6.out.cell 4
      simp at x4
      have fx : ∀ o, W6.frozen? ⟨W3.heap.size, o, none⟩ = false := fun o => X6.out.free o
      have f1b : 1 ≤ f1 ∧ f1 ≤ 1048576 := by have h1 := JL.out; have h2 := LF.out; have h3 := LE.out; rw [h3.1, h3.2.1] at h2; omega
      obtain ⟨q1, q2⟩ := f1b
      obtain ⟨W7, hW7⟩ : ∃ W7, W6.setCell ⟨W3.heap.size, 4, none⟩ (.int .i64 (f1 - 1)) = W7 := ⟨_, rfl⟩
      have S7 := Lib.hid (show SAt W7 g gc cap (grantS s t) by rw [← hW7]; exact S6.out.keeps (F := fun k => k = W3.heap.size) ((Keeps.refl (fun k => k = W3.heap.size) W6).set (.inl rfl) _ _) (by omega) (by omega))
      have X7 := Lib.hid (show Blk W7 39 W3.heap.size #[.int .i64 pb, .int .i64 n1, .int .i64 r1, .int .i64 d1, .int .i64 (f1 - 1)] by rw [← hW7]; exact X6.out.set_ 4 _)
      have R7 := Lib.hid (show Blk W7 39 w.heap.size #[.int .i64 0, .int .i64 0, .int .i64 0, .int .i64 0, .int .i64 0] by rw [← hW7]; exact R6.out.far (by simp; omega) _)
      have K7 := Lib.hid (show Keeps (fun k => k = g ∨ k = gc) w W7 by rw [← hW7]; exact K6.out.set (.inr (by omega)) _ _)
      have u0 := X7.out.cell 0; have u1 := X7.out.cell 1; have u2 := X7.out.cell 2; have u3 := X7.out.cell 3; have u4 := X7.out.cell 4
      have y0 := R7.out.cell 0; have y1 := R7.out.cell 1; have y2 := R7.out.cell 2; have y3 := R7.out.cell 3; have y4 := R7.out.cell 4
      simp at u0 u1 u2 u3 u4 y0 y1 y2 y3 y4
      have fr : ∀ o, W7.frozen? ⟨w.heap.size, o, none⟩ = false := fun o => R7.out.free o
      go_wp2
      clear hW7
      obtain ⟨W8, hW8⟩ : ∃ W8, ((((W7.setCell ⟨w.heap.size, 0, none⟩ (.int .i64 pb)).setCell ⟨w.heap.size, 1, none⟩ (.int .i64 n1)).setCell ⟨w.heap.size, 2, none⟩ (.int .i64 r1)).setCell ⟨w.heap.size, 3, none⟩ (.int .i64 d1)).setCell ⟨w.heap.size, 4, none⟩ (.int .i64 (f1 - 1)) = W8 := ⟨_, rfl⟩
      have Z8 : Blk W8 39 w.heap.size #[.int .i64 pb, .int .i64 n1, .int .i64 r1, .int .i64 d1, .int .i64 (f1 - 1)] := by rw [← hW8]; exact ((((R7.out.set_ 0 _).set_ 1 _).set_ 2 _).set_ 3 _).set_ 4 _
      have K8 : Keeps (fun k => k = w.heap.size) W7 W8 := by rw [← hW8]; exact (((((Keeps.refl (fun k => k = w.heap.size) W7).set (.inl rfl) _ _).set (.inl rfl) _ _).set (.inl rfl) _ _).set (.inl rfl) _ _).set (.inl rfl) _ _
      rw [hW8]
      have v0 := Z8.cell 0; have v1 := Z8.cell 1; have v2 := Z8.cell 2; have v3 := Z8.cell 3; have v4 := Z8.cell 4
      simp at v0 v1 v2 v3 v4
      refine bodyPost_ret (v := .tuple #[.agg #[.int .i64 pb, .int .i64 n1, .int .i64 r1, .int .i64 d1, .int .i64 (f1 - 1)], .bool true]) (by simp [results, Try.results16, go_sem, v0, v1, v2, v3, v4]) rfl ⟨?_, S7.out.keeps K8 (by omega) (by omega), K7.out.trans K8 (fun x e => .inr (by omega))⟩
      rw [GS.out.1, GS.out.2.1, JJ.out, ← JL.out]; rfl
/-- all of it -/
theorem sgrant_any (g gc cap : Nat) (s : SS) (t : Int) (w : World) (h : SAt w g gc cap s) (hs : s.served < 1000000) (hi : s.idle < 1000000) :
    Calls Try.prog 16 #[.pointer (some ⟨g, 0, none⟩), .int .i64 t] w fun e w' => e = .returned (.tuple #[(grantJ s t).v, .bool (grantB s t)]) ∧ SAt w' g gc cap (grantS s t) ∧ Keeps (fun k => k = g ∨ k = gc) w w' := by
  cases m : mayS s t with
  | true => exact sgrant_yes g gc cap s t w h m hs hi
  | false =>
    obtain ⟨e1, e2, e3⟩ := grant_no m
    rw [e1, e2, e3]
    exact (sgrant_no g gc cap s t w h m).mono fun _ _ ⟨a, b⟩ => ⟨a, h.below b, Keeps.of b⟩
end Go.Proofs.Ytnlgophgglgneaa
namespace Go.Proofs.Ytnlgophgglgneaa
open Go.RowKit

theorem below_drews {B : Nat} {a w : World} (h : Below B a w) (n : Nat) : Below B a (w.drewN n) := ⟨h.os, h.tape, h.output, h.size, h.block⟩
theorem sumN_succ (n : Nat) (f : Nat → Int) : sumN (n + 1) f = sumN n f + f n := rfl
theorem miss_sums {s : SS} (h : GoodU s) {t : Int} (m : mayS s t = true) : ∀ i, i ≤ s.n → 0 ≤ sumN i (missI s t) ∧ sumN i (missI s t) ≤ i * 1099511627776 := by
  have ⟨m1, m2⟩ := may_is.mp m
  intro i
  induction i with
  | zero => intro _; simp [sumN]
  | succ i ih =>
    intro hi
    have h1 := ih (by omega)
    have h2 := miss_bd h (i := i) (by omega) (t := t) (Int.le_trans h.al m1) m2
    rw [sumN_succ]
    omega
set_option maxRecDepth 20000 in
set_option maxHeartbeats 4000000 in
theorem smissed_any (g gc cap : Nat) (s : SS) (t : Int) (w : World) (h : SAt w g gc cap s) (hs : s.served ≤ 1000000) :
    Calls Try.prog 21 #[.pointer (some ⟨g, 0, none⟩), .int .i64 t] w fun e w' => e = .returned (.int .i64 (missedV s t)) ∧ Below w.heap.size w w' := by
  cases m : mayS s t with
  | false =>
    have V := Lib.hid (missed_no m)
    have H := Lib.hid h
    have M := Lib.hid m
    clear h m
    go_enter Try.func21, Try.ntmps21
    go_wp2_with fail
    go_step3
    go_wp2_with fail
    refine (smay_any H.out t false M.out).mono ?_
    rintro e w1 ⟨rfl, rfl⟩
    go_wp2
    try rw [Exit.noGoto_ret]
    go_ret
    exact ⟨ret_one V.out.symm, Below.refl _ _⟩
  | true =>
    have V := Lib.hid (missed_sum m)
    have SB := Lib.hid (fun i (hi : i ≤ s.n) => miss_sums h.good m i hi)
    have H := Lib.hid h
    have M := Lib.hid m
    have GD := Lib.hid h.good
    have ⟨m1, m2⟩ := may_is.mp m
    have a0 := h.good.a0; have a1 := h.good.al
    have n8 : s.n ≤ 8 := h.good.may.few
    have c0 := h.box.cell 0
    have c1 := h.box.cell 1
    simp [boxS] at c0 c1
    obtain ⟨A, hA⟩ : ∃ A, s.A = A := ⟨_, rfl⟩
    have HA := Lib.hid hA
    rw [hA] at c1 a0 a1
    obtain ⟨n, hn⟩ : ∃ n, s.n = n := ⟨_, rfl⟩
    have HN := Lib.hid hn
    rw [hn] at c0 n8
    clear h m hn hA
    go_enter Try.func21, Try.ntmps21
    go_wp2_with fail
    go_step3
    go_wp2_with fail
    refine (smay_any H.out t true M.out).mono ?_
    rintro e w1 ⟨rfl, rfl⟩
    go_wp2
    go_step3
    go_wp2
    clear c0 c1
    go_loopw [5, 18] (fun u v wr => ∃ i : Nat, v = .int .i64 i ∧ i ≤ n ∧ u = .int .i64 (sumN i (missI s t)) ∧ Below w.heap.size w wr) (fun _ v _ => n - (intOf v).toNat)
    case atStart => exact ⟨0, rfl, by omega, rfl, Below.refl _ _⟩
    case round =>
      obtain ⟨i, rfl, i1, rfl, hB⟩ := hrel
      have B := Lib.hid hB
      have HR := Lib.hid (H.out.below hB)
      clear hB
      by_cases go : i < n
      · have b1 : decide (i < n) = true := by simp; omega
        have b2 : decide ((i : Int) < (n : Int)) = true := by simp; omega
        have i0 : 0 ≤ (i : Int) := by omega
        have i2 : (i : Int) < (n : Int) := by omega
        have hi := Lib.hid (show i < s.n by rw [HN.out]; exact go)
        have CC := Lib.hid (owns_comp HR.out.row hi.out)
        have MD := Lib.hid (miss_due GD.out hi.out t)
        have MB := Lib.hid (miss_bd GD.out hi.out (t := t) (by rw [HA.out]; omega) m2)
        have SI := SB.out i (by rw [HN.out]; omega)
        have SS1 := Lib.hid (sumN_succ i (missI s t))
        have ⟨x1, x2, x3, x4⟩ := ix_bd GD.out hi.out
        have x5 := GD.out.d1 i
        obtain ⟨y1, y2, y3⟩ := GD.out.mb hi.out
        have ⟨p0, p1, p2, p3⟩ := CC.out
        have lg := HR.out.lt.2
        obtain ⟨E, hE⟩ : ∃ E, s.E i = E := ⟨_, rfl⟩
        obtain ⟨P, hP⟩ : ∃ P, s.P i = P := ⟨_, rfl⟩
        obtain ⟨X, hX⟩ : ∃ X, ixS s i = X := ⟨_, rfl⟩
        obtain ⟨L, hL⟩ : ∃ L, lfS s i = L := ⟨_, rfl⟩
        rw [hE, hP, hX, hL, HA.out] at MD
        rw [hE] at p0 x4 y1 y2
        rw [hP] at p1 y2 y3
        rw [hX] at p2 x1 x2
        rw [hL] at p3 x3 x4
        obtain ⟨Sm, hSm⟩ : ∃ Sm, sumN i (missI s t) = Sm := ⟨_, rfl⟩
        obtain ⟨Mi, hMi⟩ : ∃ Mi, missI s t i = Mi := ⟨_, rfl⟩
        rw [hSm, hMi] at SS1
        rw [hMi] at MD MB
        rw [hSm] at SI ⊢
        have q0 : 0 ≤ (t - A) / P := Int.ediv_nonneg (by omega) (by omega)
        have q1 := Int.ediv_le_self P (show 0 ≤ t - A by omega)
        have q2 : (t - A).tdiv P = (t - A) / P := Int.tdiv_eq_ediv_of_nonneg (by omega)
        have q3 : ¬ P = 0 := by omega
        obtain ⟨T, hT⟩ : ∃ T, (t - A) / P = T := ⟨_, rfl⟩
        rw [hT] at q0 q1 q2 MD
        have w1 : IntKind.i64.wrap (t - A) = t - A := IntWalk.i64_in _ (by omega)
        have w2 : IntKind.i64.wrap T = T := IntWalk.i64_in _ (by omega)
        have w3 : IntKind.i64.wrap (T - X) = T - X := IntWalk.i64_in _ (by omega)
        have W1 := Lib.hid w1; have W2 := Lib.hid w2; have W3 := Lib.hid w3; have Q2 := Lib.hid q2
        clear hE hP hX hL hSm hMi hT w1 w2 w3 q2 CC
        have B4 := Lib.hid (show Below w.heap.size w (wr.alloc (.cells #[.int .i64 E, .int .i64 P, .int .i64 X, .int .i64 L] 73)) from below_next B.out (wbox _ _))
        obtain ⟨W4, hW4⟩ : ∃ W4, wr.alloc (.cells #[.int .i64 E, .int .i64 P, .int .i64 X, .int .i64 L] 73) = W4 := ⟨_, rfl⟩
        have C4 := Lib.hid (show Blk W4 73 wr.heap.size #[.int .i64 E, .int .i64 P, .int .i64 X, .int .i64 L] by rw [← hW4]; exact Blk.new _ _ _)
        rw [hW4] at B4
        have H4 := Lib.hid (H.out.below B4.out)
        go_upto_region 7 with fail
        clear hW4 p0 p1 p2 p3
        have k1 := C4.out.cell 1
        have k2 := C4.out.cell 2
        have g1 := H4.out.box.cell 1
        simp [boxS] at k1 k2 g1
        rw [HA.out] at g1
        have w1 := W1.out; have w2 := W2.out; have w3 := W3.out; have q2 := Q2.out
        go_quiet (fail)
        all_goals
          clear w1 w2 w3 q2
          by_cases hd : T - X < 1
          · have t1 : decide (T - X < 1) = true := by simp; omega
            have MZ := Lib.hid (show Mi = 0 by rw [MD.out, if_pos hd])
            clear hd
            go_wp2
            go_roundw
            case rel => exact ⟨i + 1, by go_num, by omega, by rw [SS1.out, MZ.out, Int.add_zero], below_drews B4.out _⟩
            case measure => simp [intOf]; omega
          · have t1 : decide (T - X < 1) = false := by simp; omega
            have MZ := Lib.hid (show Mi = L + (T - X - 1) * E by rw [MD.out, if_neg hd])
            have n0 : 0 ≤ (T - X - 1) * E := Int.mul_nonneg (by omega) (by omega)
            obtain ⟨N, hN⟩ : ∃ N, (T - X - 1) * E = N := ⟨_, rfl⟩
            rw [hN] at n0 MZ
            have mb := MB.out
            have n1 : N ≤ 1099511627776 := by have := MZ.out; omega
            have v1 : IntKind.i64.wrap ((T - X - 1) * E) = N := by rw [hN]; exact IntWalk.i64_in _ (by omega)
            have k0 := C4.out.cell 0
            have k3 := C4.out.cell 3
            simp at k0 k3
            obtain ⟨q, hq⟩ : ∃ q, T - X = q := ⟨_, rfl⟩
            rw [hq] at v1 t1 hN hd ⊢
            clear hN
            go_wp2
            go_roundw
            case rel => exact ⟨i + 1, by go_num, by omega, by rw [SS1.out, MZ.out], below_drews B4.out _⟩
            case measure => simp [intOf]; omega
      · have b1 : decide (i < n) = false := by simp; omega
        have b2 : decide ((i : Int) < (n : Int)) = false := by simp; omega
        have EI := Lib.hid (show sumN i (missI s t) = missedV s t by rw [V.out, HN.out]; congr 1; omega)
        rw [EI.out]
        go_wp2
        try rw [Exit.noGoto_ret]
        go_ret
        exact ⟨rfl, B.out⟩
end Go.Proofs.Ytnlgophgglgneaa
