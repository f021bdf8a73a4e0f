/-
  Package task as landed: Run: contract.
-/
import Derived.Test.YthaoijmjkmgebaaTq1
namespace Go.Proofs.Ythaoijmjkmgebaa
open Go.RowKit
set_option maxHeartbeats 2000000 in
theorem trun_nil (w : World) : Calls Try.prog 13 #[.pointer none] w fun z w' => z = .returned (.tuple #[sub0.v, .bool false]) ∧ Below w.heap.size w w' := by
  obtain ⟨W1, hW1⟩ : ∃ W1, w.alloc (.cells #[.int .i64 0, .int .i64 0, .int .i64 0, .int .i64 0, .int .i64 0] 35) = W1 := ⟨_, rfl⟩
  have B1 := Lib.hid (show Below w.heap.size w W1 by rw [← hW1]; exact wbox _ _)
  have N1 := Lib.hid (show Blk W1 35 w.heap.size #[.int .i64 0, .int .i64 0, .int .i64 0, .int .i64 0, .int .i64 0] by rw [← hW1]; exact Blk.new w _ _)
  go_enter Try.func13, Try.ntmps13
  go_wp2_with fail
  refine (thead_nil _).mono ?_
  rintro e w2 ⟨rfl, hb⟩
  rw [show sub0.v = .agg #[.int .i64 0, .int .i64 0, .int .i64 0, .int .i64 0, .int .i64 0] from rfl]
  go_upto_region 2 with fail
  obtain ⟨W3, hW3⟩ : ∃ W3, w2.alloc (.cells #[.int .i64 0, .int .i64 0, .int .i64 0, .int .i64 0, .int .i64 0] 35) = W3 := ⟨_, rfl⟩
  have B3 := Lib.hid (show Below w.heap.size w W3 by rw [← hW3]; exact below_next (below_next B1.out hb) (wbox _ _))
  have P3 := Lib.hid (show Blk W3 35 w2.heap.size #[.int .i64 0, .int .i64 0, .int .i64 0, .int .i64 0, .int .i64 0] by rw [← hW3]; exact Blk.new w2 _ _)
  have N3 := Lib.hid (show Blk W3 35 w.heap.size #[.int .i64 0, .int .i64 0, .int .i64 0, .int .i64 0, .int .i64 0] by rw [← hW3]; exact (N1.out.below hb).alloc _)
  have x0 := N3.out.cell 0; have x1 := N3.out.cell 1; have x2 := N3.out.cell 2; have x3 := N3.out.cell 3; have x4 := N3.out.cell 4
  have fx : ∀ o, W3.frozen? ⟨w.heap.size, o, none⟩ = false := fun o => N3.out.free o
  simp at x0 x1 x2 x3 x4
  have sz := N3.out.lt
  have p0 := P3.out.cell 0; have p1 := P3.out.cell 1; have p2 := P3.out.cell 2; have p3 := P3.out.cell 3; have p4 := P3.out.cell 4
  simp at p0 p1 p2 p3 p4
  rw [hW3]
  clear hW3
  go_wp2
  exact bodyPost_ret (v := .tuple #[.agg #[.int .i64 0, .int .i64 0, .int .i64 0, .int .i64 0, .int .i64 0], .bool false]) (by simp [results, Try.results13, go_sem, x0, x1, x2, x3, x4]) rfl ⟨rfl, below_set5 B3.out (Nat.le_refl _)⟩
set_option maxHeartbeats 2000000 in
theorem trun_none (g : Nat) (F : Nat → Prop) (t : TS) (w : World) (h : HpT w g F t) (hl : t.l = []) : Calls Try.prog 13 #[.pointer (some ⟨g, 0, none⟩)] w fun z w' => z = .returned (.tuple #[sub0.v, .bool false]) ∧ Below w.heap.size w w' := by
  obtain ⟨W1, hW1⟩ : ∃ W1, w.alloc (.cells #[.int .i64 0, .int .i64 0, .int .i64 0, .int .i64 0, .int .i64 0] 35) = W1 := ⟨_, rfl⟩
  have B1 := Lib.hid (show Below w.heap.size w W1 by rw [← hW1]; exact wbox _ _)
  have N1 := Lib.hid (show Blk W1 35 w.heap.size #[.int .i64 0, .int .i64 0, .int .i64 0, .int .i64 0, .int .i64 0] by rw [← hW1]; exact Blk.new w _ _)
  have H1 := Lib.hid (h.below B1.out)
  have HL := Lib.hid hl
  clear h hl
  go_enter Try.func13, Try.ntmps13
  go_wp2_with fail
  refine (thead_none g F t _ H1.out HL.out).mono ?_
  rintro e w2 ⟨rfl, hb⟩
  rw [show sub0.v = .agg #[.int .i64 0, .int .i64 0, .int .i64 0, .int .i64 0, .int .i64 0] from rfl]
  go_upto_region 2 with fail
  obtain ⟨W3, hW3⟩ : ∃ W3, w2.alloc (.cells #[.int .i64 0, .int .i64 0, .int .i64 0, .int .i64 0, .int .i64 0] 35) = W3 := ⟨_, rfl⟩
  have B3 := Lib.hid (show Below w.heap.size w W3 by rw [← hW3]; exact below_next (below_next B1.out hb) (wbox _ _))
  have P3 := Lib.hid (show Blk W3 35 w2.heap.size #[.int .i64 0, .int .i64 0, .int .i64 0, .int .i64 0, .int .i64 0] by rw [← hW3]; exact Blk.new w2 _ _)
  have N3 := Lib.hid (show Blk W3 35 w.heap.size #[.int .i64 0, .int .i64 0, .int .i64 0, .int .i64 0, .int .i64 0] by rw [← hW3]; exact (N1.out.below hb).alloc _)
  have x0 := N3.out.cell 0; have x1 := N3.out.cell 1; have x2 := N3.out.cell 2; have x3 := N3.out.cell 3; have x4 := N3.out.cell 4
  have fx : ∀ o, W3.frozen? ⟨w.heap.size, o, none⟩ = false := fun o => N3.out.free o
  simp at x0 x1 x2 x3 x4
  have sz := N3.out.lt
  have p0 := P3.out.cell 0; have p1 := P3.out.cell 1; have p2 := P3.out.cell 2; have p3 := P3.out.cell 3; have p4 := P3.out.cell 4
  simp at p0 p1 p2 p3 p4
  rw [hW3]
  clear hW3
  go_wp2
  exact bodyPost_ret (v := .tuple #[.agg #[.int .i64 0, .int .i64 0, .int .i64 0, .int .i64 0, .int .i64 0], .bool false]) (by simp [results, Try.results13, go_sem, x0, x1, x2, x3, x4]) rfl ⟨rfl, below_set5 B3.out (Nat.le_refl _)⟩
set_option maxRecDepth 20000 in
set_option maxHeartbeats 8000000 in
theorem trun_some (g : Nat) (F : Nat → Prop) (t : TS) (w : World) (h : HpT w g F t) (s : Sb) (rest : List Sb) (hl : t.l = s :: rest) (hd : t.done ≤ 1000000000) : Calls Try.prog 13 #[.pointer (some ⟨g, 0, none⟩)] w fun z w' => z = .returned (.tuple #[s.v, .bool true]) ∧ StaysT HpT w g F (runT t) w' := by
  obtain ⟨W1, hW1⟩ : ∃ W1, w.alloc (.cells #[.int .i64 0, .int .i64 0, .int .i64 0, .int .i64 0, .int .i64 0] 35) = W1 := ⟨_, rfl⟩
  have B1 := Lib.hid (show Below w.heap.size w W1 by rw [← hW1]; exact wbox _ _)
  have N1 := Lib.hid (show Blk W1 35 w.heap.size #[.int .i64 0, .int .i64 0, .int .i64 0, .int .i64 0, .int .i64 0] by rw [← hW1]; exact Blk.new w _ _)
  have H1 := Lib.hid (h.below B1.out)
  have HL := Lib.hid hl
  have LI := Lib.hid (h := h.lies)
  have GG := Lib.hid (h := h.good)
  have hd0 := GG.out.done0
  have RUN := Lib.hid (show runT t = { t with l := rest, ran := s, done := t.done + 1 } by unfold runT; rw [if_pos (by rw [hl]; simp)]; simp [headS, hl])
  have H0 := Lib.hid h
  clear h hl
  go_enter Try.func13, Try.ntmps13
  go_wp2_with fail
  refine (thead_some g F t _ H1.out s rest HL.out).mono ?_
  rintro e w2 ⟨rfl, hb⟩
  rw [show s.v = .agg #[.int .i64 s.I, .int .i64 s.R, .int .i64 s.D, .int .i64 s.B, .int .i64 s.G] from rfl]
  go_upto_region 2 with fail
  obtain ⟨W3, hW3⟩ : ∃ W3, w2.alloc (.cells #[.int .i64 s.I, .int .i64 s.R, .int .i64 s.D, .int .i64 s.B, .int .i64 s.G] 35) = W3 := ⟨_, rfl⟩
  have B3 := Lib.hid (show Below w.heap.size w W3 by rw [← hW3]; exact below_next (below_next B1.out hb) (wbox _ _))
  have P3 := Lib.hid (show Blk W3 35 w2.heap.size #[.int .i64 s.I, .int .i64 s.R, .int .i64 s.D, .int .i64 s.B, .int .i64 s.G] by rw [← hW3]; exact Blk.new w2 _ _)
  have N3 := Lib.hid (show Blk W3 35 w.heap.size #[.int .i64 0, .int .i64 0, .int .i64 0, .int .i64 0, .int .i64 0] by rw [← hW3]; exact (N1.out.below hb).alloc _)
  have x0 := N3.out.cell 0; have x1 := N3.out.cell 1; have x2 := N3.out.cell 2; have x3 := N3.out.cell 3; have x4 := N3.out.cell 4
  have fx : ∀ o, W3.frozen? ⟨w.heap.size, o, none⟩ = false := fun o => N3.out.free o
  simp at x0 x1 x2 x3 x4
  have sz := N3.out.lt
  have p0 := P3.out.cell 0; have p1 := P3.out.cell 1; have p2 := P3.out.cell 2; have p3 := P3.out.cell 3; have p4 := P3.out.cell 4
  simp at p0 p1 p2 p3 p4
  have H3 := Lib.hid (show HpT W3 g F t from H0.out.below B3.out)
  rw [hW3]
  clear hW3
  obtain ⟨sb, v, hk, hF⟩ := H3.out
  obtain ⟨bl, ol, cap, rfl, hat⟩ := QueS.at hk.que (i := 0) (s := s) (by rw [HL.out]; rfl)
  obtain ⟨n, hn0⟩ : ∃ n, t.l.length = n := ⟨_, rfl⟩
  have n1 : 0 < n := by rw [← hn0, HL.out]; simp
  have n2 : (0 : Int) < (n : Int) := by omega
  have n3 : ((n : Int) == 0) = false := by simp; omega
  have n4 : decide ((0 : Int) < (n : Int)) = true := by simp; omega
  have c4 := hk.box.cell 4; have c5 := hk.box.cell 5; have c6 := hk.box.cell 6; have c7 := hk.box.cell 7; have c8 := hk.box.cell 8; have c9 := hk.box.cell 9; have c10 := hk.box.cell 10
  simp [tkC] at c4 c5 c6 c7 c8 c9 c10
  rw [hn0] at c4
  have f6 : ∀ o, W3.frozen? ⟨g, o, none⟩ = false := fun o => hk.box.free o
  have lg := LI.out g ((hF g).mpr (.inl rfl))
  have LS := Lib.hid (LI.out sb ((hF sb).mpr (.inr (.inl rfl))))
  have nr : ¬ g = w.heap.size := by omega
  have np : ¬ g = w2.heap.size := by have := B1.out.size; have := hb.size; omega
  have wd : IntKind.i64.wrap (t.done + 1) = t.done + 1 := IntWalk.i64_in _ (by omega)
  obtain ⟨_, _, hv, hcl, hcu⟩ := QueS.val hk.que
  cases hv
  rw [hn0] at hcl hk
  have HQ := Lib.hid (show QueR W3 0 35 5 (.slice (some ⟨bl, ol, none⟩) n cap) n ((s :: rest).map Sb.cs).flatten by have := hk.que; unfold QueS at this; rw [hn0, HL.out] at this; exact this)
  have HK := Lib.hid hk
  have HF := Lib.hid hF
  have nbr : ¬ bl = g := fun e => hk.nv (by subst e; rfl)
  have nbs : ¬ bl = sb := fun e => hk.nvs (by subst e; rfl)
  have LB := Lib.hid (LI.out bl ((hF bl).mpr (.inr (.inr rfl))))
  have NL := Lib.hid (show n = rest.length + 1 by rw [← hn0, HL.out]; rfl)
  have m1 : 1 ≤ n := n1
  have m2 : (1 : Int) ≤ (n : Int) := by omega
  have m3 : (n : Int) ≤ (cap : Int) := by omega
  have m4 : n ≤ cap := by omega
  have BS := Lib.hid hb
  clear hF hat hk hn0 hb lg
  by_cases hc1 : cap = 1
  · have k1 : cap ≤ 1 := by omega
    have n0 : n = 1 := by omega
    have rn : rest = [] := List.eq_nil_of_length_eq_zero (by have := NL.out; omega)
    subst hc1 n0 rn
    clear NL
    go_upto_region 6 with fail
    obtain ⟨W4, hW4⟩ : ∃ W4, ((((((W3.setCell ⟨g, 4, none⟩ (.slice (some ⟨bl, ol, none⟩) 0 0)).setCell ⟨g, 5, none⟩ (.int .i64 s.I)).setCell ⟨g, 6, none⟩ (.int .i64 s.R)).setCell ⟨g, 7, none⟩ (.int .i64 s.D)).setCell ⟨g, 8, none⟩ (.int .i64 s.B)).setCell ⟨g, 9, none⟩ (.int .i64 s.G)).setCell ⟨g, 10, none⟩ (.int .i64 (t.done + 1)) = W4 := ⟨_, rfl⟩
    have fr := (HF.out g).mpr (.inl rfl)
    have RB := Lib.hid (show Blk W4 66 g (tkC { t with l := [], ran := s, done := t.done + 1 } sb (.slice (some ⟨bl, ol, none⟩) 0 0)) by rw [← hW4]; exact (((((((HK.out.box).set 4 _).set 5 _).set 6 _).set 7 _).set 8 _).set 9 _).set 10 _)
    have N4 := Lib.hid (show Blk W4 35 w.heap.size #[.int .i64 0, .int .i64 0, .int .i64 0, .int .i64 0, .int .i64 0] by rw [← hW4]; exact (((((((N3.out).other _ _ (Ne.symm nr)).other _ _ (Ne.symm nr)).other _ _ (Ne.symm nr)).other _ _ (Ne.symm nr)).other _ _ (Ne.symm nr)).other _ _ (Ne.symm nr)).other _ _ (Ne.symm nr))
    have P4 := Lib.hid (show Blk W4 35 w2.heap.size #[.int .i64 s.I, .int .i64 s.R, .int .i64 s.D, .int .i64 s.B, .int .i64 s.G] by rw [← hW4]; exact (((((((P3.out).other _ _ (Ne.symm np)).other _ _ (Ne.symm np)).other _ _ (Ne.symm np)).other _ _ (Ne.symm np)).other _ _ (Ne.symm np)).other _ _ (Ne.symm np)).other _ _ (Ne.symm np))
    have KW := Lib.hid (show Keeps F w W4 by rw [← hW4]; exact (((((((Keeps.of (F := F) B3.out).set (.inl fr) _ _).set (.inl fr) _ _).set (.inl fr) _ _).set (.inl fr) _ _).set (.inl fr) _ _).set (.inl fr) _ _).set (.inl fr) _ _)
    have SZ := Lib.hid (show W4.heap.size = W3.heap.size by rw [← hW4]; simp)
    have QB := Lib.hid (show ∀ x, ¬ x = g → W4.heap[x]? = W3.heap[x]? from fun x ng => by rw [← hW4]; simp only [Below.heap_setCell _ (⟨g, 4, none⟩ : Addr) _ x ng, Below.heap_setCell _ (⟨g, 5, none⟩ : Addr) _ x ng, Below.heap_setCell _ (⟨g, 6, none⟩ : Addr) _ x ng, Below.heap_setCell _ (⟨g, 7, none⟩ : Addr) _ x ng, Below.heap_setCell _ (⟨g, 8, none⟩ : Addr) _ x ng, Below.heap_setCell _ (⟨g, 9, none⟩ : Addr) _ x ng, Below.heap_setCell _ (⟨g, 10, none⟩ : Addr) _ x ng])
    rw [hW4]
    clear hW4 c4 c5 c6 c7 c8 c9 c10 x0 x1 x2 x3 x4 fx f6 p0 p1 p2 p3 p4
    have p0 := P4.out.cell 0; have p1 := P4.out.cell 1; have p2 := P4.out.cell 2; have p3 := P4.out.cell 3; have p4 := P4.out.cell 4
    have x0 := N4.out.cell 0; have x1 := N4.out.cell 1; have x2 := N4.out.cell 2; have x3 := N4.out.cell 3; have x4 := N4.out.cell 4
    have fx : ∀ o, W4.frozen? ⟨w.heap.size, o, none⟩ = false := fun o => N4.out.free o
    simp at p0 p1 p2 p3 p4 x0 x1 x2 x3 x4
    go_wp2
    refine bodyPost_ret (v := .tuple #[.agg #[.int .i64 s.I, .int .i64 s.R, .int .i64 s.D, .int .i64 s.B, .int .i64 s.G], .bool true]) (by simp [results, Try.results13, go_sem, x0, x1, x2, x3, x4]) rfl ⟨rfl, F, ?_, ?_⟩
    · have GR := good_run GG.out
      rw [RUN.out] at GR ⊢
      have QX : ∀ x, x < w.heap.size → ¬ x = g → (((((W4.setCell ⟨w.heap.size, 0, none⟩ (.int .i64 s.I)).setCell ⟨w.heap.size, 1, none⟩ (.int .i64 s.R)).setCell ⟨w.heap.size, 2, none⟩ (.int .i64 s.D)).setCell ⟨w.heap.size, 3, none⟩ (.int .i64 s.B)).setCell ⟨w.heap.size, 4, none⟩ (.int .i64 s.G)).heap[x]? = W3.heap[x]? := fun x lx ng => by
        have ne : ¬ x = w.heap.size := Nat.ne_of_lt lx
        simp only [Below.heap_setCell _ (⟨w.heap.size, 0, none⟩ : Addr) _ x ne, Below.heap_setCell _ (⟨w.heap.size, 1, none⟩ : Addr) _ x ne, Below.heap_setCell _ (⟨w.heap.size, 2, none⟩ : Addr) _ x ne, Below.heap_setCell _ (⟨w.heap.size, 3, none⟩ : Addr) _ x ne, Below.heap_setCell _ (⟨w.heap.size, 4, none⟩ : Addr) _ x ne]
        exact QB.out x ng
      refine ⟨sb, .slice (some ⟨bl, ol, none⟩) 0 0, ⟨((((RB.out.other _ _ nr).other _ _ nr).other _ _ nr).other _ _ nr).other _ _ nr, ?_, ?_, HK.out.ns, fun e => nbr (by simpa [Value.ownBlock] using e), fun e => nbs (by simpa [Value.ownBlock] using e), GR⟩, HF.out⟩
      · obtain ⟨_, _, _, _, _, q1, q2⟩ := HK.out.stp
        exact ⟨_, _, _, _, _, (QX sb LS.out (fun e => HK.out.ns e.symm)).trans q1, q2⟩
      · have HD := QueR.empty HQ.out (show 0 ≤ 1 by omega)
        exact HD.carry (fun x hx => by
          simp only [Value.ownBlock, Option.some.injEq] at hx
          subst hx
          exact QX _ LB.out nbr)
    · exact ⟨((((KW.out.set (.inr (Nat.le_refl _)) _ _).set (.inr (Nat.le_refl _)) _ _).set (.inr (Nat.le_refl _)) _ _).set (.inr (Nat.le_refl _)) _ _).set (.inr (Nat.le_refl _)) _ _, fun k q => .inl q, fun k q => by have := LI.out k q; have := B3.out.size; have := SZ.out; simp; omega⟩
  · have k1 : ¬ cap ≤ 1 := by omega
    go_upto_region 6 with fail
    obtain ⟨W4, hW4⟩ : ∃ W4, ((((((W3.setCell ⟨g, 4, none⟩ (.slice (some ⟨bl, ol + 5, none⟩) (n - 1) (cap - 1))).setCell ⟨g, 5, none⟩ (.int .i64 s.I)).setCell ⟨g, 6, none⟩ (.int .i64 s.R)).setCell ⟨g, 7, none⟩ (.int .i64 s.D)).setCell ⟨g, 8, none⟩ (.int .i64 s.B)).setCell ⟨g, 9, none⟩ (.int .i64 s.G)).setCell ⟨g, 10, none⟩ (.int .i64 (t.done + 1)) = W4 := ⟨_, rfl⟩
    have fr := (HF.out g).mpr (.inl rfl)
    have RB := Lib.hid (show Blk W4 66 g (tkC { t with l := rest, ran := s, done := t.done + 1 } sb (.slice (some ⟨bl, ol + 5, none⟩) (n - 1) (cap - 1))) by rw [← hW4]; exact (((((((HK.out.box).set 4 _).set 5 _).set 6 _).set 7 _).set 8 _).set 9 _).set 10 _)
    have N4 := Lib.hid (show Blk W4 35 w.heap.size #[.int .i64 0, .int .i64 0, .int .i64 0, .int .i64 0, .int .i64 0] by rw [← hW4]; exact (((((((N3.out).other _ _ (Ne.symm nr)).other _ _ (Ne.symm nr)).other _ _ (Ne.symm nr)).other _ _ (Ne.symm nr)).other _ _ (Ne.symm nr)).other _ _ (Ne.symm nr)).other _ _ (Ne.symm nr))
    have P4 := Lib.hid (show Blk W4 35 w2.heap.size #[.int .i64 s.I, .int .i64 s.R, .int .i64 s.D, .int .i64 s.B, .int .i64 s.G] by rw [← hW4]; exact (((((((P3.out).other _ _ (Ne.symm np)).other _ _ (Ne.symm np)).other _ _ (Ne.symm np)).other _ _ (Ne.symm np)).other _ _ (Ne.symm np)).other _ _ (Ne.symm np)).other _ _ (Ne.symm np))
    have KW := Lib.hid (show Keeps F w W4 by rw [← hW4]; exact (((((((Keeps.of (F := F) B3.out).set (.inl fr) _ _).set (.inl fr) _ _).set (.inl fr) _ _).set (.inl fr) _ _).set (.inl fr) _ _).set (.inl fr) _ _).set (.inl fr) _ _)
    have SZ := Lib.hid (show W4.heap.size = W3.heap.size by rw [← hW4]; simp)
    have QB := Lib.hid (show ∀ x, ¬ x = g → W4.heap[x]? = W3.heap[x]? from fun x ng => by rw [← hW4]; simp only [Below.heap_setCell _ (⟨g, 4, none⟩ : Addr) _ x ng, Below.heap_setCell _ (⟨g, 5, none⟩ : Addr) _ x ng, Below.heap_setCell _ (⟨g, 6, none⟩ : Addr) _ x ng, Below.heap_setCell _ (⟨g, 7, none⟩ : Addr) _ x ng, Below.heap_setCell _ (⟨g, 8, none⟩ : Addr) _ x ng, Below.heap_setCell _ (⟨g, 9, none⟩ : Addr) _ x ng, Below.heap_setCell _ (⟨g, 10, none⟩ : Addr) _ x ng])
    rw [hW4]
    clear hW4 c4 c5 c6 c7 c8 c9 c10 x0 x1 x2 x3 x4 fx f6 p0 p1 p2 p3 p4
    have p0 := P4.out.cell 0; have p1 := P4.out.cell 1; have p2 := P4.out.cell 2; have p3 := P4.out.cell 3; have p4 := P4.out.cell 4
    have x0 := N4.out.cell 0; have x1 := N4.out.cell 1; have x2 := N4.out.cell 2; have x3 := N4.out.cell 3; have x4 := N4.out.cell 4
    have fx : ∀ o, W4.frozen? ⟨w.heap.size, o, none⟩ = false := fun o => N4.out.free o
    simp at p0 p1 p2 p3 p4 x0 x1 x2 x3 x4
    go_wp2
    refine bodyPost_ret (v := .tuple #[.agg #[.int .i64 s.I, .int .i64 s.R, .int .i64 s.D, .int .i64 s.B, .int .i64 s.G], .bool true]) (by simp [results, Try.results13, go_sem, x0, x1, x2, x3, x4]) rfl ⟨rfl, F, ?_, ?_⟩
    · have GR := good_run GG.out
      rw [RUN.out] at GR ⊢
      have QX : ∀ x, x < w.heap.size → ¬ x = g → (((((W4.setCell ⟨w.heap.size, 0, none⟩ (.int .i64 s.I)).setCell ⟨w.heap.size, 1, none⟩ (.int .i64 s.R)).setCell ⟨w.heap.size, 2, none⟩ (.int .i64 s.D)).setCell ⟨w.heap.size, 3, none⟩ (.int .i64 s.B)).setCell ⟨w.heap.size, 4, none⟩ (.int .i64 s.G)).heap[x]? = W3.heap[x]? := fun x lx ng => by
        have ne : ¬ x = w.heap.size := Nat.ne_of_lt lx
        simp only [Below.heap_setCell _ (⟨w.heap.size, 0, none⟩ : Addr) _ x ne, Below.heap_setCell _ (⟨w.heap.size, 1, none⟩ : Addr) _ x ne, Below.heap_setCell _ (⟨w.heap.size, 2, none⟩ : Addr) _ x ne, Below.heap_setCell _ (⟨w.heap.size, 3, none⟩ : Addr) _ x ne, Below.heap_setCell _ (⟨w.heap.size, 4, none⟩ : Addr) _ x ne]
        exact QB.out x ng
      refine ⟨sb, .slice (some ⟨bl, ol + 5, none⟩) (n - 1) (cap - 1), ⟨((((RB.out.other _ _ nr).other _ _ nr).other _ _ nr).other _ _ nr).other _ _ nr, ?_, ?_, HK.out.ns, fun e => nbr (by simpa [Value.ownBlock] using e), fun e => nbs (by simpa [Value.ownBlock] using e), GR⟩, HF.out⟩
      · obtain ⟨_, _, _, _, _, q1, q2⟩ := HK.out.stp
        exact ⟨_, _, _, _, _, (QX sb LS.out (fun e => HK.out.ns e.symm)).trans q1, q2⟩
      · have HD := QueR.drop (k := 1) HQ.out m1
        rw [show n - 1 = rest.length by have := NL.out; omega] at HD ⊢
        exact HD.carry (fun x hx => by
          simp only [Value.ownBlock, Option.some.injEq] at hx
          subst hx
          exact QX _ LB.out nbr)
    · exact ⟨((((KW.out.set (.inr (Nat.le_refl _)) _ _).set (.inr (Nat.le_refl _)) _ _).set (.inr (Nat.le_refl _)) _ _).set (.inr (Nat.le_refl _)) _ _).set (.inr (Nat.le_refl _)) _ _, fun k q => .inl q, fun k q => by have := LI.out k q; have := B3.out.size; have := SZ.out; simp; omega⟩
theorem trun_any (g : Nat) (F : Nat → Prop) (t : TS) (w : World) (h : HpT w g F t) (hd : t.done ≤ 100000) : Calls Try.prog 13 #[.pointer (some ⟨g, 0, none⟩)] w fun z w' => z = .returned (.tuple #[(headS t).v, .bool (someB t)]) ∧ StaysT HpT w g F (runT t) w' := by
  rcases list_two t.l with hl | ⟨s, rest, hl⟩
  · obtain ⟨h1, h2⟩ := head_none hl
    have e : runT t = t := by unfold runT; rw [if_neg (by simp [hl])]
    rw [h1, h2, e]
    exact (trun_none g F t w h hl).mono fun _ _ ⟨a, b⟩ => ⟨a, h.stays b⟩
  · obtain ⟨h1, h2⟩ := head_some hl
    rw [h1, h2]
    exact trun_some g F t w h s rest hl (by omega)
end Go.Proofs.Ythaoijmjkmgebaa
