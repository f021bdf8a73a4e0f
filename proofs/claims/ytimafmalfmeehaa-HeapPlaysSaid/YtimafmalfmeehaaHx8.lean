/-
  Package heap as landed: take: contract.
-/
import Derived.Test.YtimafmalfmeehaaHx7
import Derived.Lib.SliceRun
namespace Go.Proofs.Ytimafmalfmeehaa
open Go.RowKit Go.Maps

theorem flat_take (ys : List Th) (m : Nat) : (ys.map Th.cs).flatten.take (m * 2) = ((ys.take m).map Th.cs).flatten := by
  induction ys generalizing m with
  | nil => simp
  | cons y ys ih =>
    cases m with
    | zero => simp
    | succ m =>
      rw [List.map_cons, List.flatten_cons, List.take_succ_cons, List.map_cons, List.flatten_cons, ← ih m, show (m + 1) * 2 = (Th.cs y).length + m * 2 by simp [Th.cs]; omega, List.take_append, List.take_of_length_le (by omega), Nat.add_sub_cancel_left]
theorem owns_take {w : World} {base b n cap m : Nat} {e : TypeId} {ys : List Th} (h : w.ownsRow base e 2 (.slice (some ⟨b, 0, none⟩) n cap) n (ys.map Th.cs).flatten) (hm : m ≤ n) : w.ownsRow base e 2 (.slice (some ⟨b, 0, none⟩) m cap) m ((ys.take m).map Th.cs).flatten := by
  have hl := owns_of_cells h
  refine ⟨by rw [flat_len _ (wideT _), List.length_map, List.length_take, hl, Nat.min_eq_left hm], ?_⟩
  rcases h.2 with ⟨h1, _⟩ | ⟨b', cap', cur, hv, hb, hg, h1, h2, h3, h4⟩
  · cases h1
  · cases hv
    refine .inr ⟨b, cap, cur, rfl, hb, hg, by omega, h2, h3, ?_⟩
    rw [← flat_take, ← h4, List.take_take, Nat.min_eq_left (by omega)]
theorem Plc.cut {D : DataW Unit} {ys : List Th} (h : Plc D ys) (td : Tidy D) (ow : Own ys) {l : Nat} {t : Th} (hl : l + 1 = ys.length) (ht : ys[l]? = some t) : Plc (D.del (.int .i64 t.id)) (ys.take l) := by
  have hs := size_del (D := D) (k := .int .i64 t.id) td
  rw [if_pos (has_mem h ht)] at hs
  have e : ys = ys.take l ++ [t] := by
    have h4 := List.take_add_one (l := ys) (i := l)
    rw [ht, List.take_of_length_le (by omega)] at h4
    exact h4
  have far : ∀ s ∈ ys.take l, s.id ≠ t.id := fun s hs' e2 => by
    rw [e] at ow
    have := (List.pairwise_append.mp ow).2.2 s hs' t (by simp)
    exact this e2
  refine ⟨?_, fun id => ?_, fun i s hs' => ?_⟩
  · rw [List.length_take]
    have := h.size
    omega
  · by_cases q : id = t.id
    · subst q
      rw [has_del_same]
      exact ⟨(fun z => absurd z (by simp)), (fun ⟨s, h1, h2⟩ => absurd h2 (far s h1))⟩
    · rw [has_del_other (key_ne q), h.has id]
      constructor
      · rintro ⟨s, h1, h2⟩
        rw [e] at h1
        rcases List.mem_append.mp h1 with h3 | h3
        · exact ⟨s, h3, h2⟩
        · simp at h3
          exact absurd (by rw [← h2, h3]) q
      · rintro ⟨s, h1, h2⟩
        exact ⟨s, List.mem_of_mem_take h1, h2⟩
  · have hm := List.mem_of_getElem? hs'
    rw [atKey_del_other (key_ne (far s hm))]
    rw [List.getElem?_take] at hs'
    split at hs'
    · exact h.at' i s hs'
    · cases hs'
/-- 'clear' of one thing -/
theorem clear_one (w : World) (ty : TypeId) (b o c : Nat) (hc : ∀ j, j < 2 → (w.cell? ⟨b, o + j, none⟩).isSome = true) (hf : ∀ j, j < 2 → w.frozen? ⟨b, o + j, none⟩ = false) :
    (Builtin.clear_ #[51] ty #[.slice (some ⟨b, o, none⟩) 1 c]).run Try.prog w = .ok (.tuple #[]) ((w.setCell ⟨b, o, none⟩ (.int .i64 0)).setCell ⟨b, o + 1, none⟩ (.int .i64 0)) := by
  have hst := run_storeCells_cells (P := Try.prog) b o [.int .i64 0, .int .i64 0] 0 w (by simpa using hc) (by simpa using hf) (by intro v hv; simp at hv; rw [hv]; rfl)
  simp only [Nat.add_zero] at hst
  have hz : (Builtin.zeroCells (Value.agg #[.int .i64 0, .int .i64 0]).cells 1).toList = [.int .i64 0, .int .i64 0] := by kernel_rfl
  simp [Builtin.clear_, run_underlying Try.underlying51, hz, hst]
  rfl
theorem HS.keeps {G : Nat → Prop} {w w' : World} {g b n cap m : Nat} {xs : List Th} (h : HS w g (.slice (some ⟨b, 0, none⟩) n cap) m xs) (k : Keeps G w w') (hG : ∀ k, HF g (.slice (some ⟨b, 0, none⟩) n cap) m k → ¬ G k) : HS w' g (.slice (some ⟨b, 0, none⟩) n cap) m xs := by
  obtain ⟨D, hD, hP⟩ := h.map
  exact ⟨h.blk.keeps k (hG _ (.inl rfl)), owns_keeps h.row k (fun x e => hG _ (.inr (.inr e))), ⟨D, hD.keeps k (hG _ (.inr (.inl rfl))), hP⟩, h.ids, h.rng, h.len⟩
theorem keeps2n {F : Nat → Prop} {w W : World} {g : Nat} {u v : Value} (h : Keeps F w W) (hg : w.heap.size ≤ g) : Keeps F w ((W.setCell ⟨g, 0, none⟩ u).setCell ⟨g, 1, none⟩ v) := (h.set (.inr hg) _ _).set (.inr hg) _ _
theorem keeps2g {W : World} {g : Nat} {u v : Value} : Keeps (fun k => k = g) W ((W.setCell ⟨g, 0, none⟩ u).setCell ⟨g, 1, none⟩ v) := ((Keeps.refl (fun k => k = g) W).set (.inl rfl) _ _).set (.inl rfl) _ _
/-- what was taken; what is left -/
def Took (g b n cap m : Nat) (xs : List Th) (x : Th) (w : World) (e : Ending) (w' : World) : Prop := e = .returned (.agg #[.int .i64 x.id, .int .i64 x.x]) ∧ ∃ ys : List Th, Hq ys ∧ xs.Perm (x :: ys) ∧ HS w' g (.slice (some ⟨b, 0, none⟩) ys.length cap) m ys ∧ Keeps (HF g (.slice (some ⟨b, 0, none⟩) n cap) m) w w'
set_option maxRecDepth 20000 in
set_option maxHeartbeats 4000000 in
theorem take_any (g b n cap m i : Nat) (xs : List Th) (x : Th) (w : World) (hn : xs.length = n) (h : HS w g (.slice (some ⟨b, 0, none⟩) n cap) m xs) (hx : xs[i]? = some x) (hq : Hq xs) :
    Calls Try.prog 26 #[.pointer (some ⟨g, 0, none⟩), .int .i64 i] w (Took g b n cap m xs x w) := by
  have H := Lib.hid h
  have LN := Lib.hid hn
  have HQ := Lib.hid hq
  have X := Lib.hid hx
  have nl := h.len
  rw [hn] at nl
  have hi := lt_at hx
  rw [hn] at hi
  obtain ⟨l, hl⟩ : ∃ l, n = l + 1 := ⟨n - 1, by omega⟩
  subst hl
  obtain ⟨y, hy⟩ := getX hn (show l < l + 1 by omega)
  have Y := Lib.hid hy
  have H1 := Lib.hid (show HS (w.alloc (.cells #[.int .i64 0, .int .i64 0] 57)) g (.slice (some ⟨b, 0, none⟩) (l + 1) cap) m xs from ⟨h.blk.alloc _, h.row.alloc _, (by obtain ⟨D, hD, hP⟩ := h.map; exact ⟨D, World.ownsMap.alloc hD _, hP⟩), h.ids, h.rng, h.len⟩)
  have r1 : _ = some _ := H1.out.blk.cell 1
  simp [HV] at r1
  have l0 : 0 ≤ (l : Int) := by omega
  have l1 : (l : Int) < ((l + 1 : Nat) : Int) := by omega
  have l2 : ((l + 1 : Nat) : Int) - 1 = (l : Int) := by omega
  have G0 := Lib.hid (Blk.new w 57 #[.int .i64 0, .int .i64 0])
  have gw := h.blk.lt
  have bw0 : b < w.heap.size := (h.row.lt b rfl).2
  have mw : m < w.heap.size := by
    obtain ⟨D, ⟨es, clock, hb, _⟩, _⟩ := h.map
    exact (Array.getElem?_eq_some_iff.1 hb).1
  have notF : ∀ k, w.heap.size ≤ k → ¬ HF g (.slice (some ⟨b, 0, none⟩) (l + 1) cap) m k := fun k hk q => by
    rcases q with e | e | e
    · omega
    · omega
    · simp [Value.ownBlock] at e; omega
  have NF := Lib.hid notF
  clear h hn hq hx hy notF
  go_enter Try.func26, Try.ntmps26
  go_wp2_with fail
  refine (swap_n g b (l + 1) cap m i l xs x y _ LN.out H1.out X.out Y.out).mono ?_
  rintro e w2 ⟨rfl, ht2⟩
  have T2 := Lib.hid ht2
  clear ht2
  have LY := Lib.hid (show (swp xs i l).length = l + 1 by rw [swp_len]; exact LN.out)
  have AP := Lib.hid T2.out.1.apart
  have RW := Lib.hid (show w2.ownsRow 0 57 2 (.slice (some ⟨b, 0, none⟩) (l + 1) cap) (l + 1) ((swp xs i l).map Th.cs).flatten by have := T2.out.1.row; rw [LY.out] at this; exact this)
  have cl : l + 1 ≤ cap := by
    rcases RW.out.2 with ⟨h1, _⟩ | ⟨b', cap', cur, hv, _, _, h1, _⟩
    · cases h1
    · cases hv; exact h1
  have cm : cap ≤ 9223372036854775807 := by
    rcases RW.out.2 with ⟨h1, _⟩ | ⟨b', cap', cur, hv, _, _, _, h1, _⟩
    · cases h1
    · cases hv; unfold maxLen at h1; omega
  have YX := Lib.hid (swp_j X.out Y.out)
  have XA := Lib.hid (owns_at RW.out YX.out)
  have r1 : _ = some _ := T2.out.1.blk.cell 1
  have r2 : _ = some _ := T2.out.1.blk.cell 2
  simp [HV] at r1 r2
  have x0 := XA.out.c0
  have x1 := XA.out.c1
  have fz : ∀ o, w2.frozen? ⟨b, o, none⟩ = false := fun o => RW.out.frozenAt o
  have c1 : ¬ cap = l := by omega
  have c2 : ¬ cap - l = 0 := by omega
  obtain ⟨W3, hW3⟩ : ∃ W3, w2.alloc (.cells #[.int .i64 x.id, .int .i64 x.x] 57) = W3 := ⟨_, rfl⟩
  have K3 := Lib.hid (show Below w2.heap.size w2 W3 by rw [← hW3]; exact wbox _ _)
  have BX := Lib.hid (show Blk W3 57 w2.heap.size #[.int .i64 x.id, .int .i64 x.x] by rw [← hW3]; exact Blk.new _ _ _)
  have R3 := Lib.hid (owns_below RW.out K3.out)
  have B3 := Lib.hid (T2.out.1.blk.below K3.out)
  have XA3 := Lib.hid (owns_at R3.out YX.out)
  have r3 : _ = some _ := B3.out.cell 1
  have r4 : _ = some _ := B3.out.cell 2
  simp [HV] at r3 r4
  have x2 := XA3.out.c0
  have x3 := XA3.out.c1
  have fz3 : ∀ o, W3.frozen? ⟨b, o, none⟩ = false := fun o => R3.out.frozenAt o
  obtain ⟨W4, hW4⟩ : ∃ W4, (W3.setCell ⟨b, l * 2, none⟩ (.int .i64 0)).setCell ⟨b, l * 2 + 1, none⟩ (.int .i64 0) = W4 := ⟨_, rfl⟩
  have hcl : ∀ ty, (Builtin.clear_ #[51] ty #[.slice (some ⟨b, l * 2, none⟩) 1 (cap - l)]).run Try.prog W3 = .ok (.tuple #[]) W4 := fun ty => by
    rw [← hW4]
    refine clear_one W3 ty b (l * 2) _ (fun j hj => ?_) (fun j _ => fz3 _)
    rcases (show j = 0 ∨ j = 1 by omega) with e | e
    · subst e; rw [Nat.add_zero, x2]; rfl
    · subst e; rw [x3]; rfl
  have K4 := Lib.hid (show Keeps (fun k => k = b) w2 W4 by rw [← hW4]; exact ((Keeps.of (F := fun k => k = b) K3.out).set (.inl rfl) _ _).set (.inl rfl) _ _)
  have R4 := Lib.hid (show W4.ownsRow 0 57 2 (.slice (some ⟨b, 0, none⟩) l cap) l (((swp xs i l).take l).map Th.cs).flatten by
    have := owns_take (m := l) (owns_put R3.out l t0 (by rw [LY.out]; omega)) (by omega)
    rw [List.take_set_of_le (by omega)] at this
    rw [← hW4]; exact this)
  have B4 := Lib.hid (T2.out.1.blk.keeps K4.out (fun e => AP.out.1 e.symm))
  have bw : b < w2.heap.size := (RW.out.lt b rfl).2
  have BX4 := Lib.hid (BX.out.keeps (show Keeps (fun k => k = b) W3 W4 by rw [← hW4]; exact ((Keeps.refl (fun k => k = b) W3).set (.inl rfl) _ _).set (.inl rfl) _ _) (by omega))
  clear hW4
  have r5 : _ = some _ := B4.out.cell 1
  have r6 : _ = some _ := B4.out.cell 2
  simp [HV] at r5 r6
  have r7 := B4.out.free 1
  have hz2 : w.heap.size ≤ w2.heap.size := by have := T2.out.2.size; simp at this; omega
  have G2 := Lib.hid (G0.out.keeps T2.out.2 (NF.out _ (Nat.le_refl _)))
  have G4 := Lib.hid (G2.out.keeps K4.out (by omega))
  obtain ⟨D, hD, hP⟩ := T2.out.1.map
  have M4 := Lib.hid (hD.keeps K4.out AP.out.2.2)
  have TD := Lib.hid (hD.tidy keyI)
  have PL := Lib.hid hP
  clear hD hP
  go_wp2_with fail
  obtain ⟨W5, hW5⟩ : ∃ W5, W4.setCell ⟨g, 1, none⟩ (.slice (some ⟨b, 0, none⟩) l cap) = W5 := ⟨_, rfl⟩
  rw [hW5]
  have K5 := Lib.hid (show Keeps (fun k => k = g) W4 W5 by rw [← hW5]; exact (Keeps.refl (fun k => k = g) W4).set (.inl rfl) _ _)
  have B5 := Lib.hid (show Blk W5 54 g (HV (.slice (some ⟨b, 0, none⟩) l cap) m false) by rw [← hW5]; exact B4.out.setB 1 _)
  have R5 := Lib.hid (owns_keeps R4.out K5.out (fun k e => by cases e; exact AP.out.1))
  have M5 := Lib.hid (M4.out.keeps K5.out AP.out.2.1)
  have BX5 := Lib.hid (BX4.out.keeps K5.out (by omega))
  have G5 := Lib.hid (G4.out.keeps K5.out (by omega))
  clear hW5 r1 r2 r3 r4 r5 r6 r7 x0 x1 x2 x3 fz fz3 hcl
  have q2 : _ = some _ := B5.out.cell 2
  have q3 : _ = some _ := BX5.out.cell 0
  simp [HV] at q2 q3
  go_still_tail 6, (by kernel_rfl)
  have RX := Lib.hid (H.out.rng x (List.mem_of_getElem? X.out))
  refine wpList_delete_own _ rfl _ _ 52 3 rfl 3 keyI Try.underlying52 (plainElem Try.prog 3) m (Maps.size D) D rfl M5.out.drew _ (.int .i64 x.id) rfl (Maps.keyOf_int_mk Try.underlying3 (wf_i64 RX.out)) ?_
  intro W6 hown6 hturn6
  have M6 := Lib.hid (MapP.of hown6)
  have K6 := Lib.hid ((Keeps.of (F := fun k => k = m) ((Below.refl W5.heap.size W5).drew)).grown hturn6.grown (fun k e => .inl (by cases e; rfl)))
  clear hown6 hturn6 q2 q3
  have B6 := Lib.hid (B5.out.keeps K6.out (fun e => AP.out.2.1 e.symm))
  have R6 := Lib.hid (owns_keeps R5.out K6.out (fun k e => by cases e; exact fun e => AP.out.2.2 e.symm))
  have BX6 := Lib.hid (BX5.out.keeps K6.out (by omega))
  have G6 := Lib.hid (G5.out.keeps K6.out (by omega))
  have PM := Lib.hid (take_perm (xs := xs) (i := i) (l := l) (by rw [LN.out]) X.out Y.out)
  have OW := Lib.hid (H.out.ids.perm (swp_perm X.out Y.out).symm)
  have LT := Lib.hid (show ((swp xs i l).take l).length = l by rw [List.length_take, LY.out]; omega)
  have H6 := Lib.hid (show HS W6 g (.slice (some ⟨b, 0, none⟩) l cap) m ((swp xs i l).take l) from
    ⟨B6.out, by rw [LT.out]; exact R6.out, ⟨_, M6.out, PL.out.cut TD.out OW.out (by rw [LY.out]) YX.out⟩, (by
      have := H.out.ids.perm PM.out
      exact (List.pairwise_cons.mp this).2), fun t ht => H.out.rng t (PM.out.mem_iff.mpr (List.mem_cons_of_mem _ ht)), by rw [LT.out]; omega⟩)
  have KA := Lib.hid (show Keeps (HF g (.slice (some ⟨b, 0, none⟩) (l + 1) cap) m) w W6 from
    (((((Keeps.of (F := HF g (.slice (some ⟨b, 0, none⟩) (l + 1) cap) m) (wbox w (.cells #[.int .i64 0, .int .i64 0] 57))).trans T2.out.2 (fun _ q => .inl q)).trans (keepsF K4.out (F := HF g (.slice (some ⟨b, 0, none⟩) (l + 1) cap) m) (fun k e => .inr (.inr (by rw [e]; rfl)))) (fun _ q => .inl q)).trans (keepsF K5.out (F := HF g (.slice (some ⟨b, 0, none⟩) (l + 1) cap) m) (fun k e => .inl e)) (fun _ q => .inl q)).trans (keepsF K6.out (F := HF g (.slice (some ⟨b, 0, none⟩) (l + 1) cap) m) (fun k e => .inr (.inl e))) (fun _ q => .inl q)))
  clear K3 K4 K5 K6 BX BX4 BX5 G0 G2 G4 G5 B3 B4 B5 B6 R3 R4 R5 R6 M4 M5 M6 RW XA XA3 T2 PL TD
  have z0 : _ = some _ := BX6.out.cell 0
  have z1 : _ = some _ := BX6.out.cell 1
  have y0 : _ = some _ := G6.out.cell 0
  have y1 : _ = some _ := G6.out.cell 1
  have y2 : ∀ o, W6.frozen? ⟨w.heap.size, o, none⟩ = false := fun o => G6.out.free o
  simp at z0 z1 y0 y1
  by_cases il : i < l
  · have t1 : decide (i < l) = true := decide_eq_true il
    have t2 : decide ((i : Int) < (l : Int)) = true := decide_eq_true (by omega)
    have MD := Lib.hid (HQ.out.cut (i := i) (l := l) (by rw [LN.out]) X.out Y.out)
    go_wp2_with fail
    refine (rise_any g b l cap m i _ _ LT.out H6.out il MD.out).mono ?_
    rintro e w7 ⟨rfl, ys, hp, hd, ht⟩
    have P7 := Lib.hid hp
    have D7 := Lib.hid hd
    have T7 := Lib.hid ht
    have L7 := Lib.hid (show ys.length = l by rw [hp.length_eq]; exact LT.out)
    clear hp hd ht
    go_wp2_with fail
    refine (sink_any g b l cap m i ys _ L7.out T7.out.1 il D7.out).mono ?_
    rintro e w8 ⟨rfl, zs, hp, hq, ht⟩
    have P8 := Lib.hid (hp.trans P7.out)
    have Q8 := Lib.hid hq
    have T8 := Lib.hid ht
    have L8 := Lib.hid (show zs.length = l by rw [hp.length_eq]; exact L7.out)
    clear hp hq ht z0 z1 y0 y1 y2
    have G8 := Lib.hid ((G6.out.keeps T7.out.2 (NF.out _ (Nat.le_refl _))).keeps T8.out.2 (NF.out _ (Nat.le_refl _)))
    have BX8 := Lib.hid ((BX6.out.keeps T7.out.2 (NF.out _ hz2)).keeps T8.out.2 (NF.out _ hz2))
    have KB := Lib.hid (show Keeps (HF g (.slice (some ⟨b, 0, none⟩) (l + 1) cap) m) w w8 from (KA.out.trans (keepsF T7.out.2 (F := HF g (.slice (some ⟨b, 0, none⟩) (l + 1) cap) m) (fun _ q => q)) (fun _ q => .inl q)).trans (keepsF T8.out.2 (F := HF g (.slice (some ⟨b, 0, none⟩) (l + 1) cap) m) (fun _ q => q)) (fun _ q => .inl q))
    have z0 : _ = some _ := BX8.out.cell 0
    have z1 : _ = some _ := BX8.out.cell 1
    have y0 : _ = some _ := G8.out.cell 0
    have y1 : _ = some _ := G8.out.cell 1
    have y2 : ∀ o, w8.frozen? ⟨w.heap.size, o, none⟩ = false := fun o => G8.out.free o
    simp at z0 z1 y0 y1
    go_wp2
    exact bodyPost_ret (v := .agg #[.int .i64 x.id, .int .i64 x.x]) (by simp [results, Try.results26, go_sem, y0, y1]) rfl ⟨rfl, _, Q8.out, PM.out.trans (List.Perm.cons _ P8.out.symm), by rw [L8.out]; exact T8.out.1.keeps keeps2g (fun k q e => NF.out k (by omega) q), keeps2n KB.out (Nat.le_refl _)⟩
  · have t1 : decide (i < l) = false := decide_eq_false il
    have t2 : decide ((i : Int) < (l : Int)) = false := decide_eq_false (by omega)
    have HE := Lib.hid (show Hq ((swp xs i l).take l) by
      have e : i = l := by omega
      have := X.out
      rw [e] at this ⊢
      have h2 := Y.out
      rw [this] at h2; cases h2
      have h3 : swp xs l l = xs := by
        rw [swp_is this this, List.set_set]
        exact List.ext_getElem? (fun k => by
          rw [List.getElem?_set]
          split
          · next e => subst e; rw [if_pos (lt_at this)]; exact this.symm
          · rfl)
      rw [h3]
      exact HQ.out.take l)
    go_wp2
    exact bodyPost_ret (v := .agg #[.int .i64 x.id, .int .i64 x.x]) (by simp [results, Try.results26, go_sem, y0, y1]) rfl ⟨rfl, _, HE.out, PM.out, by rw [LT.out]; exact H6.out.keeps keeps2g (fun k q e => NF.out k (by omega) q), keeps2n KA.out (Nat.le_refl _)⟩
end Go.Proofs.Ytimafmalfmeehaa
