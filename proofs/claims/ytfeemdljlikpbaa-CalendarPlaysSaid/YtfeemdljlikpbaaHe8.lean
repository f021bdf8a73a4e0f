/-
  Package heap as landed: take: contract.
-/
import Derived.Test.YtfeemdljlikpbaaHe7
import Derived.Lib.SliceRun
namespace Go.Proofs.Ytfeemdljlikpbaa
open Go.RowKit Go.Maps
variable {L : FuncId} {TT : TypeId} {ltb : Ev → Ev → Bool}

theorem flat_takeE (ys : List Te) (m : Nat) : (ys.map Te.cs).flatten.take (m * 4) = ((ys.take m).map Te.cs).flatten := by
  induction ys generalizing m with
  | nil => simp
  | cons y ys ih =>
    cases m with
    | zero => simp
    | succ m =>
      rw [List.map_cons, List.flatten_cons, List.take_succ_cons, List.map_cons, List.flatten_cons, ← ih m, show (m + 1) * 4 = (Te.cs y).length + m * 4 by simp [Te.cs]; omega, List.take_append, List.take_of_length_le (by omega), Nat.add_sub_cancel_left]
theorem owns_takeE {w : World} {base b n cap m : Nat} {e : TypeId} {ys : List Te} (h : w.ownsRow base e 4 (.slice (some ⟨b, 0, none⟩) n cap) n (ys.map Te.cs).flatten) (hm : m ≤ n) : w.ownsRow base e 4 (.slice (some ⟨b, 0, none⟩) m cap) m ((ys.take m).map Te.cs).flatten := by
  have hl := owns_of_cellsE h
  refine ⟨by rw [flat_len _ (wideTe _), List.length_map, List.length_take, hl, Nat.min_eq_left hm], ?_⟩
  rcases h.2 with ⟨h1, _⟩ | ⟨b', cap', cur, hv, hb, hg, h1, h2, h3, h4⟩
  · cases h1
  · cases hv
    refine .inr ⟨b, cap, cur, rfl, hb, hg, by omega, h2, h3, ?_⟩
    rw [← flat_takeE, ← h4, List.take_take, Nat.min_eq_left (by omega)]
theorem PlcE.cut {D : DataW Unit} {ys : List Te} (h : PlcE D ys) (td : Tidy D) (ow : OwnE ys) {l : Nat} {t : Te} (hl : l + 1 = ys.length) (ht : ys[l]? = some t) : PlcE (D.del (.int .i64 t.n)) (ys.take l) := by
  have hs := size_del (D := D) (k := .int .i64 t.n) td
  rw [if_pos (has_memE h ht)] at hs
  have e : ys = ys.take l ++ [t] := by
    have h4 := List.take_add_one (l := ys) (i := l)
    rw [ht, List.take_of_length_le (by omega)] at h4
    exact h4
  have far : ∀ s ∈ ys.take l, s.n ≠ t.n := fun s hs' e2 => by
    rw [e] at ow
    have := (List.pairwise_append.mp ow).2.2 s hs' t (by simp)
    exact this e2
  refine ⟨?_, fun id => ?_, fun i s hs' => ?_⟩
  · rw [List.length_take]
    have := h.size
    omega
  · by_cases q : id = t.n
    · subst q
      rw [has_del_same]
      exact ⟨(fun z => absurd z (by simp)), (fun ⟨s, h1, h2⟩ => absurd h2 (far s h1))⟩
    · rw [has_del_other (key_neE q), h.has id]
      constructor
      · rintro ⟨s, h1, h2⟩
        rw [e] at h1
        rcases List.mem_append.mp h1 with h3 | h3
        · exact ⟨s, h3, h2⟩
        · simp at h3
          exact absurd (by rw [← h2, h3]) q
      · rintro ⟨s, h1, h2⟩
        exact ⟨s, List.mem_of_mem_take h1, h2⟩
  · have hm := List.mem_of_getElem? hs'
    rw [atKey_del_other (key_neE (far s hm))]
    rw [List.getElem?_take] at hs'
    split at hs'
    · exact h.at' i s hs'
    · cases hs'
/-- 'clear' of one thing -/
theorem clear_oneE (w : World) (ty : TypeId) (b k c : Nat) (hc : ∀ j, j < 4 → (w.cell? ⟨b, k * 4 + j, none⟩).isSome = true) (hf : ∀ j, j < 4 → w.frozen? ⟨b, k * 4 + j, none⟩ = false) :
    (Builtin.clear_ #[68] ty #[.slice (some ⟨b, k * 4, none⟩) 1 c]).run Try.prog w = .ok (.tuple #[]) (putE w b k te0) := by
  have hst := run_storeCells_cells (P := Try.prog) b (k * 4) [.int .i64 0, .int .i64 0, .int .i64 0, .int .i64 0] 0 w (by simpa using hc) (by simpa using hf) (by intro v hv; simp at hv; rw [hv]; rfl)
  simp only [Nat.add_zero] at hst
  have hz : (Builtin.zeroCells (Value.agg #[.int .i64 0, .int .i64 0, .int .i64 0, .int .i64 0]).cells 1).toList = [.int .i64 0, .int .i64 0, .int .i64 0, .int .i64 0] := by kernel_rfl
  simp [Builtin.clear_, run_underlying Try.underlying68, hz, hst]
  rfl
theorem HSE.keeps {G : Nat → Prop} {w w' : World} {g b n cap m : Nat} {xs : List Te} (h : HSE L TT w g (.slice (some ⟨b, 0, none⟩) n cap) m xs) (k : Keeps G w w') (hG : ∀ k, HFE g (.slice (some ⟨b, 0, none⟩) n cap) m k → ¬ G k) : HSE L TT w' g (.slice (some ⟨b, 0, none⟩) n cap) m xs := by
  obtain ⟨D, hD, hP⟩ := h.map
  exact ⟨h.blk.keeps k (hG _ (.inl rfl)), owns_keeps h.row k (fun x e => hG _ (.inr (.inr e))), ⟨D, hD.keeps k (hG _ (.inr (.inl rfl))), hP⟩, h.ids, h.rng, h.len, h.typ⟩
theorem keeps2nE {F : Nat → Prop} {w W : World} {g : Nat} {t u v x : Value} (h : Keeps F w W) (hg : w.heap.size ≤ g) : Keeps F w ((((W.setCell ⟨g, 0, none⟩ t).setCell ⟨g, 1, none⟩ u).setCell ⟨g, 2, none⟩ v).setCell ⟨g, 3, none⟩ x) := (((h.set (.inr hg) _ _).set (.inr hg) _ _).set (.inr hg) _ _).set (.inr hg) _ _
theorem keeps2gE {W : World} {g : Nat} {t u v x : Value} : Keeps (fun k => k = g) W ((((W.setCell ⟨g, 0, none⟩ t).setCell ⟨g, 1, none⟩ u).setCell ⟨g, 2, none⟩ v).setCell ⟨g, 3, none⟩ x) := ((((Keeps.refl (fun k => k = g) W).set (.inl rfl) _ _).set (.inl rfl) _ _).set (.inl rfl) _ _).set (.inl rfl) _ _
/-- what was taken; what is left -/
def TookE (L : FuncId) (TT : TypeId) (ltb : Ev → Ev → Bool) (g b n cap m : Nat) (xs : List Te) (x : Te) (w : World) (e : Ending) (w' : World) : Prop := e = .returned (.agg #[.int .i64 x.n, .int .i64 x.e.d, .int .i64 x.e.i, .int .i64 x.e.k]) ∧ ∃ ys : List Te, HqE ltb ys ∧ xs.Perm (x :: ys) ∧ HSE L TT w' g (.slice (some ⟨b, 0, none⟩) ys.length cap) m ys ∧ Keeps (HFE g (.slice (some ⟨b, 0, none⟩) n cap) m) w w'
set_option maxRecDepth 20000 in
set_option maxHeartbeats 4000000 in
theorem take_anyE [Nonempty (OrdE ltb)] (ok : LessE L ltb) (g b n cap m i : Nat) (xs : List Te) (x : Te) (w : World) (hn : xs.length = n) (h : HSE L TT w g (.slice (some ⟨b, 0, none⟩) n cap) m xs) (hx : xs[i]? = some x) (hq : HqE ltb xs) :
    Calls Try.prog 36 #[.pointer (some ⟨g, 0, none⟩), .int .i64 i] w (TookE L TT ltb g b n cap m xs x w) := by
  have OK := Lib.hid ok
  have H := Lib.hid h
  have LN := Lib.hid hn
  have HQ := Lib.hid hq
  have X := Lib.hid hx
  have nl := h.len
  rw [hn] at nl
  have hi := lt_atE hx
  rw [hn] at hi
  obtain ⟨l, hl⟩ : ∃ l, n = l + 1 := ⟨n - 1, by omega⟩
  subst hl
  obtain ⟨y, hy⟩ := getXE hn (show l < l + 1 by omega)
  have Y := Lib.hid hy
  have H1 := Lib.hid (show HSE L TT (w.alloc (.cells #[.int .i64 0, .int .i64 0, .int .i64 0, .int .i64 0] 73)) g (.slice (some ⟨b, 0, none⟩) (l + 1) cap) m xs from ⟨h.blk.alloc _, h.row.alloc _, (by obtain ⟨D, hD, hP⟩ := h.map; exact ⟨D, World.ownsMap.alloc hD _, hP⟩), h.ids, h.rng, h.len, h.typ⟩)
  have r1 : _ = some _ := H1.out.blk.cell 1
  simp [HVE] at r1
  have l0 : 0 ≤ (l : Int) := by omega
  have l1 : (l : Int) < ((l + 1 : Nat) : Int) := by omega
  have l2 : ((l + 1 : Nat) : Int) - 1 = (l : Int) := by omega
  have G0 := Lib.hid (Blk.new w 73 #[.int .i64 0, .int .i64 0, .int .i64 0, .int .i64 0])
  have gw := h.blk.lt
  have bw0 : b < w.heap.size := (h.row.lt b rfl).2
  have mw : m < w.heap.size := by
    obtain ⟨D, ⟨es, clock, hb, _⟩, _⟩ := h.map
    exact (Array.getElem?_eq_some_iff.1 hb).1
  have notF : ∀ k, w.heap.size ≤ k → ¬ HFE g (.slice (some ⟨b, 0, none⟩) (l + 1) cap) m k := fun k hk q => by
    rcases q with e | e | e
    · omega
    · omega
    · simp [Value.ownBlock] at e; omega
  have NF := Lib.hid notF
  clear h hn hq hx hy notF ok
  go_enter Try.func36, Try.ntmps36
  go_wp2_with fail
  refine (swap_nE g b (l + 1) cap m i l xs x y _ LN.out H1.out X.out Y.out).mono ?_
  rintro e w2 ⟨rfl, ht2⟩
  have T2 := Lib.hid ht2
  clear ht2
  have LY := Lib.hid (show (swpE xs i l).length = l + 1 by rw [swp_lenE]; exact LN.out)
  have AP := Lib.hid T2.out.1.apart
  have RW := Lib.hid (show w2.ownsRow 0 73 4 (.slice (some ⟨b, 0, none⟩) (l + 1) cap) (l + 1) ((swpE xs i l).map Te.cs).flatten by have := T2.out.1.row; rw [LY.out] at this; exact this)
  have cl : l + 1 ≤ cap := by
    rcases RW.out.2 with ⟨h1, _⟩ | ⟨b', cap', cur, hv, _, _, h1, _⟩
    · cases h1
    · cases hv; exact h1
  have cm : cap ≤ 9223372036854775807 := by
    rcases RW.out.2 with ⟨h1, _⟩ | ⟨b', cap', cur, hv, _, _, _, h1, _⟩
    · cases h1
    · cases hv; unfold maxLen at h1; omega
  have YX := Lib.hid (swp_jE X.out Y.out)
  have XA := Lib.hid (owns_atE RW.out YX.out)
  have r1 : _ = some _ := T2.out.1.blk.cell 1
  have r2 : _ = some _ := T2.out.1.blk.cell 2
  simp [HVE] at r1 r2
  have xa0 := XA.out.c0
  have xa1 := XA.out.c1
  have xa2 := XA.out.c2
  have xa3 := XA.out.c3
  have fz : ∀ o, w2.frozen? ⟨b, o, none⟩ = false := fun o => RW.out.frozenAt o
  have c1 : ¬ cap = l := by omega
  have c2 : ¬ cap - l = 0 := by omega
  obtain ⟨W3, hW3⟩ : ∃ W3, w2.alloc (.cells #[.int .i64 x.n, .int .i64 x.e.d, .int .i64 x.e.i, .int .i64 x.e.k] 73) = W3 := ⟨_, rfl⟩
  have K3 := Lib.hid (show Below w2.heap.size w2 W3 by rw [← hW3]; exact wbox _ _)
  have BX := Lib.hid (show Blk W3 73 w2.heap.size #[.int .i64 x.n, .int .i64 x.e.d, .int .i64 x.e.i, .int .i64 x.e.k] by rw [← hW3]; exact Blk.new _ _ _)
  have R3 := Lib.hid (owns_below RW.out K3.out)
  have B3 := Lib.hid (T2.out.1.blk.below K3.out)
  have XA3 := Lib.hid (owns_atE R3.out YX.out)
  have r3 : _ = some _ := B3.out.cell 1
  have r4 : _ = some _ := B3.out.cell 2
  simp [HVE] at r3 r4
  have xb0 := XA3.out.c0
  have xb1 := XA3.out.c1
  have xb2 := XA3.out.c2
  have xb3 := XA3.out.c3
  have fz3 : ∀ o, W3.frozen? ⟨b, o, none⟩ = false := fun o => R3.out.frozenAt o
  obtain ⟨W4, hW4⟩ : ∃ W4, putE W3 b l te0 = W4 := ⟨_, rfl⟩
  have hcl : ∀ ty, (Builtin.clear_ #[68] ty #[.slice (some ⟨b, l * 4, none⟩) 1 (cap - l)]).run Try.prog W3 = .ok (.tuple #[]) W4 := fun ty => by
    rw [← hW4]
    refine clear_oneE W3 ty b l _ (fun j hj => ?_) (fun j _ => fz3 _)
    rcases (show j = 0 ∨ j = 1 ∨ j = 2 ∨ j = 3 by omega) with e | e | e | e
    · subst e; rw [Nat.add_zero, xb0]; rfl
    · subst e; rw [xb1]; rfl
    · subst e; rw [xb2]; rfl
    · subst e; rw [xb3]; rfl
  have K4 := Lib.hid (show Keeps (fun k => k = b) w2 W4 by rw [← hW4]; exact keeps_putE (Keeps.of (F := fun k => k = b) K3.out))
  have R4 := Lib.hid (show W4.ownsRow 0 73 4 (.slice (some ⟨b, 0, none⟩) l cap) l (((swpE xs i l).take l).map Te.cs).flatten by
    have := owns_takeE (m := l) (owns_putE R3.out l te0 (by rw [LY.out]; omega)) (by omega)
    rw [List.take_set_of_le (by omega)] at this
    rw [← hW4]; exact this)
  have B4 := Lib.hid (T2.out.1.blk.keeps K4.out (fun e => AP.out.1 e.symm))
  have bw : b < w2.heap.size := (RW.out.lt b rfl).2
  have BX4 := Lib.hid (BX.out.keeps (show Keeps (fun k => k = b) W3 W4 by rw [← hW4]; exact keeps_putE (Keeps.refl (fun k => k = b) W3)) (by omega))
  clear hW4
  have r5 : _ = some _ := B4.out.cell 1
  have r6 : _ = some _ := B4.out.cell 2
  simp [HVE] at r5 r6
  have r7 := B4.out.free 1
  have hz2 : w.heap.size ≤ w2.heap.size := by have := T2.out.2.size; simp at this; omega
  have G2 := Lib.hid (G0.out.keeps T2.out.2 (NF.out _ (Nat.le_refl _)))
  have G4 := Lib.hid (G2.out.keeps K4.out (by omega))
  obtain ⟨D, hD, hP⟩ := T2.out.1.map
  have M4 := Lib.hid (hD.keeps K4.out AP.out.2.2)
  have TD := Lib.hid (hD.tidy keyIE)
  have PL := Lib.hid hP
  clear hD hP
  go_wp2_with fail
  obtain ⟨W5, hW5⟩ : ∃ W5, W4.setCell ⟨g, 1, none⟩ (.slice (some ⟨b, 0, none⟩) l cap) = W5 := ⟨_, rfl⟩
  rw [hW5]
  have K5 := Lib.hid (show Keeps (fun k => k = g) W4 W5 by rw [← hW5]; exact (Keeps.refl (fun k => k = g) W4).set (.inl rfl) _ _)
  have B5 := Lib.hid (show Blk W5 TT g (HVE L (.slice (some ⟨b, 0, none⟩) l cap) m false) by rw [← hW5]; exact B4.out.setBE 1 _)
  have R5 := Lib.hid (owns_keeps R4.out K5.out (fun k e => by cases e; exact AP.out.1))
  have M5 := Lib.hid (M4.out.keeps K5.out AP.out.2.1)
  have BX5 := Lib.hid (BX4.out.keeps K5.out (by omega))
  have G5 := Lib.hid (G4.out.keeps K5.out (by omega))
  clear hW5 r1 r2 r3 r4 r5 r6 r7 xa0 xa1 xa2 xa3 xb0 xb1 xb2 xb3 fz fz3 hcl
  have q2 : _ = some _ := B5.out.cell 2
  have q3 : _ = some _ := BX5.out.cell 0
  simp [HVE] at q2 q3
  go_still_tail 6, (by kernel_rfl)
  have RX := Lib.hid (H.out.rng x (List.mem_of_getElem? X.out))
  refine wpList_delete_own _ rfl _ _ 67 3 rfl 3 keyIE Try.underlying67 (plainElem Try.prog 3) m (Maps.size D) D rfl M5.out.drew _ (.int .i64 x.n) rfl (Maps.keyOf_int_mk Try.underlying3 (wf_i64E RX.out)) ?_
  intro W6 hown6 hturn6
  have M6 := Lib.hid (MapPE.of hown6)
  have K6 := Lib.hid ((Keeps.of (F := fun k => k = m) ((Below.refl W5.heap.size W5).drew)).grown hturn6.grown (fun k e => .inl (by cases e; rfl)))
  clear hown6 hturn6 q2 q3
  have B6 := Lib.hid (B5.out.keeps K6.out (fun e => AP.out.2.1 e.symm))
  have R6 := Lib.hid (owns_keeps R5.out K6.out (fun k e => by cases e; exact fun e => AP.out.2.2 e.symm))
  have BX6 := Lib.hid (BX5.out.keeps K6.out (by omega))
  have G6 := Lib.hid (G5.out.keeps K6.out (by omega))
  have PM := Lib.hid (take_permE (xs := xs) (i := i) (l := l) (by rw [LN.out]) X.out Y.out)
  have OW := Lib.hid (H.out.ids.perm (swp_permE X.out Y.out).symm)
  have LT := Lib.hid (show ((swpE xs i l).take l).length = l by rw [List.length_take, LY.out]; omega)
  have H6 := Lib.hid (show HSE L TT W6 g (.slice (some ⟨b, 0, none⟩) l cap) m ((swpE xs i l).take l) from
    ⟨B6.out, by rw [LT.out]; exact R6.out, ⟨_, M6.out, PL.out.cut TD.out OW.out (by rw [LY.out]) YX.out⟩, (by
      have := H.out.ids.perm PM.out
      exact (List.pairwise_cons.mp this).2), fun t ht => H.out.rng t (PM.out.mem_iff.mpr (List.mem_cons_of_mem _ ht)), by rw [LT.out]; omega, H.out.typ⟩)
  have KA := Lib.hid (show Keeps (HFE g (.slice (some ⟨b, 0, none⟩) (l + 1) cap) m) w W6 from
    (((((Keeps.of (F := HFE g (.slice (some ⟨b, 0, none⟩) (l + 1) cap) m) (wbox w (.cells #[.int .i64 0, .int .i64 0, .int .i64 0, .int .i64 0] 73))).trans T2.out.2 (fun _ q => .inl q)).trans (keepsFE K4.out (F := HFE g (.slice (some ⟨b, 0, none⟩) (l + 1) cap) m) (fun k e => .inr (.inr (by rw [e]; rfl)))) (fun _ q => .inl q)).trans (keepsFE K5.out (F := HFE g (.slice (some ⟨b, 0, none⟩) (l + 1) cap) m) (fun k e => .inl e)) (fun _ q => .inl q)).trans (keepsFE K6.out (F := HFE g (.slice (some ⟨b, 0, none⟩) (l + 1) cap) m) (fun k e => .inr (.inl e))) (fun _ q => .inl q)))
  clear K3 K4 K5 K6 BX BX4 BX5 G0 G2 G4 G5 B3 B4 B5 B6 R3 R4 R5 R6 M4 M5 M6 RW XA XA3 T2 PL TD
  have z0 : _ = some _ := BX6.out.cell 0
  have z1 : _ = some _ := BX6.out.cell 1
  have z2 : _ = some _ := BX6.out.cell 2
  have z3 : _ = some _ := BX6.out.cell 3
  have y0 : _ = some _ := G6.out.cell 0
  have y1 : _ = some _ := G6.out.cell 1
  have y2 : _ = some _ := G6.out.cell 2
  have y3 : _ = some _ := G6.out.cell 3
  have fz9 : ∀ o, W6.frozen? ⟨w.heap.size, o, none⟩ = false := fun o => G6.out.free o
  simp at z0 z1 z2 z3 y0 y1 y2 y3
  by_cases il : i < l
  · have t1 : decide (i < l) = true := decide_eq_true il
    have t2 : decide ((i : Int) < (l : Int)) = true := decide_eq_true (by omega)
    have MD := Lib.hid (HQ.out.cut (i := i) (l := l) (by rw [LN.out]) X.out Y.out)
    go_wp2_with fail
    refine (rise_anyE OK.out g b l cap m i _ _ LT.out H6.out il MD.out).mono ?_
    rintro e w7 ⟨rfl, ys, hp, hd, ht⟩
    have P7 := Lib.hid hp
    have D7 := Lib.hid hd
    have T7 := Lib.hid ht
    have L7 := Lib.hid (show ys.length = l by rw [hp.length_eq]; exact LT.out)
    clear hp hd ht
    go_wp2_with fail
    refine (sink_anyE OK.out g b l cap m i ys _ L7.out T7.out.1 il D7.out).mono ?_
    rintro e w8 ⟨rfl, zs, hp, hq, ht⟩
    have P8 := Lib.hid (hp.trans P7.out)
    have Q8 := Lib.hid hq
    have T8 := Lib.hid ht
    have L8 := Lib.hid (show zs.length = l by rw [hp.length_eq]; exact L7.out)
    clear hp hq ht z0 z1 z2 z3 y0 y1 y2 y3 fz9
    have G8 := Lib.hid ((G6.out.keeps T7.out.2 (NF.out _ (Nat.le_refl _))).keeps T8.out.2 (NF.out _ (Nat.le_refl _)))
    have BX8 := Lib.hid ((BX6.out.keeps T7.out.2 (NF.out _ hz2)).keeps T8.out.2 (NF.out _ hz2))
    have KB := Lib.hid (show Keeps (HFE g (.slice (some ⟨b, 0, none⟩) (l + 1) cap) m) w w8 from (KA.out.trans (keepsFE T7.out.2 (F := HFE g (.slice (some ⟨b, 0, none⟩) (l + 1) cap) m) (fun _ q => q)) (fun _ q => .inl q)).trans (keepsFE T8.out.2 (F := HFE g (.slice (some ⟨b, 0, none⟩) (l + 1) cap) m) (fun _ q => q)) (fun _ q => .inl q))
    have z0 : _ = some _ := BX8.out.cell 0
    have z1 : _ = some _ := BX8.out.cell 1
    have z2 : _ = some _ := BX8.out.cell 2
    have z3 : _ = some _ := BX8.out.cell 3
    have y0 : _ = some _ := G8.out.cell 0
    have y1 : _ = some _ := G8.out.cell 1
    have y2 : _ = some _ := G8.out.cell 2
    have y3 : _ = some _ := G8.out.cell 3
    have fz9 : ∀ o, w8.frozen? ⟨w.heap.size, o, none⟩ = false := fun o => G8.out.free o
    simp at z0 z1 z2 z3 y0 y1 y2 y3
    go_wp2
    exact bodyPost_ret (v := .agg #[.int .i64 x.n, .int .i64 x.e.d, .int .i64 x.e.i, .int .i64 x.e.k]) (by simp [results, Try.results36, go_sem, y0, y1, y2, y3]) rfl ⟨rfl, _, Q8.out, PM.out.trans (List.Perm.cons _ P8.out.symm), by rw [L8.out]; exact T8.out.1.keeps keeps2gE (fun k q e => NF.out k (by omega) q), keeps2nE KB.out (Nat.le_refl _)⟩
  · have t1 : decide (i < l) = false := decide_eq_false il
    have t2 : decide ((i : Int) < (l : Int)) = false := decide_eq_false (by omega)
    have HE := Lib.hid (show HqE ltb ((swpE xs i l).take l) by
      have e : i = l := by omega
      have := X.out
      rw [e] at this ⊢
      have h2 := Y.out
      rw [this] at h2; cases h2
      have h3 : swpE xs l l = xs := by
        rw [swp_isE this this, List.set_set]
        exact List.ext_getElem? (fun k => by
          rw [List.getElem?_set]
          split
          · next e => subst e; rw [if_pos (lt_atE this)]; exact this.symm
          · rfl)
      rw [h3]
      exact HQ.out.take l)
    go_wp2
    exact bodyPost_ret (v := .agg #[.int .i64 x.n, .int .i64 x.e.d, .int .i64 x.e.i, .int .i64 x.e.k]) (by simp [results, Try.results36, go_sem, y0, y1, y2, y3]) rfl ⟨rfl, _, HE.out, PM.out, by rw [LT.out]; exact H6.out.keeps keeps2gE (fun k q e => NF.out k (by omega) q), keeps2nE KA.out (Nat.le_refl _)⟩
end Go.Proofs.Ytfeemdljlikpbaa
