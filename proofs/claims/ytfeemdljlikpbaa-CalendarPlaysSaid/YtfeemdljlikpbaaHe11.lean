/-
  A heap of events: Push: contract.
-/
import Derived.Test.YtfeemdljlikpbaaHe10
import Derived.Deep.RegionLaw
namespace Go.Proofs.Ytfeemdljlikpbaa
open Go.RowKit Go.Maps
variable {L : FuncId} {TT : TypeId} {ltb : Ev → Ev → Bool}

theorem Try.infoEv : (Try.prog.info? 73).map (fun i => (i.zero, i.size, i.bytes)) = some (some (.agg #[.int .i64 0, .int .i64 0, .int .i64 0, .int .i64 0]), 4, 32) := by kernel_rfl
/-- append of one thing to a heap's row -/
theorem app_entE {w : World} {ops : Array Oper} {rest : List Oper} {o : Oper} {act : Act} {Q : Exit → Act → World → Prop} (hgd : o.guard = none) (s x : Operand)
    (ho : o.op = .call { callee := .builtin .append, args := #[s, x], argTypes := #[68, 68] }) (base : Nat)
    (v : Value) (ns : List Te) (hs : act.eval s = v) (hown : w.ownsRow base 73 4 v ns.length (ns.map Te.cs).flatten) (g : Nat) (e : Te) (hx : act.eval x = .slice (some ⟨g, 0, none⟩) 1 1)
    (hg : w.heap[g]? = some (.cells #[.int .i64 e.n, .int .i64 e.e.d, .int .i64 e.e.i, .int .i64 e.e.k] 73 (0, 0))) (hb : base ≤ w.heap.size) (hsm : ns.length ≤ 100000)
    (h : ∀ v' w', w'.ownsRow base 73 4 v' (ns.length + 1) ((ns ++ [e]).map Te.cs).flatten → w.grownBy w' v.ownBlock → (∃ g cap, v' = .slice (some ⟨g, 0, none⟩) (ns.length + 1) cap ∧ (v.ownBlock = some g ∨ g = w.heap.size)) → wpList Try.prog ops Q rest (act.put o.dst v') w') : wpList Try.prog ops Q (o :: rest) act w := by
  obtain ⟨i0, hi, hz0, hz1, hz2⟩ := info_parts Try.infoEv
  refine wpList_append_lies _ hgd s x _ ho base _ i0 _ 4 32 Try.underlying68 hi hz0 hz1 hz2 rfl (by decide) v _ _ hs hown ⟨g, 0, none⟩ 1 1 e.cs hx rfl (World.news_of_block (cs := #[.int .i64 e.n, .int .i64 e.e.d, .int .i64 e.e.i, .int .i64 e.e.k]) (t := 73) (fr := (0, 0)) hg) (by simp [Te.cs, Value.oneCell']) (by decide) (by unfold maxLen; omega) (by omega) hb w.heap.size rfl ?_
  intro g' cap w2 ho2 hg2 hl _
  refine h _ w2 ?_ hg2 ⟨g', cap, rfl, hl⟩
  rw [List.map_append, List.flatten_append]
  simpa using ho2
theorem PlcE.push {D : DataW Unit} {xs : List Te} (h : PlcE D xs) (td : Tidy D) {t : Te} (hn : ∀ s ∈ xs, s.n ≠ t.n) : PlcE (D.put (.int .i64 t.n) (.lit (.int .i64 xs.length))) (xs ++ [t]) := by
  have hg := h.gone hn
  refine ⟨?_, fun id => ?_, fun i s hs => ?_⟩
  · rw [size_put td, hg, List.length_append, h.size]
    simp
  · by_cases e : id = t.n
    · subst e
      rw [has_put_same td.isMap (isKE _)]
      exact ⟨fun _ => ⟨t, by simp, rfl⟩, fun _ => rfl⟩
    · rw [has_put_other (key_neE e), h.has id]
      constructor
      · rintro ⟨s, h1, h2⟩
        exact ⟨s, List.mem_append_left _ h1, h2⟩
      · rintro ⟨s, h1, h2⟩
        rcases List.mem_append.mp h1 with h3 | h3
        · exact ⟨s, h3, h2⟩
        · simp at h3
          exact absurd (by rw [← h2, h3]) e
  · by_cases e : i = xs.length
    · subst e
      rw [List.getElem?_append_right (Nat.le_refl _)] at hs
      simp at hs
      subst hs
      exact atKey_put_same td.isMap (isKE _) _ _
    · have hl := lt_atE hs
      rw [List.length_append, List.length_singleton] at hl
      rw [List.getElem?_append_left (by omega)] at hs
      rw [atKey_put_other (key_neE (hn s (List.mem_of_getElem? hs)))]
      exact h.at' i s hs
def PushedE (L : FuncId) (TT : TypeId) (ltb : Ev → Ev → Bool) (w : World) (g : Nat) (F : Nat → Prop) (ts : List Te) (id : Int) (x : Ev) (e : Ending) (w' : World) : Prop := ((∃ t ∈ ts, t.n = id) ∧ e = .returned (.bool false) ∧ Stay7E L TT ltb w g F ts w') ∨ ((∀ t ∈ ts, t.n ≠ id) ∧ e = .returned (.bool true) ∧ Stay7E L TT ltb w g F (ts ++ [⟨id, x⟩]) w')
set_option maxHeartbeats 2000000 in
theorem push_oldE (g : Nat) (v : Value) (m : Nat) (xs : List Te) (id : Int) (x : Ev) (w : World) (h : HSE L TT w g v m xs) (hr : InRE id) {t : Te} (ht : t ∈ xs) (e : t.n = id) :
    Calls Try.prog 32 #[.pointer (some ⟨g, 0, none⟩), .int .i64 id, .agg #[.int .i64 x.d, .int .i64 x.i, .int .i64 x.k]] w fun e w' => e = .returned (.bool false) ∧ Below w.heap.size w w' := by
  obtain ⟨W0, hW0⟩ : ∃ W0, w.alloc (.cells #[.int .i64 x.d, .int .i64 x.i, .int .i64 x.k] 31) = W0 := ⟨_, rfl⟩
  have B0 := Lib.hid (show Below w.heap.size w W0 by rw [← hW0]; exact wbox _ _)
  have H0 := h.below B0.out
  obtain ⟨D, hD, hP⟩ := H0.map
  have BK := Lib.hid H0.blk
  have c2 := H0.blk.cell 2
  simp [HVE] at c2
  have M := Lib.hid hD
  have R := Lib.hid hr
  have hh : Maps.has D (.int .i64 id) = true := (hP.has id).mpr ⟨t, ht, e⟩
  clear h hD hr hP ht e H0
  go_enter Try.func32, Try.ntmps32
  go_wp2_with fail
  refine (shut_noE g v m _ BK.out).mono ?_
  rintro e w1 ⟨rfl, rfl⟩
  go_wp2_with (at_lookup; refine wpList_lookup_own_ok_int _ rfl _ _ 67 rfl 3 3 .i64 keyIE Try.underlying67 Try.underlying3 (zeroIE _) m _ D rfl M.out _ _ rfl (Maps.keyOf_int_mk Try.underlying3 (wf_i64E R.out)) ?_; intro c hat hwc; clear hat hwc)
  go_wp2
  go_ret
  exact ⟨rfl, B0.out⟩
theorem HSE.apartV {w : World} {g m : Nat} {v : Value} {xs : List Te} (h : HSE L TT w g v m xs) : m ≠ g ∧ ∀ k, v.ownBlock = some k → k ≠ g ∧ k ≠ m := by
  obtain ⟨D, ⟨es, clock, hm, _⟩, _⟩ := h.map
  have hb := h.blk
  unfold Blk at hb
  refine ⟨fun e => by subst e; rw [hm] at hb; simp at hb, fun k hk => ?_⟩
  rcases h.row.2 with ⟨h1, _⟩ | ⟨b', cap', cur, hv, _, hr, _⟩
  · rw [h1] at hk; cases hk
  · rw [hv] at hk
    have e : b' = k := by simpa [Value.ownBlock] using hk
    subst e
    exact ⟨fun e => by subst e; rw [hr] at hb; simp only [Option.some.injEq, Obj.cells.injEq] at hb; exact h.typ hb.2.1.symm, fun e => by subst e; rw [hm] at hr; simp at hr⟩
/-- where the row lies behind an append: where it lay, or in new memory -/
def GrewE (L : FuncId) (TT : TypeId) (ltb : Ev → Ev → Bool) (g n m : Nat) (v : Value) (xs : List Te) (t : Te) (w : World) (w' : World) : Prop := ∃ b cap ys, HSE L TT w' g (.slice (some ⟨b, 0, none⟩) (n + 1) cap) m ys ∧ HqE ltb ys ∧ ys.Perm (xs ++ [t]) ∧ (v.ownBlock = some b ∨ w.heap.size ≤ b) ∧ Keeps (HFE g v m) w w'
set_option maxRecDepth 20000 in
set_option maxHeartbeats 4000000 in
theorem push_newE [Nonempty (OrdE ltb)] (ok : LessE L ltb) (g n cap m : Nat) (a : Option Addr) (xs : List Te) (t : Te) (w : World) (h : HSE L TT w g (.slice a n cap) m xs) (hn : xs.length = n) (hr : InRE t.n) (hf : ∀ s ∈ xs, s.n ≠ t.n) (hq : HqE ltb xs) (hl : n ≤ 500) :
    Calls Try.prog 32 #[.pointer (some ⟨g, 0, none⟩), .int .i64 t.n, .agg #[.int .i64 t.e.d, .int .i64 t.e.i, .int .i64 t.e.k]] w fun e w' => e = .returned (.bool true) ∧ GrewE L TT ltb g n m (.slice a n cap) xs t w w' := by
  have OK := Lib.hid ok
  obtain ⟨W0, hW0⟩ : ∃ W0, w.alloc (.cells #[.int .i64 t.e.d, .int .i64 t.e.i, .int .i64 t.e.k] 31) = W0 := ⟨_, rfl⟩
  have B0 := Lib.hid (show Below w.heap.size w W0 by rw [← hW0]; exact wbox _ _)
  have E0 := Lib.hid (show Blk W0 31 w.heap.size #[.int .i64 t.e.d, .int .i64 t.e.i, .int .i64 t.e.k] by rw [← hW0]; exact Blk.new _ _ _)
  have H0 := h.below B0.out
  have H := Lib.hid H0
  have LN := Lib.hid hn
  obtain ⟨D, hD, hP⟩ := H0.map
  have TD := Lib.hid (hD.tidy keyIE)
  have BK := Lib.hid H0.blk
  have c1 := H0.blk.cell 1
  have c2 := H0.blk.cell 2
  simp [HVE] at c1 c2
  have M := Lib.hid hD
  have R := Lib.hid hr
  have PL := Lib.hid hP
  have HQ := Lib.hid hq
  have FR := Lib.hid hf
  have hh : Maps.has D (.int .i64 t.n) = false := hP.gone hf
  have AP := Lib.hid H0.apartV
  have SZ := Lib.hid (show Maps.size D = n by rw [hP.size, hn])
  have NR := Lib.hid (show InRE (n : Int) by unfold InRE; omega)
  have e0 := E0.out.cell 0
  have e1 := E0.out.cell 1
  have e2 := E0.out.cell 2
  simp at e0 e1 e2
  clear h hD hr hP hn hq hf ok H0
  go_enter Try.func32, Try.ntmps32
  go_wp2_with fail
  refine (shut_noE g _ m _ BK.out).mono ?_
  rintro e w1 ⟨rfl, rfl⟩
  go_wp2_with (at_lookup; refine wpList_lookup_own_ok_int _ rfl _ _ 67 rfl 3 3 .i64 keyIE Try.underlying67 Try.underlying3 (zeroIE _) m _ D rfl M.out _ _ rfl (Maps.keyOf_int_mk Try.underlying3 (wf_i64E R.out)) ?_; intro c hat hwc; clear hat hwc)
  have BK := Lib.hid H.out.blk
  have RW := Lib.hid (show W0.ownsRow 0 73 4 (.slice a n cap) n (xs.map Te.cs).flatten by have := H.out.row; rw [LN.out] at this; exact this)
  have gl := BK.out.lt
  have ml := H.out.mlt
  have c3 : W0.frozen? ⟨g, 1, none⟩ = false := BK.out.free 1
  obtain ⟨i0, hi0, hz0, hz1, hz2⟩ := info_parts Try.infoEv
  go_region_law ((refine step_append_lies _ (by rfl) _ _ _ (by rfl) 0 73 i0 _ 4 32 Try.underlying68 hi0 hz0 hz1 hz2 rfl (by omega) (.slice a n cap) n (xs.map Te.cs).flatten (by rfl) ((RW.out.alloc _).drew) ⟨W0.heap.size, 0, none⟩ 1 1 t.cs (by rfl) (by rfl) (World.news_of_block (cs := #[.int .i64 t.n, .int .i64 t.e.d, .int .i64 t.e.i, .int .i64 t.e.k]) (t := 73) (fr := (0, 0)) (heap_alloc_new W0 _)) (by simp [Te.cs, Value.oneCell']) (by omega) (by unfold maxLen; omega) (by omega) (by omega) (W0.heap.size + 1) (by simp) ?_; intro b2 cap2 w2 hown2 hgrow2 hor hlt2; have HO2 := Lib.hid hown2; have HG2 := Lib.hid hgrow2; have HOR := Lib.hid hor; have LT2 := Lib.hid hlt2; have B2 := Lib.hid (show Blk w2 TT g (HVE L (.slice a n cap) m false) from (hgrow2.block g (Nat.lt_of_lt_of_le gl (wbox W0 _).size) (fun e => (AP.out.2 g e.symm).1 rfl)).trans (BK.out.alloc _)); clear hown2 hgrow2 hor hlt2; have c4 : _ = some _ := B2.out.cell 1; have c5 : _ = some _ := B2.out.cell 2; simp [HVE] at c4 c5; have f4 : w2.frozen? ⟨g, 1, none⟩ = false := B2.out.free 1))
  all_goals
    clear c1 c2 c3 e0 e1 e2 c4 c5 f4
    obtain ⟨W3, hW3⟩ : ∃ W3, w2.setCell ⟨g, 1, none⟩ (.slice (some ⟨b2, 0, none⟩) (n + 1) cap2) = W3 := ⟨_, rfl⟩
    rw [hW3]
    have E3 := Lib.hid hW3
    have B3 := Lib.hid (show Blk W3 TT g (HVE L (.slice (some ⟨b2, 0, none⟩) (n + 1) cap2) m false) by rw [← hW3]; exact B2.out.setBE 1 _)
    have c6 : _ = some _ := B3.out.cell 2
    simp [HVE] at c6
    have HOR := Lib.hid (show (Value.slice a n cap).ownBlock = some b2 ∨ b2 = W0.heap.size + 1 from HOR.out)
    have K2 := Lib.hid (show Keeps (fun k => (Value.slice a n cap).ownBlock = some k) W0 w2 from ((Keeps.of (F := fun k => (Value.slice a n cap).ownBlock = some k) (wbox W0 _)).drew).grown HG2.out (fun k e => .inl e))
    have K3 := Lib.hid (show Keeps (HFE g (.slice a n cap) m) W0 W3 by rw [← hW3]; exact (keepsFE K2.out (fun k e => .inr (.inr e))).set (.inl (.inl rfl)) _ _)
    have M3 := Lib.hid (show MapPE W3 m D by rw [← hW3]; exact World.ownsMap.setCell (M.out.keeps K2.out (fun e => (AP.out.2 m e).2 rfl)) AP.out.1 _)
    have HO2 := Lib.hid (show w2.ownsRow 0 73 4 (.slice (some ⟨b2, 0, none⟩) (n + 1) cap2) (xs.length + 1) ((xs ++ [t]).map Te.cs).flatten by
      have := HO2.out
      rw [LN.out, List.map_append, List.flatten_append]
      simpa using this)
    clear hW3
    go_wp2_with (at_mapUpdate; refine wpList_mapUpdate_own _ rfl _ _ _ 67 rfl 3 3 keyIE Try.underlying67 (plainElem Try.prog 3) m (Maps.size D) D rfl M3.out (by rw [SZ.out]; unfold maxLen; omega) _ _ (.int .i64 t.n) rfl rfl (Maps.keyOf_int_mk Try.underlying3 (wf_i64E R.out)) (.lit (.int .i64 n)) [] (plainElem_int Try.underlying3 (wf_i64E NR.out)) ?_; intro W4 hown4 hgrow4; have M4 := Lib.hid (MapPE.of hown4); have K4 := Lib.hid ((Keeps.refl (fun k => k = m) W3).grown hgrow4 (fun k e => .inl (by cases e; rfl))); clear hown4 hgrow4)
    have bg := Lib.hid (show b2 ≠ g ∧ b2 ≠ m by
      rcases HOR.out with q | q
      · exact AP.out.2 b2 q
      · omega)
    have R3 := Lib.hid (show W3.ownsRow 0 73 4 (.slice (some ⟨b2, 0, none⟩) (n + 1) cap2) (xs ++ [t]).length ((xs ++ [t]).map Te.cs).flatten by
      rw [← E3.out, List.length_append, List.length_singleton]
      exact ownsRow_setCell_other HO2.out (a := ⟨g, 1, none⟩) (fun e => bg.out.1 (by simpa [Value.ownBlock] using e)) _)
    have LT := Lib.hid (show (xs ++ [t]).length = n + 1 by rw [List.length_append, LN.out]; rfl)
    have H4 := Lib.hid (show HSE L TT W4 g (.slice (some ⟨b2, 0, none⟩) (n + 1) cap2) m (xs ++ [t]) from
      ⟨B3.out.keeps K4.out (fun e => AP.out.1 e.symm), owns_keeps R3.out K4.out (fun k e => by cases e; exact bg.out.2), ⟨_, M4.out, (by have := PL.out.push TD.out FR.out; rw [LN.out] at this; exact this)⟩,
        List.pairwise_append.mpr ⟨H.out.ids, List.pairwise_singleton _ _, fun s hs u hu => by simp at hu; subst hu; exact FR.out s hs⟩,
        (fun s hs => by
          rcases List.mem_append.mp hs with q | q
          · exact H.out.rng s q
          · simp at q; subst q; exact R.out), by rw [LT.out]; omega, H.out.typ⟩)
    have MD := Lib.hid (show MidE ltb (xs ++ [t]) n by have := HQ.out.push t; rw [LN.out] at this; exact this)
    refine (rise_anyE OK.out g b2 (n + 1) cap2 m n _ _ LT.out H4.out (by omega) MD.out).mono ?_
    rintro e w5 ⟨rfl, ys, hp, hd, ht⟩
    have P5 := Lib.hid hp
    have D5 := Lib.hid (hd.leaf (by rw [hp.length_eq, LT.out]; omega))
    have T5 := Lib.hid ht
    clear hp hd ht c6 hh
    go_wp2
    go_ret
    refine ⟨rfl, b2, cap2, ys, T5.out.1, D5.out, P5.out, HOR.out.imp id (fun e => by have := B0.out.size; omega), ?_⟩
    have kD : Keeps (HFE g (.slice a n cap) m) w W0 := Keeps.of B0.out
    have kS := kD.size
    have k4 := (kD.trans K3.out (fun _ q => .inl q)).trans (keepsFE K4.out (F := HFE g (.slice a n cap) m) (fun k e => .inr (.inl e))) (fun _ q => .inl q)
    refine k4.trans T5.out.2 (fun k q => ?_)
    rcases q with q | q | q
    · exact .inl (.inl q)
    · exact .inl (.inr (.inl q))
    · have e : b2 = k := by simpa [Value.ownBlock] using q
      subst e
      rcases HOR.out with r | r
      · exact .inl (.inr (.inr r))
      · exact .inr (by omega)
theorem hpush_anyE [Nonempty (OrdE ltb)] (ok : LessE L ltb) (g : Nat) (F : Nat → Prop) (ts : List Te) (id : Int) (x : Ev) (w : World) (h : Hp7E L TT ltb w g F ts) (hr : InRE id) (hl : ts.length ≤ 500) : Calls Try.prog 32 #[.pointer (some ⟨g, 0, none⟩), .int .i64 id, .agg #[.int .i64 x.d, .int .i64 x.i, .int .i64 x.k]] w (PushedE L TT ltb w g F ts id x) := by
  have h' := h
  obtain ⟨a, cap, m, xs, hs, hq, hp, hF⟩ := h
  rcases find_idE xs id with hn | ⟨i, y, hy, he⟩
  · refine (push_newE ok g xs.length cap m a xs ⟨id, x⟩ w hs rfl hr hn hq (by rw [hp.length_eq]; exact hl)).mono ?_
    rintro e w' ⟨rfl, b, cap', ys, h1, h2, h3, h4, h5⟩
    have hlen : ys.length = xs.length + 1 := by rw [h3.length_eq]; simp
    refine .inr ⟨fun t ht => hn t (hp.mem_iff.mpr ht), rfl, HFE g (.slice (some ⟨b, 0, none⟩) ys.length cap') m, ⟨_, cap', m, ys, (by rw [hlen]; exact h1), h2, h3.trans (hp.append (List.Perm.refl _)), fun k => Iff.rfl⟩, ?_⟩
    refine ⟨keepsFE h5 (fun k q => (hF k).mpr q), fun k q => ?_, fun k q => (show HSE L TT w' g (.slice (some ⟨b, 0, none⟩) ys.length cap') m ys by rw [hlen]; exact h1).lies k q⟩
    rcases q with q | q | q
    · exact .inl ((hF k).mpr (.inl q))
    · exact .inl ((hF k).mpr (.inr (.inl q)))
    · have e : b = k := by simpa [Value.ownBlock] using q
      subst e
      rcases h4 with r | r
      · exact .inl ((hF _).mpr (.inr (.inr r)))
      · exact .inr r
  · refine (push_oldE g _ m xs id x w hs hr (List.mem_of_getElem? hy) he).mono ?_
    rintro e w' ⟨rfl, hb⟩
    exact .inl ⟨⟨y, hp.mem_iff.mp (List.mem_of_getElem? hy), he⟩, rfl, h'.stay hb⟩
end Go.Proofs.Ytfeemdljlikpbaa
