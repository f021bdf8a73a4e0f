/-
  Package heap as landed: Push: contract.
-/
import Derived.Test.YtimafmalfmeehaaHx9
namespace Go.Proofs.Ytimafmalfmeehaa
open Go.RowKit Go.Maps

theorem Try.infoE : (Try.prog.info? 57).map (fun i => (i.zero, i.size, i.bytes)) = some (some (.agg #[.int .i64 0, .int .i64 0]), 2, 16) := by kernel_rfl
/-- append of one thing to a heap's row -/
theorem app_ent {w : World} {ops : Array Oper} {rest : List Oper} {o : Oper} {act : Act} {Q : Exit → Act → World → Prop} (hgd : o.guard = none) (s x : Operand)
    (ho : o.op = .call { callee := .builtin .append, args := #[s, x], argTypes := #[51, 51] }) (base : Nat)
    (v : Value) (ns : List Th) (hs : act.eval s = v) (hown : w.ownsRow base 57 2 v ns.length (ns.map Th.cs).flatten) (g : Nat) (e : Th) (hx : act.eval x = .slice (some ⟨g, 0, none⟩) 1 1)
    (hg : w.heap[g]? = some (.cells #[.int .i64 e.id, .int .i64 e.x] 57 (0, 0))) (hb : base ≤ w.heap.size) (hsm : ns.length ≤ 100000)
    (h : ∀ v' w', w'.ownsRow base 57 2 v' (ns.length + 1) ((ns ++ [e]).map Th.cs).flatten → w.grownBy w' v.ownBlock → (∃ g cap, v' = .slice (some ⟨g, 0, none⟩) (ns.length + 1) cap ∧ (v.ownBlock = some g ∨ g = w.heap.size)) → wpList Try.prog ops Q rest (act.put o.dst v') w') : wpList Try.prog ops Q (o :: rest) act w := by
  obtain ⟨i0, hi, hz0, hz1, hz2⟩ := info_parts Try.infoE
  refine wpList_append_lies _ hgd s x _ ho base _ i0 _ 2 16 Try.underlying51 hi hz0 hz1 hz2 rfl (by decide) v _ _ hs hown ⟨g, 0, none⟩ 1 1 e.cs hx rfl (World.news_of_block (cs := #[.int .i64 e.id, .int .i64 e.x]) (t := 57) (fr := (0, 0)) hg) (by simp [Th.cs, Value.oneCell']) (by decide) (by unfold maxLen; omega) (by omega) hb w.heap.size rfl ?_
  intro g' cap w2 ho2 hg2 hl _
  refine h _ w2 ?_ hg2 ⟨g', cap, rfl, hl⟩
  rw [List.map_append, List.flatten_append]
  simpa using ho2
theorem Plc.push {D : DataW Unit} {xs : List Th} (h : Plc D xs) (td : Tidy D) {t : Th} (hn : ∀ s ∈ xs, s.id ≠ t.id) : Plc (D.put (.int .i64 t.id) (.lit (.int .i64 xs.length))) (xs ++ [t]) := by
  have hg := h.gone hn
  refine ⟨?_, fun id => ?_, fun i s hs => ?_⟩
  · rw [size_put td, hg, List.length_append, h.size]
    simp
  · by_cases e : id = t.id
    · subst e
      rw [has_put_same td.isMap (isK _)]
      exact ⟨fun _ => ⟨t, by simp, rfl⟩, fun _ => rfl⟩
    · rw [has_put_other (key_ne e), h.has id]
      constructor
      · rintro ⟨s, h1, h2⟩
        exact ⟨s, List.mem_append_left _ h1, h2⟩
      · rintro ⟨s, h1, h2⟩
        rcases List.mem_append.mp h1 with h3 | h3
        · exact ⟨s, h3, h2⟩
        · simp at h3
          exact absurd (by rw [← h2, h3]) e
  · by_cases e : i = xs.length
    · subst e
      rw [List.getElem?_append_right (Nat.le_refl _)] at hs
      simp at hs
      subst hs
      exact atKey_put_same td.isMap (isK _) _ _
    · have hl := lt_at hs
      rw [List.length_append, List.length_singleton] at hl
      rw [List.getElem?_append_left (by omega)] at hs
      rw [atKey_put_other (key_ne (hn s (List.mem_of_getElem? hs)))]
      exact h.at' i s hs
def Pushed (w : World) (g : Nat) (F : Nat → Prop) (ts : List Th) (id x : Int) (e : Ending) (w' : World) : Prop := (0 ≤ placeT ts id ∧ e = .returned (.bool false) ∧ Stay7 w g F ts w') ∨ (placeT ts id < 0 ∧ e = .returned (.bool true) ∧ Stay7 w g F (ts ++ [⟨id, x⟩]) w')
set_option maxHeartbeats 2000000 in
theorem push_old (g : Nat) (v : Value) (m : Nat) (xs : List Th) (id x : Int) (w : World) (h : HS w g v m xs) (hr : InR id) {t : Th} (ht : t ∈ xs) (e : t.id = id) :
    Calls Try.prog 19 #[.pointer (some ⟨g, 0, none⟩), .int .i64 id, .int .i64 x] w fun e w' => e = .returned (.bool false) ∧ w = w' := by
  obtain ⟨D, hD, hP⟩ := h.map
  have BK := Lib.hid h.blk
  have c2 := h.blk.cell 2
  simp [HV] at c2
  have M := Lib.hid hD
  have R := Lib.hid hr
  have hh : Maps.has D (.int .i64 id) = true := (hP.has id).mpr ⟨t, ht, e⟩
  clear h hD hr hP ht e
  go_enter Try.func19, Try.ntmps19
  go_wp2_with fail
  refine (shut_no g v m _ BK.out).mono ?_
  rintro e w1 ⟨rfl, rfl⟩
  go_wp2_with (at_lookup; refine wpList_lookup_own_ok_int _ rfl _ _ 52 rfl 3 3 .i64 keyI Try.underlying52 Try.underlying3 (zeroI _) m _ D rfl M.out _ _ rfl (Maps.keyOf_int_mk Try.underlying3 (wf_i64 R.out)) ?_; intro c hat hwc; clear hat hwc)
  go_wp2
  go_ret
  exact ⟨rfl, rfl⟩
theorem HS.apartV {w : World} {g m : Nat} {v : Value} {xs : List Th} (h : HS w g v m xs) : m ≠ g ∧ ∀ k, v.ownBlock = some k → k ≠ g ∧ k ≠ m := by
  obtain ⟨D, ⟨es, clock, hm, _⟩, _⟩ := h.map
  have hb := h.blk
  unfold Blk at hb
  refine ⟨fun e => by subst e; rw [hm] at hb; simp at hb, fun k hk => ?_⟩
  rcases h.row.2 with ⟨h1, _⟩ | ⟨b', cap', cur, hv, _, hr, _⟩
  · rw [h1] at hk; cases hk
  · rw [hv] at hk
    have e : b' = k := by simpa [Value.ownBlock] using hk
    subst e
    exact ⟨fun e => by subst e; rw [hr] at hb; simp at hb, fun e => by subst e; rw [hm] at hr; simp at hr⟩
/-- where the row lies behind an append: where it lay, or in new memory -/
def Grew (g n m : Nat) (v : Value) (xs : List Th) (t : Th) (w : World) (w' : World) : Prop := ∃ b cap ys, HS w' g (.slice (some ⟨b, 0, none⟩) (n + 1) cap) m ys ∧ Hq ys ∧ ys.Perm (xs ++ [t]) ∧ (v.ownBlock = some b ∨ w.heap.size ≤ b) ∧ Keeps (HF g v m) w w'
set_option maxRecDepth 20000 in
set_option maxHeartbeats 4000000 in
theorem push_new (g n cap m : Nat) (a : Option Addr) (xs : List Th) (t : Th) (w : World) (h : HS w g (.slice a n cap) m xs) (hn : xs.length = n) (hr : InR t.id) (hf : ∀ s ∈ xs, s.id ≠ t.id) (hq : Hq xs) (hl : n ≤ 500) :
    Calls Try.prog 19 #[.pointer (some ⟨g, 0, none⟩), .int .i64 t.id, .int .i64 t.x] w fun e w' => e = .returned (.bool true) ∧ Grew g n m (.slice a n cap) xs t w w' := by
  have H := Lib.hid h
  have LN := Lib.hid hn
  obtain ⟨D, hD, hP⟩ := h.map
  have TD := Lib.hid (hD.tidy keyI)
  have BK := Lib.hid h.blk
  have c1 := h.blk.cell 1
  have c2 := h.blk.cell 2
  simp [HV] at c1 c2
  have M := Lib.hid hD
  have R := Lib.hid hr
  have PL := Lib.hid hP
  have HQ := Lib.hid hq
  have FR := Lib.hid hf
  have RW := Lib.hid h.row
  have hh : Maps.has D (.int .i64 t.id) = false := hP.gone hf
  have c3 : w.frozen? ⟨g, 1, none⟩ = false := h.blk.free 1
  have gl := h.blk.lt
  have ml := h.mlt
  have AP := Lib.hid h.apartV
  have SZ := Lib.hid (show Maps.size D = n by rw [hP.size, hn])
  have NR := Lib.hid (show InR (n : Int) by unfold InR; omega)
  clear h hD hr hP hn hq hf
  go_enter Try.func19, Try.ntmps19
  go_wp2_with fail
  refine (shut_no g _ m _ BK.out).mono ?_
  rintro e w1 ⟨rfl, rfl⟩
  go_wp2_with (first
    | (at_lookup; refine wpList_lookup_own_ok_int _ rfl _ _ 52 rfl 3 3 .i64 keyI Try.underlying52 Try.underlying3 (zeroI _) m _ D rfl M.out _ _ rfl (Maps.keyOf_int_mk Try.underlying3 (wf_i64 R.out)) ?_; intro c hat hwc; clear hat hwc)
    | (at_builtin; refine app_ent rfl _ _ rfl 0 (.slice a n cap) xs rfl (by have := RW.out; exact this.alloc _) w.heap.size t rfl (heap_alloc_new w _) (by omega) (by rw [LN.out]; omega) ?_; intro v2 w2 hown2 hgrow2 hform; have HO2 := Lib.hid hown2; have HG2 := Lib.hid hgrow2; obtain ⟨b2, cap2, hv2, hor⟩ := hform; rw [LN.out] at hv2; subst hv2; have HOR := Lib.hid (show (Value.slice a n cap).ownBlock = some b2 ∨ b2 = w.heap.size + 1 from by rw [wsize] at hor; exact hor); have B2 := Lib.hid (show Blk w2 54 g (HV (.slice a n cap) m false) from (hgrow2.block g (Nat.lt_of_lt_of_le gl (wbox w _).size) (fun e => (AP.out.2 g e.symm).1 rfl)).trans (BK.out.alloc _)); clear hown2 hgrow2 hor c1 c2 c3; have c4 : _ = some _ := B2.out.cell 1; have c5 : _ = some _ := B2.out.cell 2; simp [HV] at c4 c5; have f4 : w2.frozen? ⟨g, 1, none⟩ = false := B2.out.free 1; obtain ⟨W3, hW3⟩ : ∃ W3, w2.setCell ⟨g, 1, none⟩ (.slice (some ⟨b2, 0, none⟩) (n + 1) cap2) = W3 := ⟨_, rfl⟩; have E3 := Lib.hid hW3; have B3 := Lib.hid (show Blk W3 54 g (HV (.slice (some ⟨b2, 0, none⟩) (n + 1) cap2) m false) by rw [← hW3]; exact B2.out.setB 1 _); have c6 : _ = some _ := B3.out.cell 2; simp [HV] at c6; have K2 := Lib.hid (show Keeps (fun k => (Value.slice a n cap).ownBlock = some k) w w2 from (Keeps.of (F := fun k => (Value.slice a n cap).ownBlock = some k) (wbox w _)).grown HG2.out (fun k e => .inl e)); have K3 := Lib.hid (show Keeps (HF g (.slice a n cap) m) w W3 by rw [← hW3]; exact (keepsF K2.out (fun k e => .inr (.inr e))).set (.inl (.inl rfl)) _ _); have M3 := Lib.hid (show MapP W3 m D by rw [← hW3]; exact World.ownsMap.setCell (M.out.keeps K2.out (fun e => (AP.out.2 m e).2 rfl)) AP.out.1 _))
    | (at_mapUpdate; refine wpList_mapUpdate_own _ rfl _ _ _ 52 rfl 3 3 keyI Try.underlying52 (plainElem Try.prog 3) m (Maps.size D) D rfl M3.out (by rw [SZ.out]; unfold maxLen; omega) _ _ (.int .i64 t.id) rfl rfl (Maps.keyOf_int_mk Try.underlying3 (wf_i64 R.out)) (.lit (.int .i64 n)) [] (plainElem_int Try.underlying3 (wf_i64 NR.out)) ?_; intro W4 hown4 hgrow4; have M4 := Lib.hid (MapP.of hown4); have K4 := Lib.hid ((Keeps.refl (fun k => k = m) W3).grown hgrow4 (fun k e => .inl (by cases e; rfl))); clear hown4 hgrow4)
    | fail)
  have bg := Lib.hid (show b2 ≠ g ∧ b2 ≠ m by
    rcases HOR.out with q | q
    · exact AP.out.2 b2 q
    · omega)
  have R3 := Lib.hid (show W3.ownsRow 0 57 2 (.slice (some ⟨b2, 0, none⟩) (n + 1) cap2) (xs ++ [t]).length ((xs ++ [t]).map Th.cs).flatten by
    rw [← E3.out, List.length_append, List.length_singleton]
    exact ownsRow_setCell_other HO2.out (a := ⟨g, 1, none⟩) (fun e => bg.out.1 (by simpa [Value.ownBlock] using e)) _)
  have LT := Lib.hid (show (xs ++ [t]).length = n + 1 by rw [List.length_append, LN.out]; rfl)
  have H4 := Lib.hid (show HS W4 g (.slice (some ⟨b2, 0, none⟩) (n + 1) cap2) m (xs ++ [t]) from
    ⟨B3.out.keeps K4.out (fun e => AP.out.1 e.symm), owns_keeps R3.out K4.out (fun k e => by cases e; exact bg.out.2), ⟨_, M4.out, (by have := PL.out.push TD.out FR.out; rw [LN.out] at this; exact this)⟩,
      List.pairwise_append.mpr ⟨H.out.ids, List.pairwise_singleton _ _, fun s hs u hu => by simp at hu; subst hu; exact FR.out s hs⟩,
      (fun s hs => by
        rcases List.mem_append.mp hs with q | q
        · exact H.out.rng s q
        · simp at q; subst q; exact R.out), by rw [LT.out]; omega⟩)
  have MD := Lib.hid (show Mid (xs ++ [t]) n by have := HQ.out.push t; rw [LN.out] at this; exact this)
  refine (rise_any g b2 (n + 1) cap2 m n _ _ LT.out H4.out (by omega) MD.out).mono ?_
  rintro e w5 ⟨rfl, ys, hp, hd, ht⟩
  have P5 := Lib.hid hp
  have D5 := Lib.hid (hd.leaf (by rw [hp.length_eq, LT.out]; omega))
  have T5 := Lib.hid ht
  clear hp hd ht c4 c5 c6 f4 hh
  go_wp2
  go_ret
  refine ⟨rfl, b2, cap2, ys, T5.out.1, D5.out, P5.out, HOR.out.imp id (fun e => by omega), ?_⟩
  have k4 := K3.out.trans (keepsF K4.out (F := HF g (.slice a n cap) m) (fun k e => .inr (.inl e))) (fun _ q => .inl q)
  refine k4.trans T5.out.2 (fun k q => ?_)
  rcases q with q | q | q
  · exact .inl (.inl q)
  · exact .inl (.inr (.inl q))
  · have e : b2 = k := by simpa [Value.ownBlock] using q
    subst e
    rcases HOR.out with r | r
    · exact .inl (.inr (.inr r))
    · exact .inr (by omega)
theorem hpush_any (g : Nat) (F : Nat → Prop) (ts : List Th) (id x : Int) (w : World) (h : Hp7 w g F ts) (hr : InR id) (hl : ts.length ≤ 500) : Calls Try.prog 19 #[.pointer (some ⟨g, 0, none⟩), .int .i64 id, .int .i64 x] w (Pushed w g F ts id x) := by
  have h' := h
  obtain ⟨a, cap, m, xs, hs, hq, hp, hF⟩ := h
  rcases find_id xs id with hn | ⟨i, y, hy, he⟩
  · refine (push_new g xs.length cap m a xs ⟨id, x⟩ w hs rfl hr hn hq (by rw [hp.length_eq]; exact hl)).mono ?_
    rintro e w' ⟨rfl, b, cap', ys, h1, h2, h3, h4, h5⟩
    have hlen : ys.length = xs.length + 1 := by rw [h3.length_eq]; simp
    refine .inr ⟨place_no hp hn, rfl, HF g (.slice (some ⟨b, 0, none⟩) ys.length cap') m, ⟨_, cap', m, ys, (by rw [hlen]; exact h1), h2, h3.trans (hp.append (List.Perm.refl _)), fun k => Iff.rfl⟩, ?_⟩
    refine ⟨keepsF h5 (fun k q => (hF k).mpr q), fun k q => ?_, fun k q => (show HS w' g (.slice (some ⟨b, 0, none⟩) ys.length cap') m ys by rw [hlen]; exact h1).lies k q⟩
    rcases q with q | q | q
    · exact .inl ((hF k).mpr (.inl q))
    · exact .inl ((hF k).mpr (.inr (.inl q)))
    · have e : b = k := by simpa [Value.ownBlock] using q
      subst e
      rcases h4 with r | r
      · exact .inl ((hF _).mpr (.inr (.inr r)))
      · exact .inr r
  · refine (push_old g _ m xs id x w hs hr (List.mem_of_getElem? hy) he).mono ?_
    rintro e w' ⟨rfl, rfl⟩
    refine .inl ⟨?_, rfl, h'.stay (Below.refl _ _)⟩
    obtain ⟨k, hk, _⟩ := place_yes hp hs.ids hy
    rw [← he, hk]; omega
end Go.Proofs.Ytimafmalfmeehaa
