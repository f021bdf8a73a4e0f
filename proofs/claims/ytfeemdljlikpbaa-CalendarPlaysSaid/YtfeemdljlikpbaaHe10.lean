/-
  A heap of events: Min, Get told of the things that are there: contracts.
-/
import Derived.Test.YtfeemdljlikpbaaHe9
namespace Go.Proofs.Ytfeemdljlikpbaa
open Go.RowKit Go.Maps
variable {L : FuncId} {TT : TypeId} {ltb : Ev → Ev → Bool}

theorem Hp7E.perm {w : World} {g : Nat} {F : Nat → Prop} {ts us : List Te} (h : Hp7E L TT ltb w g F ts) (p : ts.Perm us) : Hp7E L TT ltb w g F us := by
  obtain ⟨a, cap, m, xs, hs, hq, hp, hF⟩ := h
  exact ⟨a, cap, m, xs, hs, hq, hp.trans p, hF⟩
theorem first_minE [Nonempty (OrdE ltb)] {xs ts : List Te} {x : Te} (hq : HqE ltb xs) (hp : xs.Perm ts) (hx : xs[0]? = some x) : x ∈ ts ∧ MinInE ltb ts x := by
  refine ⟨hp.mem_iff.mp (List.mem_of_getElem? hx), fun s hs => ?_⟩
  obtain ⟨j, hj⟩ := List.getElem?_of_mem (hp.mem_iff.mpr hs)
  exact hq.first hx j s hj
theorem hmin_anyE [Nonempty (OrdE ltb)] (g : Nat) (F : Nat → Prop) (ts : List Te) (w : World) (h : Hp7E L TT ltb w g F ts) : Calls Try.prog 29 #[.pointer (some ⟨g, 0, none⟩)] w fun e w' => ((ts = [] ∧ e = .returned (.tuple #[.int .i64 0, .agg #[.int .i64 0, .int .i64 0, .int .i64 0], .bool false])) ∨ (∃ t : Te, t ∈ ts ∧ MinInE ltb ts t ∧ e = .returned (.tuple #[.int .i64 t.n, .agg #[.int .i64 t.e.d, .int .i64 t.e.i, .int .i64 t.e.k], .bool true]))) ∧ Stay7E L TT ltb w g F ts w' ∧ Below w.heap.size w w' := by
  have h' := h
  obtain ⟨a, cap, m, xs, hs, hq, hp, hF⟩ := h
  rcases Nat.eq_zero_or_pos xs.length with z | z
  · refine (min_noneE g cap m a w (by have := hs.blk; rw [z] at this; exact this)).mono ?_
    rintro e w' ⟨rfl, hb⟩
    have : ts = [] := List.length_eq_zero_iff.mp (by rw [← hp.length_eq]; exact z)
    exact ⟨.inl ⟨this, rfl⟩, h'.stay hb, hb⟩
  · obtain ⟨b, cap', hv⟩ := hs.slice z
    cases hv
    obtain ⟨x, hx⟩ := getXE rfl z
    refine (min_someE g b xs.length cap m x w hs.blk (by have := owns_atE hs.row hx; simpa using this) z).mono ?_
    rintro e w' ⟨rfl, hb⟩
    obtain ⟨hk, hm⟩ := first_minE hq hp hx
    exact ⟨.inr ⟨x, hk, hm, rfl⟩, h'.stay hb, hb⟩
/-! ### Get -/
theorem PlcE.look {D : DataW Unit} {xs : List Te} (h : PlcE D xs) {i : Nat} {t : Te} (ht : xs[i]? = some t) {c : Int} (hc : D.atKey (.int .i64 t.n) (.lit (.int .i64 0)) = .lit (.int .i64 c)) : c = (i : Int) := by
  rw [h.at' i t ht] at hc
  simpa using hc.symm
theorem PlcE.gone {D : DataW Unit} {xs : List Te} (h : PlcE D xs) {id : Int} (hn : ∀ t ∈ xs, t.n ≠ id) : Maps.has D (.int .i64 id) = false := by
  rcases e : Maps.has D (.int .i64 id) with _ | _
  · rfl
  · obtain ⟨t, ht, q⟩ := (h.has id).mp e
    exact absurd q (hn t ht)
/-- two boxes of an event that is none -/
theorem two_evE (w : World) : ∃ W2, (w.alloc (.cells #[.int .i64 0, .int .i64 0, .int .i64 0] 31)).alloc (.cells #[.int .i64 0, .int .i64 0, .int .i64 0] 31) = W2 ∧ Below w.heap.size w W2 ∧ Blk W2 31 w.heap.size #[.int .i64 0, .int .i64 0, .int .i64 0] ∧ Blk W2 31 (w.heap.size + 1) #[.int .i64 0, .int .i64 0, .int .i64 0] :=
  ⟨_, rfl, wbox2 _ _ _, (Blk.new _ _ _).alloc _, Blk.new2 _ _ _ _⟩
set_option maxHeartbeats 4000000 in
theorem get_noneE (g : Nat) (v : Value) (m : Nat) (xs : List Te) (id : Int) (w : World) (h : HSE L TT w g v m xs) (hr : InRE id) (hn : ∀ t ∈ xs, t.n ≠ id) :
    Calls Try.prog 31 #[.pointer (some ⟨g, 0, none⟩), .int .i64 id] w fun e w' => e = .returned (.tuple #[.agg #[.int .i64 0, .int .i64 0, .int .i64 0], .bool false]) ∧ Below w.heap.size w w' := by
  obtain ⟨W2, hW2, hB, hA, hN⟩ := two_evE w
  have B2 := Lib.hid hB
  have A2 := Lib.hid hA
  have H2 := h.below hB
  obtain ⟨D, hD, hP⟩ := H2.map
  have c2 := H2.blk.cell 2
  simp [HVE] at c2
  have M := Lib.hid hD
  have R := Lib.hid hr
  have hh := hP.gone hn
  have x0 := hA.cell 0
  have x1 := hA.cell 1
  have x2 := hA.cell 2
  have fx : ∀ o, W2.frozen? ⟨w.heap.size, o, none⟩ = false := fun o => A2.out.free o
  have y0 := hN.cell 0
  have y1 := hN.cell 1
  have y2 := hN.cell 2
  simp at x0 x1 x2 y0 y1 y2
  clear h hD hr hn hP H2 hB hA hN
  go_enter Try.func31, Try.ntmps31
  go_wp2_with (at_lookup; refine wpList_lookup_own_ok_int _ rfl _ _ 67 rfl 3 3 .i64 keyIE Try.underlying67 Try.underlying3 (zeroIE _) m _ D rfl M.out _ _ rfl (Maps.keyOf_int_mk Try.underlying3 (wf_i64E R.out)) ?_; intro c hat hwc; clear hat hwc)
  go_wp2
  exact bodyPost_ret (v := .tuple #[.agg #[.int .i64 0, .int .i64 0, .int .i64 0], .bool false]) (by simp [results, Try.results31, go_sem, x0, x1, x2]) rfl ⟨rfl, ((B2.out.setCell (by simp) _).setCell (by simp) _).setCell (by simp) _⟩
set_option maxHeartbeats 4000000 in
theorem get_someE (g b n cap m i : Nat) (xs : List Te) (x : Te) (w : World) (h : HSE L TT w g (.slice (some ⟨b, 0, none⟩) n cap) m xs) (hn : xs.length = n) (hx : xs[i]? = some x) :
    Calls Try.prog 31 #[.pointer (some ⟨g, 0, none⟩), .int .i64 x.n] w fun e w' => e = .returned (.tuple #[.agg #[.int .i64 x.e.d, .int .i64 x.e.i, .int .i64 x.e.k], .bool true]) ∧ Below w.heap.size w w' := by
  subst hn
  obtain ⟨W2, hW2, hB, hA, hN⟩ := two_evE w
  have B2 := Lib.hid hB
  have A2 := Lib.hid hA
  have H2 := h.below hB
  obtain ⟨D, hD, hP⟩ := H2.map
  have c1 := H2.blk.cell 1
  have c2 := H2.blk.cell 2
  simp [HVE] at c1 c2
  have M := Lib.hid hD
  have R := Lib.hid (h.rng x (List.mem_of_getElem? hx))
  have hh := has_memE hP hx
  have LK := Lib.hid (fun (c : Int) => hP.look (c := c) hx)
  have q1 := (owns_atE H2.row hx).c1
  have q2 := (owns_atE H2.row hx).c2
  have q3 := (owns_atE H2.row hx).c3
  have il := lt_atE hx
  have nl := h.len
  have x0 := hA.cell 0
  have x1 := hA.cell 1
  have x2 := hA.cell 2
  have fx : ∀ o, W2.frozen? ⟨w.heap.size, o, none⟩ = false := fun o => A2.out.free o
  simp at x0 x1 x2
  obtain ⟨n, hn⟩ : ∃ n, xs.length = n := ⟨_, rfl⟩
  rw [hn] at c1 il nl
  have i1 : (i : Int) < (n : Int) := by omega
  have i2 : 0 ≤ (i : Int) := by omega
  clear h hD hP hx hn H2 hB hA hN
  go_enter Try.func31, Try.ntmps31
  go_wp2_with (at_lookup; refine wpList_lookup_own_ok_int _ rfl _ _ 67 rfl 3 3 .i64 keyIE Try.underlying67 Try.underlying3 (zeroIE _) m _ D rfl M.out _ _ rfl (Maps.keyOf_int_mk Try.underlying3 (wf_i64E R.out)) ?_; intro c hat hwc; obtain rfl := LK.out c hat; clear hat hwc)
  go_wp2
  exact bodyPost_ret (v := .tuple #[.agg #[.int .i64 x.e.d, .int .i64 x.e.i, .int .i64 x.e.k], .bool true]) (by simp [results, Try.results31, go_sem, x0, x1, x2]) rfl ⟨rfl, ((B2.out.setCell (by simp) _).setCell (by simp) _).setCell (by simp) _⟩
theorem find_idE (xs : List Te) (id : Int) : (∀ t ∈ xs, t.n ≠ id) ∨ ∃ (i : Nat) (x : Te), xs[i]? = some x ∧ x.n = id := by
  by_cases h : ∃ t ∈ xs, t.n = id
  · obtain ⟨t, ht, e⟩ := h
    obtain ⟨i, hi⟩ := List.getElem?_of_mem ht
    exact .inr ⟨i, t, hi, e⟩
  · exact .inl (fun t ht e => h ⟨t, ht, e⟩)
theorem hget_anyE (g : Nat) (F : Nat → Prop) (ts : List Te) (id : Int) (w : World) (h : Hp7E L TT ltb w g F ts) (hr : InRE id) : Calls Try.prog 31 #[.pointer (some ⟨g, 0, none⟩), .int .i64 id] w fun e w' => (((∀ t ∈ ts, t.n ≠ id) ∧ e = .returned (.tuple #[.agg #[.int .i64 0, .int .i64 0, .int .i64 0], .bool false])) ∨ (∃ t : Te, t ∈ ts ∧ t.n = id ∧ e = .returned (.tuple #[.agg #[.int .i64 t.e.d, .int .i64 t.e.i, .int .i64 t.e.k], .bool true]))) ∧ Stay7E L TT ltb w g F ts w' ∧ Below w.heap.size w w' := by
  have h' := h
  obtain ⟨a, cap, m, xs, hs, hq, hp, hF⟩ := h
  rcases find_idE xs id with hn | ⟨i, x, hx, rfl⟩
  · refine (get_noneE g _ m xs id w hs hr hn).mono ?_
    rintro e w' ⟨rfl, hb⟩
    exact ⟨.inl ⟨fun t ht => hn t (hp.mem_iff.mpr ht), rfl⟩, h'.stay hb, hb⟩
  · obtain ⟨b, cap', hv⟩ := hs.slice (by have := lt_atE hx; omega)
    cases hv
    refine (get_someE g b xs.length cap m i xs x w hs rfl hx).mono ?_
    rintro e w' ⟨rfl, hb⟩
    exact ⟨.inr ⟨x, hp.mem_iff.mp (List.mem_of_getElem? hx), rfl, rfl⟩, h'.stay hb, hb⟩
end Go.Proofs.Ytfeemdljlikpbaa
