/-
  A heap of events: Pop, Remove: contracts.
-/
import Derived.Test.YtfeemdljlikpbaaHe11
namespace Go.Proofs.Ytfeemdljlikpbaa
open Go.RowKit Go.Maps
variable {L : FuncId} {TT : TypeId} {ltb : Ev → Ev → Bool}

set_option maxHeartbeats 2000000 in
theorem pop_noneE (g cap m : Nat) (a : Option Addr) (w : World) (hb : Blk w TT g (HVE L (.slice a 0 cap) m false)) :
    Calls Try.prog 30 #[.pointer (some ⟨g, 0, none⟩)] w fun e w' => e = .returned (.tuple #[.int .i64 0, .agg #[.int .i64 0, .int .i64 0, .int .i64 0], .bool false]) ∧ Below w.heap.size w w' := by
  obtain ⟨W1, hW1⟩ : ∃ W1, w.alloc (.cells #[.int .i64 0, .int .i64 0, .int .i64 0] 31) = W1 := ⟨_, rfl⟩
  have B1 := Lib.hid (show Below w.heap.size w W1 by rw [← hW1]; exact wbox _ _)
  have X1 := Lib.hid (show Blk W1 31 w.heap.size #[.int .i64 0, .int .i64 0, .int .i64 0] by rw [← hW1]; exact Blk.new _ _ _)
  have BK := Lib.hid (hb.below B1.out)
  have c1 := BK.out.cell 1
  simp [HVE] at c1
  have x0 := X1.out.cell 0
  have x1 := X1.out.cell 1
  have x2 := X1.out.cell 2
  have fx : ∀ o, W1.frozen? ⟨w.heap.size, o, none⟩ = false := fun o => X1.out.free o
  simp at x0 x1 x2
  clear hb
  go_enter Try.func30, Try.ntmps30
  go_wp2_with fail
  refine (shut_noE g _ m _ BK.out).mono ?_
  rintro e w1 ⟨rfl, rfl⟩
  go_wp2_with fail
  go_region
  all_goals
    go_wp2
    exact bodyPost_ret (v := .tuple #[.int .i64 0, .agg #[.int .i64 0, .int .i64 0, .int .i64 0], .bool false]) (by simp [results, Try.results30, go_sem, x0, x1, x2]) rfl ⟨rfl, (((B1.out.setCell (by simp) _).setCell (by simp) _).setCell (by simp) _).drew⟩
/-- what a call took, what is left -/
def TookBE (L : FuncId) (TT : TypeId) (ltb : Ev → Ev → Bool) (g b n cap m : Nat) (xs : List Te) (x : Te) (v : Value) (w : World) (e : Ending) (w' : World) : Prop := e = .returned v ∧ ∃ ys : List Te, HqE ltb ys ∧ xs.Perm (x :: ys) ∧ HSE L TT w' g (.slice (some ⟨b, 0, none⟩) ys.length cap) m ys ∧ Keeps (HFE g (.slice (some ⟨b, 0, none⟩) n cap) m) w w'
theorem ltF {w : World} {g b n cap m : Nat} {xs : List Te} (h : HSE L TT w g (.slice (some ⟨b, 0, none⟩) n cap) m xs) {k : Nat} (hk : w.heap.size ≤ k) : ¬ HFE g (.slice (some ⟨b, 0, none⟩) n cap) m k := fun q => by
  have := h.lies k q
  omega
set_option maxHeartbeats 4000000 in
theorem pop_someE [Nonempty (OrdE ltb)] (ok : LessE L ltb) (g b n cap m : Nat) (xs : List Te) (x : Te) (w : World) (h : HSE L TT w g (.slice (some ⟨b, 0, none⟩) n cap) m xs) (hn : xs.length = n) (hx : xs[0]? = some x) (hq : HqE ltb xs) :
    Calls Try.prog 30 #[.pointer (some ⟨g, 0, none⟩)] w (TookBE L TT ltb g b n cap m xs x (.tuple #[.int .i64 x.n, .agg #[.int .i64 x.e.d, .int .i64 x.e.i, .int .i64 x.e.k], .bool true]) w) := by
  have OK := Lib.hid ok
  obtain ⟨W1, hW1⟩ : ∃ W1, w.alloc (.cells #[.int .i64 0, .int .i64 0, .int .i64 0] 31) = W1 := ⟨_, rfl⟩
  have B1 := Lib.hid (show Below w.heap.size w W1 by rw [← hW1]; exact wbox _ _)
  have X1 := Lib.hid (show Blk W1 31 w.heap.size #[.int .i64 0, .int .i64 0, .int .i64 0] by rw [← hW1]; exact Blk.new _ _ _)
  have NF := Lib.hid (fun (k : Nat) (hk : w.heap.size ≤ k) => ltF h hk)
  have H1 := h.below B1.out
  have H := Lib.hid H1
  have BK := Lib.hid H1.blk
  have c1 := H1.blk.cell 1
  simp [HVE] at c1
  have HQ := Lib.hid hq
  have LN := Lib.hid hn
  have X := Lib.hid hx
  have nl := lt_atE hx
  rw [hn] at nl
  have t1 : ((n : Int) == 0) = false := by simp; omega
  clear h hn hx hq ok H1
  go_enter Try.func30, Try.ntmps30
  go_wp2_with fail
  refine (shut_noE g _ m _ BK.out).mono ?_
  rintro e w1 ⟨rfl, rfl⟩
  go_wp2_with fail
  refine (take_anyE OK.out g b n cap m 0 xs x _ LN.out H.out X.out HQ.out).mono ?_
  rintro e w2 ⟨rfl, ys, h1, h2, h3, h4⟩
  have P1 := Lib.hid h1
  have P2 := Lib.hid h2
  have P3 := Lib.hid h3
  have P4 := Lib.hid h4
  have X2 := Lib.hid (X1.out.keeps h4 (NF.out _ (Nat.le_refl _)))
  clear h1 h2 h3 h4 c1
  obtain ⟨W3, hW3⟩ : ∃ W3, w2.alloc (.cells #[.int .i64 x.n, .int .i64 x.e.d, .int .i64 x.e.i, .int .i64 x.e.k] 73) = W3 := ⟨_, rfl⟩
  have B3 := Lib.hid (show Below w2.heap.size w2 W3 by rw [← hW3]; exact wbox _ _)
  have X3 := Lib.hid (X2.out.below B3.out)
  have Y3 := Lib.hid (show Blk W3 73 w2.heap.size #[.int .i64 x.n, .int .i64 x.e.d, .int .i64 x.e.i, .int .i64 x.e.k] by rw [← hW3]; exact Blk.new _ _ _)
  have x0 := X3.out.cell 0
  have x1 := X3.out.cell 1
  have x2 := X3.out.cell 2
  have fx : ∀ o, W3.frozen? ⟨w.heap.size, o, none⟩ = false := fun o => X3.out.free o
  have z0 := Y3.out.cell 0
  have z1 := Y3.out.cell 1
  have z2 := Y3.out.cell 2
  have z3 := Y3.out.cell 3
  simp at x0 x1 x2 z0 z1 z2 z3
  go_wp2_with fail
  go_region
  all_goals
    go_wp2
    have kp : Keeps (fun k => k = w.heap.size) w2 (((W3.setCell ⟨w.heap.size, 0, none⟩ (.int .i64 x.e.d)).setCell ⟨w.heap.size, 1, none⟩ (.int .i64 x.e.i)).setCell ⟨w.heap.size, 2, none⟩ (.int .i64 x.e.k)).drew := ((((Keeps.of (F := fun k => k = w.heap.size) B3.out).set (.inl rfl) _ _).set (.inl rfl) _ _).set (.inl rfl) _ _).drew
    have kq : Keeps (HFE g (.slice (some ⟨b, 0, none⟩) n cap) m) w (((W3.setCell ⟨w.heap.size, 0, none⟩ (.int .i64 x.e.d)).setCell ⟨w.heap.size, 1, none⟩ (.int .i64 x.e.i)).setCell ⟨w.heap.size, 2, none⟩ (.int .i64 x.e.k)).drew := (((((Keeps.of (F := HFE g (.slice (some ⟨b, 0, none⟩) n cap) m) B1.out).trans P4.out (fun _ q => .inl q)).next B3.out).set (.inr (by simp)) _ _).set (.inr (by simp)) _ _ |>.set (.inr (by simp)) _ _).drew
    exact bodyPost_ret (v := .tuple #[.int .i64 x.n, .agg #[.int .i64 x.e.d, .int .i64 x.e.i, .int .i64 x.e.k], .bool true]) (by simp [results, Try.results30, go_sem, x0, x1, x2]) rfl ⟨rfl, ys, P1.out, P2.out, P3.out.keeps kp (fun k q e => NF.out k (by omega) q), kq⟩
set_option maxHeartbeats 4000000 in
theorem remove_noneE (g : Nat) (v : Value) (m : Nat) (xs : List Te) (id : Int) (w : World) (h : HSE L TT w g v m xs) (hr : InRE id) (hn : ∀ t ∈ xs, t.n ≠ id) :
    Calls Try.prog 27 #[.pointer (some ⟨g, 0, none⟩), .int .i64 id] w fun e w' => e = .returned (.tuple #[.agg #[.int .i64 0, .int .i64 0, .int .i64 0], .bool false]) ∧ Below w.heap.size w w' := by
  obtain ⟨W2, hW2, hB, hA, hN⟩ := two_evE w
  have B2 := Lib.hid hB
  have A2 := Lib.hid hA
  have H2 := h.below hB
  obtain ⟨D, hD, hP⟩ := H2.map
  have BK := Lib.hid H2.blk
  have c2 := H2.blk.cell 2
  simp [HVE] at c2
  have M := Lib.hid hD
  have R := Lib.hid hr
  have hh := hP.gone hn
  have x0 := hA.cell 0
  have x1 := hA.cell 1
  have x2 := hA.cell 2
  have fx : ∀ o, W2.frozen? ⟨w.heap.size, o, none⟩ = false := fun o => A2.out.free o
  have y0 := hN.cell 0
  have y1 := hN.cell 1
  have y2 := hN.cell 2
  simp at x0 x1 x2 y0 y1 y2
  clear h hD hr hn hP H2 hB hA hN
  go_enter Try.func27, Try.ntmps27
  go_wp2_with fail
  refine (shut_noE g v m _ BK.out).mono ?_
  rintro e w1 ⟨rfl, rfl⟩
  go_wp2_with (at_lookup; refine wpList_lookup_own_ok_int _ rfl _ _ 67 rfl 3 3 .i64 keyIE Try.underlying67 Try.underlying3 (zeroIE _) m _ D rfl M.out _ _ rfl (Maps.keyOf_int_mk Try.underlying3 (wf_i64E R.out)) ?_; intro c hat hwc; clear hat hwc)
  go_wp2
  exact bodyPost_ret (v := .tuple #[.agg #[.int .i64 0, .int .i64 0, .int .i64 0], .bool false]) (by simp [results, Try.results27, go_sem, x0, x1, x2]) rfl ⟨rfl, ((B2.out.setCell (by simp) _).setCell (by simp) _).setCell (by simp) _⟩
set_option maxHeartbeats 4000000 in
theorem remove_someE [Nonempty (OrdE ltb)] (ok : LessE L ltb) (g b n cap m i : Nat) (xs : List Te) (x : Te) (w : World) (h : HSE L TT w g (.slice (some ⟨b, 0, none⟩) n cap) m xs) (hn : xs.length = n) (hx : xs[i]? = some x) (hq : HqE ltb xs) :
    Calls Try.prog 27 #[.pointer (some ⟨g, 0, none⟩), .int .i64 x.n] w (TookBE L TT ltb g b n cap m xs x (.tuple #[.agg #[.int .i64 x.e.d, .int .i64 x.e.i, .int .i64 x.e.k], .bool true]) w) := by
  have OK := Lib.hid ok
  obtain ⟨W2, hW2, hB, hA, hN⟩ := two_evE w
  have NF := Lib.hid (fun (k : Nat) (hk : w.heap.size ≤ k) => ltF h hk)
  have B2 := Lib.hid hB
  have A2 := Lib.hid hA
  have H2 := h.below hB
  have H := Lib.hid H2
  obtain ⟨D, hD, hP⟩ := H2.map
  have BK := Lib.hid H2.blk
  have c2 := H2.blk.cell 2
  simp [HVE] at c2
  have M := Lib.hid hD
  have R := Lib.hid (h.rng x (List.mem_of_getElem? hx))
  have hh := has_memE hP hx
  have LK := Lib.hid (fun (c : Int) => hP.look (c := c) hx)
  have HQ := Lib.hid hq
  have LN := Lib.hid hn
  have X := Lib.hid hx
  have hfd : ∀ w : World, (Instr.field 73 (.agg #[.int .i64 x.n, .int .i64 x.e.d, .int .i64 x.e.i, .int .i64 x.e.k]) 1).run Try.prog w = .ok (.agg #[.int .i64 x.e.d, .int .i64 x.e.i, .int .i64 x.e.k]) w := fun _ => by kernel_rfl
  clear h hD hP hx hn hq H2 hB hA hN ok
  go_enter Try.func27, Try.ntmps27
  go_wp2_with fail
  refine (shut_noE g _ m _ BK.out).mono ?_
  rintro e w1 ⟨rfl, rfl⟩
  go_wp2_with (at_lookup; refine wpList_lookup_own_ok_int _ rfl _ _ 67 rfl 3 3 .i64 keyIE Try.underlying67 Try.underlying3 (zeroIE _) m _ D rfl M.out _ _ rfl (Maps.keyOf_int_mk Try.underlying3 (wf_i64E R.out)) ?_; intro c hat hwc; obtain rfl := LK.out c hat; clear hat hwc)
  refine (take_anyE OK.out g b n cap m i xs x _ LN.out H.out X.out HQ.out).mono ?_
  rintro e w3 ⟨rfl, ys, h1, h2, h3, h4⟩
  have P1 := Lib.hid h1
  have P2 := Lib.hid h2
  have P3 := Lib.hid h3
  have P4 := Lib.hid h4
  have A3 := Lib.hid (A2.out.keeps h4 (NF.out _ (Nat.le_refl _)))
  clear h1 h2 h3 h4 c2
  have x0 := A3.out.cell 0
  have x1 := A3.out.cell 1
  have x2 := A3.out.cell 2
  have fx : ∀ o, w3.frozen? ⟨w.heap.size, o, none⟩ = false := fun o => A3.out.free o
  simp at x0 x1 x2
  go_wp2
  have kp : Keeps (fun k => k = w.heap.size) w3 (((w3.setCell ⟨w.heap.size, 0, none⟩ (.int .i64 x.e.d)).setCell ⟨w.heap.size, 1, none⟩ (.int .i64 x.e.i)).setCell ⟨w.heap.size, 2, none⟩ (.int .i64 x.e.k)) := (((Keeps.refl (fun k => k = w.heap.size) w3).set (.inl rfl) _ _).set (.inl rfl) _ _).set (.inl rfl) _ _
  have kq : Keeps (HFE g (.slice (some ⟨b, 0, none⟩) n cap) m) w (((w3.setCell ⟨w.heap.size, 0, none⟩ (.int .i64 x.e.d)).setCell ⟨w.heap.size, 1, none⟩ (.int .i64 x.e.i)).setCell ⟨w.heap.size, 2, none⟩ (.int .i64 x.e.k)) := ((((Keeps.of (F := HFE g (.slice (some ⟨b, 0, none⟩) n cap) m) B2.out).trans P4.out (fun _ q => .inl q)).set (.inr (by simp)) _ _).set (.inr (by simp)) _ _).set (.inr (by simp)) _ _
  exact bodyPost_ret (v := .tuple #[.agg #[.int .i64 x.e.d, .int .i64 x.e.i, .int .i64 x.e.k], .bool true]) (by simp [results, Try.results27, go_sem, x0, x1, x2]) rfl ⟨rfl, ys, P1.out, P2.out, P3.out.keeps kp (fun k q e => NF.out k (by omega) q), kq⟩
theorem TookBE.stay {g b cap m : Nat} {xs ts : List Te} {x : Te} {v : Value} {F : Nat → Prop} {w w' : World} {e : Ending} (h : TookBE L TT ltb g b xs.length cap m xs x v w e w') (hp : xs.Perm ts) (hF : ∀ k, F k ↔ HFE g (.slice (some ⟨b, 0, none⟩) xs.length cap) m k) : e = .returned v ∧ ∃ us, ts.Perm (x :: us) ∧ Stay7E L TT ltb w g F us w' := by
  obtain ⟨rfl, ys, h1, h2, h3, h4⟩ := h
  exact ⟨rfl, ys, hp.symm.trans h2, HFE g (.slice (some ⟨b, 0, none⟩) ys.length cap) m, ⟨_, cap, m, ys, h3, h1, List.Perm.refl _, fun k => Iff.rfl⟩, keepsFE h4 (fun k q => (hF k).mpr q), fun k q => .inl ((hF k).mpr q), fun k q => h3.lies k q⟩
def PoppedE (L : FuncId) (TT : TypeId) (ltb : Ev → Ev → Bool) (w : World) (g : Nat) (F : Nat → Prop) (ts : List Te) (e : Ending) (w' : World) : Prop := (ts = [] ∧ e = .returned (.tuple #[.int .i64 0, .agg #[.int .i64 0, .int .i64 0, .int .i64 0], .bool false]) ∧ Stay7E L TT ltb w g F ts w') ∨ (∃ (x : Te) (us : List Te), MinInE ltb ts x ∧ ts.Perm (x :: us) ∧ e = .returned (.tuple #[.int .i64 x.n, .agg #[.int .i64 x.e.d, .int .i64 x.e.i, .int .i64 x.e.k], .bool true]) ∧ Stay7E L TT ltb w g F us w')
theorem hpop_anyE [Nonempty (OrdE ltb)] (ok : LessE L ltb) (g : Nat) (F : Nat → Prop) (ts : List Te) (w : World) (h : Hp7E L TT ltb w g F ts) : Calls Try.prog 30 #[.pointer (some ⟨g, 0, none⟩)] w (PoppedE L TT ltb w g F ts) := by
  have h' := h
  obtain ⟨a, cap, m, xs, hs, hq, hp, hF⟩ := h
  rcases Nat.eq_zero_or_pos xs.length with z | z
  · refine (pop_noneE g cap m a w (by have := hs.blk; rw [z] at this; exact this)).mono ?_
    rintro e w' ⟨rfl, hb⟩
    exact .inl ⟨List.length_eq_zero_iff.mp (by rw [← hp.length_eq]; exact z), rfl, h'.stay hb⟩
  · obtain ⟨b, cap', hv⟩ := hs.slice z
    cases hv
    obtain ⟨x, hx⟩ := getXE rfl z
    refine (pop_someE ok g b xs.length cap m xs x w hs rfl hx hq).mono ?_
    intro e w' ht
    obtain ⟨_, hm⟩ := first_minE hq hp hx
    obtain ⟨rfl, us, hu, hst⟩ := ht.stay hp hF
    exact .inr ⟨x, us, hm, hu, rfl, hst⟩
def RemovedE (L : FuncId) (TT : TypeId) (ltb : Ev → Ev → Bool) (w : World) (g : Nat) (F : Nat → Prop) (ts : List Te) (id : Int) (e : Ending) (w' : World) : Prop := ((∀ t ∈ ts, t.n ≠ id) ∧ e = .returned (.tuple #[.agg #[.int .i64 0, .int .i64 0, .int .i64 0], .bool false]) ∧ Stay7E L TT ltb w g F ts w') ∨ (∃ (x : Te) (us : List Te), x.n = id ∧ ts.Perm (x :: us) ∧ e = .returned (.tuple #[.agg #[.int .i64 x.e.d, .int .i64 x.e.i, .int .i64 x.e.k], .bool true]) ∧ Stay7E L TT ltb w g F us w')
theorem hremove_anyE [Nonempty (OrdE ltb)] (ok : LessE L ltb) (g : Nat) (F : Nat → Prop) (ts : List Te) (id : Int) (w : World) (h : Hp7E L TT ltb w g F ts) (hr : InRE id) : Calls Try.prog 27 #[.pointer (some ⟨g, 0, none⟩), .int .i64 id] w (RemovedE L TT ltb w g F ts id) := by
  have h' := h
  obtain ⟨a, cap, m, xs, hs, hq, hp, hF⟩ := h
  rcases find_idE xs id with hn | ⟨i, x, hx, rfl⟩
  · refine (remove_noneE g _ m xs id w hs hr hn).mono ?_
    rintro e w' ⟨rfl, hb⟩
    exact .inl ⟨fun t ht => hn t (hp.mem_iff.mpr ht), rfl, h'.stay hb⟩
  · obtain ⟨b, cap', hv⟩ := hs.slice (by have := lt_atE hx; omega)
    cases hv
    refine (remove_someE ok g b xs.length cap m i xs x w hs rfl hx hq).mono ?_
    intro e w' ht
    obtain ⟨rfl, us, hu, hst⟩ := ht.stay hp hF
    exact .inr ⟨x, us, rfl, hu, rfl, hst⟩
end Go.Proofs.Ytfeemdljlikpbaa
