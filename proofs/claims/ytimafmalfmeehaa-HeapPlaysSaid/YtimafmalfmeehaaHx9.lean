/-
  Package heap as landed: the heap in memory; New, shut, Len, Min, Get: contracts.
-/
import Derived.Test.YtimafmalfmeehaaHx8
namespace Go.Proofs.Ytimafmalfmeehaa
open Go.RowKit Go.Maps

/-- package heap's heap at block g, in the blocks of F, holds these things -/
def Hp7 (w : World) (g : Nat) (F : Nat → Prop) (ts : List Th) : Prop := ∃ a cap m xs, HS w g (.slice a xs.length cap) m xs ∧ Hq xs ∧ xs.Perm ts ∧ (∀ k, F k ↔ HF g (.slice a xs.length cap) m k)
theorem HS.keepsV {G : Nat → Prop} {w w' : World} {g : Nat} {v : Value} {m : Nat} {xs : List Th} (h : HS w g v m xs) (k : Keeps G w w') (hG : ∀ k, HF g v m k → ¬ G k) : HS w' g v m xs := by
  obtain ⟨D, hD, hP⟩ := h.map
  exact ⟨h.blk.keeps k (hG _ (.inl rfl)), owns_keeps h.row k (fun x e => hG _ (.inr (.inr e))), ⟨D, hD.keeps k (hG _ (.inr (.inl rfl))), hP⟩, h.ids, h.rng, h.len⟩
theorem HS.below {w w' : World} {g : Nat} {v : Value} {m : Nat} {xs : List Th} (h : HS w g v m xs) (k : Below w.heap.size w w') : HS w' g v m xs := h.keepsV (G := fun _ => False) (Keeps.of k) (fun _ _ q => q)
theorem HS.mlt {w : World} {g : Nat} {v : Value} {m : Nat} {xs : List Th} (h : HS w g v m xs) : m < w.heap.size := by
  obtain ⟨D, ⟨es, clock, hb, _⟩, _⟩ := h.map
  exact (Array.getElem?_eq_some_iff.1 hb).1
theorem HS.lies {w : World} {g : Nat} {v : Value} {m : Nat} {xs : List Th} (h : HS w g v m xs) : Lies (HF g v m) w := fun k q => by
  rcases q with e | e | e
  · rw [e]; exact h.blk.lt
  · rw [e]; exact h.mlt
  · exact (h.row.lt k e).2
theorem Hp7.lies {w : World} {g : Nat} {F : Nat → Prop} {ts : List Th} (h : Hp7 w g F ts) : Lies F w := by
  obtain ⟨a, cap, m, xs, hs, _, _, hF⟩ := h
  exact fun k q => hs.lies k ((hF k).mp q)
theorem Hp7.keeps {w w' : World} {g : Nat} {F G : Nat → Prop} {ts : List Th} (h : Hp7 w g F ts) (k : Keeps G w w') (ap : Apart F G) : Hp7 w' g F ts := by
  obtain ⟨a, cap, m, xs, hs, hq, hp, hF⟩ := h
  exact ⟨a, cap, m, xs, hs.keepsV k (fun x q => ap x ((hF x).mpr q)), hq, hp, hF⟩
theorem Hp7.own {w : World} {g : Nat} {F : Nat → Prop} {ts : List Th} (h : Hp7 w g F ts) : Own ts := by
  obtain ⟨a, cap, m, xs, hs, hq, hp, hF⟩ := h
  exact hs.ids.perm hp
/-- a call on the heap that leaves the things ts -/
def Stay7 (w : World) (g : Nat) (F : Nat → Prop) (ts : List Th) (w' : World) : Prop := ∃ F', Hp7 w' g F' ts ∧ Moves F F' w w'
theorem Hp7.stay {w w' : World} {g : Nat} {F : Nat → Prop} {ts : List Th} (h : Hp7 w g F ts) (k : Below w.heap.size w w') : Stay7 w g F ts w' :=
  ⟨F, h.keeps (G := fun _ => False) (Keeps.of k) (fun _ _ q => q), Moves.of k h.lies⟩

theorem plc_nil : Plc (.map [] : DataW Unit) [] := ⟨rfl, fun id => by simp [Maps.has_eq], fun i t h => by simp at h⟩
theorem new_hs (w : World) : HS ((w.alloc (.map #[] 0)).alloc (.cells (HV (.slice none 0 0) w.heap.size false) 54)) (w.heap.size + 1) (.slice none 0 0) w.heap.size [] :=
  ⟨Blk.by (wsize _ _), World.ownsRow_nil _ _ _ _, ⟨_, World.ownsMap.alloc (MapP.of (World.ownsMap_made w Try.prog 3 _)) _, plc_nil⟩, List.Pairwise.nil, (fun _ h => by cases h), by decide⟩
theorem hnew_any (w : World) : Calls Try.prog 9 #[.func (.func 10) #[] #[]] w fun e w' => ∃ g F, e = .returned (.pointer (some ⟨g, 0, none⟩)) ∧ Hp7 w' g F [] ∧ From F w.heap.size ∧ Below w.heap.size w w' := by
  have hmm := @run_makeMap Try.prog
  go_enter Try.func9, Try.ntmps9
  go_wp2
  go_ret
  refine ⟨w.heap.size + 1, HF (w.heap.size + 1) (.slice none 0 0) w.heap.size, rfl, ⟨none, 0, w.heap.size, [], new_hs w, Hq.nil, List.Perm.refl _, fun k => Iff.rfl⟩, fun k q => ?_, wbox2 _ _ _⟩
  rcases q with e | e | e
  · omega
  · omega
  · cases e
theorem shut_no (g : Nat) (v : Value) (m : Nat) (w : World) (hb : Blk w 54 g (HV v m false)) : Calls Try.prog 25 #[.pointer (some ⟨g, 0, none⟩)] w fun e w' => e = .returned (.bool false) ∧ w = w' := by
  have hnil : ∀ w : World, (binOp BinOp.eql 26 (.func (.func 10) #[] #[]) .nilFunc).run Try.prog w = .ok (.bool false) w := fun _ => by kernel_rfl
  have c0 := hb.cell 0
  have c3 := hb.cell 3
  simp [HV] at c0 c3
  clear hb
  go_enter Try.func25, Try.ntmps25
  go_wp2
  go_ret
  exact ⟨rfl, rfl⟩
theorem len_any (g : Nat) (a : Option Addr) (n cap m : Nat) (w : World) (hb : Blk w 54 g (HV (.slice a n cap) m false)) : Calls Try.prog 24 #[.pointer (some ⟨g, 0, none⟩)] w fun e w' => e = .returned (.int .i64 n) ∧ w = w' := by
  have c1 := hb.cell 1
  simp [HV] at c1
  clear hb
  go_enter Try.func24, Try.ntmps24
  go_wp2
  go_ret
  exact ⟨rfl, rfl⟩
theorem hlen_any (g : Nat) (F : Nat → Prop) (ts : List Th) (w : World) (h : Hp7 w g F ts) : Calls Try.prog 24 #[.pointer (some ⟨g, 0, none⟩)] w fun e w' => e = .returned (.int .i64 (ts.length : Int)) ∧ Stay7 w g F ts w' := by
  have h' := h
  obtain ⟨a, cap, m, xs, hs, hq, hp, hF⟩ := h
  refine (len_any g a xs.length cap m w hs.blk).mono ?_
  rintro e w' ⟨rfl, rfl⟩
  exact ⟨by rw [hp.length_eq], h'.stay (Below.refl _ _)⟩
/-! ### Min -/
theorem below_drewN {n : Nat} {w W : World} (h : Below n w W) (k : Nat) : Below n w (W.drewN k) := ⟨h.os, h.tape, h.output, h.size, h.block⟩
theorem min_none (g cap m : Nat) (a : Option Addr) (w : World) (hb : Blk w 54 g (HV (.slice a 0 cap) m false)) :
    Calls Try.prog 17 #[.pointer (some ⟨g, 0, none⟩)] w fun e w' => e = .returned (.tuple #[.int .i64 0, .int .i64 0, .bool false]) ∧ w = w' := by
  have BK := Lib.hid hb
  clear hb
  go_enter Try.func17, Try.ntmps17
  go_wp2_with fail
  refine (len_any g a 0 cap m _ BK.out).mono ?_
  rintro e w1 ⟨rfl, rfl⟩
  go_wp2
  go_ret3
  exact ⟨rfl, rfl⟩
theorem min_some (g b n cap m : Nat) (x : Th) (w : World) (hb : Blk w 54 g (HV (.slice (some ⟨b, 0, none⟩) n cap) m false)) (hx : ThAt w b 0 x) (hn : 0 < n) :
    Calls Try.prog 17 #[.pointer (some ⟨g, 0, none⟩)] w fun e w' => e = .returned (.tuple #[.int .i64 x.id, .int .i64 x.x, .bool true]) ∧ Below w.heap.size w w' := by
  have BK := Lib.hid hb
  have c1 := hb.cell 1
  simp [HV] at c1
  have x0 := hx.c0
  have x1 := hx.c1
  simp at x1
  have t1 : ((n : Int) == 0) = false := by simp; omega
  have n1 : (0 : Int) < (n : Int) := by omega
  clear hb hx
  go_enter Try.func17, Try.ntmps17
  go_wp2_with fail
  refine (len_any g _ n cap m _ BK.out).mono ?_
  rintro e w1 ⟨rfl, rfl⟩
  go_wp2
  go_quiet (fail)
  go_wp2
  go_ret3
  exact ⟨rfl, below_drewN (wbox _ _) _⟩
theorem first_min {xs ts : List Th} {x : Th} (hq : Hq xs) (hp : xs.Perm ts) (hx : xs[0]? = some x) : ∃ k, ts[k]? = some x ∧ MinIn ts ts.length k := by
  obtain ⟨k, hk⟩ := List.getElem?_of_mem (hp.mem_iff.mp (List.mem_of_getElem? hx))
  refine ⟨k, hk, x, hk, fun s hs => ?_⟩
  obtain ⟨j, hj⟩ := List.getElem?_of_mem (hp.mem_iff.mpr (List.mem_of_mem_take hs))
  exact hq.first hx j s hj
theorem hmin_any (g : Nat) (F : Nat → Prop) (ts : List Th) (w : World) (h : Hp7 w g F ts) : Calls Try.prog 17 #[.pointer (some ⟨g, 0, none⟩)] w fun e w' => ((ts = [] ∧ e = .returned (.tuple #[.int .i64 0, .int .i64 0, .bool false])) ∨ (∃ (k : Nat) (t : Th), ts[k]? = some t ∧ MinIn ts ts.length k ∧ e = .returned (.tuple #[.int .i64 t.id, .int .i64 t.x, .bool true]))) ∧ Stay7 w g F ts w' := by
  have h' := h
  obtain ⟨a, cap, m, xs, hs, hq, hp, hF⟩ := h
  rcases Nat.eq_zero_or_pos xs.length with z | z
  · refine (min_none g cap m a w (by have := hs.blk; rw [z] at this; exact this)).mono ?_
    rintro e w' ⟨rfl, rfl⟩
    have : ts = [] := List.length_eq_zero_iff.mp (by rw [← hp.length_eq]; exact z)
    exact ⟨.inl ⟨this, rfl⟩, h'.stay (Below.refl _ _)⟩
  · obtain ⟨b, cap', hv⟩ := hs.slice z
    cases hv
    obtain ⟨x, hx⟩ := getX rfl z
    refine (min_some g b xs.length cap m x w hs.blk (by have := owns_at hs.row hx; simpa using this) z).mono ?_
    rintro e w' ⟨rfl, hb⟩
    obtain ⟨k, hk, hm⟩ := first_min hq hp hx
    exact ⟨.inr ⟨k, x, hk, hm, rfl⟩, h'.stay hb⟩
/-! ### Get -/
theorem Plc.look {D : DataW Unit} {xs : List Th} (h : Plc D xs) {i : Nat} {t : Th} (ht : xs[i]? = some t) {c : Int} (hc : D.atKey (.int .i64 t.id) (.lit (.int .i64 0)) = .lit (.int .i64 c)) : c = (i : Int) := by
  rw [h.at' i t ht] at hc
  simpa using hc.symm
theorem Plc.gone {D : DataW Unit} {xs : List Th} (h : Plc D xs) {id : Int} (hn : ∀ t ∈ xs, t.id ≠ id) : Maps.has D (.int .i64 id) = false := by
  rcases e : Maps.has D (.int .i64 id) with _ | _
  · rfl
  · obtain ⟨t, ht, q⟩ := (h.has id).mp e
    exact absurd q (hn t ht)
set_option maxHeartbeats 2000000 in
theorem get_none (g : Nat) (v : Value) (m : Nat) (xs : List Th) (id : Int) (w : World) (h : HS w g v m xs) (hr : InR id) (hn : ∀ t ∈ xs, t.id ≠ id) :
    Calls Try.prog 15 #[.pointer (some ⟨g, 0, none⟩), .int .i64 id] w fun e w' => e = .returned (.tuple #[.int .i64 0, .bool false]) ∧ w = w' := by
  obtain ⟨D, hD, hP⟩ := h.map
  have c2 := h.blk.cell 2
  simp [HV] at c2
  have M := Lib.hid hD
  have R := Lib.hid hr
  have hh := hP.gone hn
  clear h hD hr hn hP
  go_enter Try.func15, Try.ntmps15
  go_wp2_with (at_lookup; refine wpList_lookup_own_ok_int _ rfl _ _ 52 rfl 3 3 .i64 keyI Try.underlying52 Try.underlying3 (zeroI _) m _ D rfl M.out _ _ rfl (Maps.keyOf_int_mk Try.underlying3 (wf_i64 R.out)) ?_; intro c hat hwc; clear hat hwc)
  go_wp2
  go_ret2
  exact ⟨rfl, rfl⟩
set_option maxHeartbeats 2000000 in
theorem get_some (g b n cap m i : Nat) (xs : List Th) (x : Th) (w : World) (h : HS w g (.slice (some ⟨b, 0, none⟩) n cap) m xs) (hn : xs.length = n) (hx : xs[i]? = some x) :
    Calls Try.prog 15 #[.pointer (some ⟨g, 0, none⟩), .int .i64 x.id] w fun e w' => e = .returned (.tuple #[.int .i64 x.x, .bool true]) ∧ w = w' := by
  subst hn
  obtain ⟨D, hD, hP⟩ := h.map
  have c1 := h.blk.cell 1
  have c2 := h.blk.cell 2
  simp [HV] at c1 c2
  have M := Lib.hid hD
  have R := Lib.hid (h.rng x (List.mem_of_getElem? hx))
  have hh := has_mem hP hx
  have LK := Lib.hid (fun (c : Int) => hP.look (c := c) hx)
  have x1 := (owns_at h.row hx).c1
  have il := lt_at hx
  have nl := h.len
  obtain ⟨n, hn⟩ : ∃ n, xs.length = n := ⟨_, rfl⟩
  rw [hn] at c1 il nl
  have i1 : (i : Int) < (n : Int) := by omega
  have i2 : 0 ≤ (i : Int) := by omega
  clear h hD hP hx hn
  go_enter Try.func15, Try.ntmps15
  go_wp2_with (at_lookup; refine wpList_lookup_own_ok_int _ rfl _ _ 52 rfl 3 3 .i64 keyI Try.underlying52 Try.underlying3 (zeroI _) m _ D rfl M.out _ _ rfl (Maps.keyOf_int_mk Try.underlying3 (wf_i64 R.out)) ?_; intro c hat hwc; obtain rfl := LK.out c hat; clear hat hwc)
  go_wp2
  go_ret2
  exact ⟨rfl, rfl⟩
theorem place_no {xs ts : List Th} (hp : xs.Perm ts) {id : Int} (hn : ∀ t ∈ xs, t.id ≠ id) : placeT ts id < 0 := by
  rw [place_none (fun t ht => hn t (hp.mem_iff.mpr ht))]; omega
theorem place_yes {xs ts : List Th} (hp : xs.Perm ts) (ow : Own xs) {i : Nat} {x : Th} (hx : xs[i]? = some x) : ∃ k : Nat, placeT ts x.id = k ∧ ts[k]? = some x := by
  have ot := ow.perm hp
  obtain ⟨k, hk⟩ := List.getElem?_of_mem (hp.mem_iff.mp (List.mem_of_getElem? hx))
  refine ⟨k, place_found hk rfl (fun s hs e => ?_), hk⟩
  obtain ⟨j, hj⟩ := List.getElem?_of_mem hs
  rw [List.getElem?_take] at hj
  split at hj
  · next hlt => exact absurd (own_same ot hj hk e) (by omega)
  · cases hj
theorem find_id (xs : List Th) (id : Int) : (∀ t ∈ xs, t.id ≠ id) ∨ ∃ (i : Nat) (x : Th), xs[i]? = some x ∧ x.id = id := by
  by_cases h : ∃ t ∈ xs, t.id = id
  · obtain ⟨t, ht, e⟩ := h
    obtain ⟨i, hi⟩ := List.getElem?_of_mem ht
    exact .inr ⟨i, t, hi, e⟩
  · exact .inl (fun t ht e => h ⟨t, ht, e⟩)
theorem hget_any (g : Nat) (F : Nat → Prop) (ts : List Th) (id : Int) (w : World) (h : Hp7 w g F ts) (hr : InR id) : Calls Try.prog 15 #[.pointer (some ⟨g, 0, none⟩), .int .i64 id] w fun e w' => ((placeT ts id < 0 ∧ e = .returned (.tuple #[.int .i64 0, .bool false])) ∨ (∃ (k : Nat) (t : Th), placeT ts id = k ∧ ts[k]? = some t ∧ e = .returned (.tuple #[.int .i64 t.x, .bool true]))) ∧ Stay7 w g F ts w' := by
  have h' := h
  obtain ⟨a, cap, m, xs, hs, hq, hp, hF⟩ := h
  rcases find_id xs id with hn | ⟨i, x, hx, rfl⟩
  · refine (get_none g _ m xs id w hs hr hn).mono ?_
    rintro e w' ⟨rfl, rfl⟩
    exact ⟨.inl ⟨place_no hp hn, rfl⟩, h'.stay (Below.refl _ _)⟩
  · obtain ⟨b, cap', hv⟩ := hs.slice (by have := lt_at hx; omega)
    cases hv
    refine (get_some g b xs.length cap m i xs x w hs rfl hx).mono ?_
    rintro e w' ⟨rfl, rfl⟩
    obtain ⟨k, hk, ht⟩ := place_yes hp hs.ids hx
    exact ⟨.inr ⟨k, x, hk, ht, rfl⟩, h'.stay (Below.refl _ _)⟩
end Go.Proofs.Ytimafmalfmeehaa
