/-
  Package heap as landed: Pop, Remove: contracts.
-/
import Derived.Test.YtimafmalfmeehaaHx10
namespace Go.Proofs.Ytimafmalfmeehaa
open Go.RowKit Go.Maps

theorem pop_none (g cap m : Nat) (a : Option Addr) (w : World) (hb : Blk w 54 g (HV (.slice a 0 cap) m false)) :
    Calls Try.prog 11 #[.pointer (some ⟨g, 0, none⟩)] w fun e w' => e = .returned (.tuple #[.int .i64 0, .int .i64 0, .bool false]) ∧ w = w' := by
  have BK := Lib.hid hb
  have c1 := hb.cell 1
  simp [HV] at c1
  clear hb
  go_enter Try.func11, Try.ntmps11
  go_wp2_with fail
  refine (shut_no g _ m _ BK.out).mono ?_
  rintro e w1 ⟨rfl, rfl⟩
  go_wp2
  go_ret3
  exact ⟨rfl, rfl⟩
/-- what a call took, what is left -/
def TookB (g b n cap m : Nat) (xs : List Th) (x : Th) (v : Value) (w : World) (e : Ending) (w' : World) : Prop := e = .returned v ∧ ∃ ys : List Th, Hq ys ∧ xs.Perm (x :: ys) ∧ HS w' g (.slice (some ⟨b, 0, none⟩) ys.length cap) m ys ∧ Keeps (HF g (.slice (some ⟨b, 0, none⟩) n cap) m) w w'
set_option maxHeartbeats 2000000 in
theorem pop_some (g b n cap m : Nat) (xs : List Th) (x : Th) (w : World) (h : HS w g (.slice (some ⟨b, 0, none⟩) n cap) m xs) (hn : xs.length = n) (hx : xs[0]? = some x) (hq : Hq xs) :
    Calls Try.prog 11 #[.pointer (some ⟨g, 0, none⟩)] w (TookB g b n cap m xs x (.tuple #[.int .i64 x.id, .int .i64 x.x, .bool true]) w) := by
  have H := Lib.hid h
  have BK := Lib.hid h.blk
  have c1 := h.blk.cell 1
  simp [HV] at c1
  have HQ := Lib.hid hq
  have LN := Lib.hid hn
  have X := Lib.hid hx
  have nl := lt_at hx
  rw [hn] at nl
  have t1 : ((n : Int) == 0) = false := by simp; omega
  clear h hn hx hq
  go_enter Try.func11, Try.ntmps11
  go_wp2_with fail
  refine (shut_no g _ m _ BK.out).mono ?_
  rintro e w1 ⟨rfl, rfl⟩
  go_wp2_with fail
  refine (take_any g b n cap m 0 xs x _ LN.out H.out X.out HQ.out).mono ?_
  rintro e w2 ⟨rfl, ys, h1, h2, h3, h4⟩
  have H1 := Lib.hid h1
  have H2 := Lib.hid h2
  have H3 := Lib.hid h3
  have H4 := Lib.hid h4
  clear h1 h2 h3 h4 c1
  go_wp2
  go_quiet (fail)
  go_wp2
  go_ret3
  have bl := below_drewN (wbox w2 (.cells #[.int .i64 x.id, .int .i64 x.x] 57)) nq
  exact ⟨rfl, ys, H1.out, H2.out, H3.out.below bl, H4.out.next bl⟩
set_option maxHeartbeats 2000000 in
theorem remove_none (g : Nat) (v : Value) (m : Nat) (xs : List Th) (id : Int) (w : World) (h : HS w g v m xs) (hr : InR id) (hn : ∀ t ∈ xs, t.id ≠ id) :
    Calls Try.prog 13 #[.pointer (some ⟨g, 0, none⟩), .int .i64 id] w fun e w' => e = .returned (.tuple #[.int .i64 0, .bool false]) ∧ w = w' := by
  obtain ⟨D, hD, hP⟩ := h.map
  have BK := Lib.hid h.blk
  have c2 := h.blk.cell 2
  simp [HV] at c2
  have M := Lib.hid hD
  have R := Lib.hid hr
  have hh := hP.gone hn
  clear h hD hr hn hP
  go_enter Try.func13, Try.ntmps13
  go_wp2_with fail
  refine (shut_no g _ m _ BK.out).mono ?_
  rintro e w1 ⟨rfl, rfl⟩
  go_wp2_with (at_lookup; refine wpList_lookup_own_ok_int _ rfl _ _ 52 rfl 3 3 .i64 keyI Try.underlying52 Try.underlying3 (zeroI _) m _ D rfl M.out _ _ rfl (Maps.keyOf_int_mk Try.underlying3 (wf_i64 R.out)) ?_; intro c hat hwc; clear hat hwc)
  go_wp2
  go_ret2
  exact ⟨rfl, rfl⟩
set_option maxHeartbeats 2000000 in
theorem remove_some (g b n cap m i : Nat) (xs : List Th) (x : Th) (w : World) (h : HS w g (.slice (some ⟨b, 0, none⟩) n cap) m xs) (hn : xs.length = n) (hx : xs[i]? = some x) (hq : Hq xs) :
    Calls Try.prog 13 #[.pointer (some ⟨g, 0, none⟩), .int .i64 x.id] w (TookB g b n cap m xs x (.tuple #[.int .i64 x.x, .bool true]) w) := by
  obtain ⟨D, hD, hP⟩ := h.map
  have H := Lib.hid h
  have BK := Lib.hid h.blk
  have c2 := h.blk.cell 2
  simp [HV] at c2
  have M := Lib.hid hD
  have R := Lib.hid (h.rng x (List.mem_of_getElem? hx))
  have hh := has_mem hP hx
  have LK := Lib.hid (fun (c : Int) => hP.look (c := c) hx)
  have HQ := Lib.hid hq
  have LN := Lib.hid hn
  have X := Lib.hid hx
  clear h hD hP hx hn hq
  have hfd : ∀ w : World, (Instr.field 57 (.agg #[.int .i64 x.id, .int .i64 x.x]) 1).run Try.prog w = .ok (.int .i64 x.x) w := fun _ => by kernel_rfl
  go_enter Try.func13, Try.ntmps13
  go_wp2_with fail
  refine (shut_no g _ m _ BK.out).mono ?_
  rintro e w1 ⟨rfl, rfl⟩
  go_wp2_with (at_lookup; refine wpList_lookup_own_ok_int _ rfl _ _ 52 rfl 3 3 .i64 keyI Try.underlying52 Try.underlying3 (zeroI _) m _ D rfl M.out _ _ rfl (Maps.keyOf_int_mk Try.underlying3 (wf_i64 R.out)) ?_; intro c hat hwc; obtain rfl := LK.out c hat; clear hat hwc)
  refine (take_any g b n cap m i xs x _ LN.out H.out X.out HQ.out).mono ?_
  rintro e w2 ⟨rfl, ys, h1, h2, h3, h4⟩
  have H1 := Lib.hid h1
  have H2 := Lib.hid h2
  have H3 := Lib.hid h3
  have H4 := Lib.hid h4
  clear h1 h2 h3 h4 c2
  go_wp2
  go_ret2
  exact ⟨rfl, ys, H1.out, H2.out, H3.out, H4.out⟩
theorem erase_perm : ∀ (ts : List Th) (k : Nat) (x : Th), ts[k]? = some x → (x :: ts.eraseIdx k).Perm ts
  | [], _, _, h => by simp at h
  | t :: ts, 0, x, h => by simp at h; subst h; simp
  | t :: ts, k + 1, x, h => by
    rw [List.eraseIdx_cons_succ]
    exact (List.Perm.swap t x _).trans (List.Perm.cons t (erase_perm ts k x (by simpa using h)))
theorem TookB.stay {g b cap m : Nat} {xs ts : List Th} {x : Th} {v : Value} {F : Nat → Prop} {w w' : World} {e : Ending} (h : TookB g b xs.length cap m xs x v w e w') (hp : xs.Perm ts) (hF : ∀ k, F k ↔ HF g (.slice (some ⟨b, 0, none⟩) xs.length cap) m k) {k : Nat} (hk : ts[k]? = some x) : e = .returned v ∧ Stay7 w g F (ts.eraseIdx k) w' := by
  obtain ⟨rfl, ys, h1, h2, h3, h4⟩ := h
  refine ⟨rfl, HF g (.slice (some ⟨b, 0, none⟩) ys.length cap) m, ⟨_, cap, m, ys, h3, h1, ?_, fun k => Iff.rfl⟩, keepsF h4 (fun k q => (hF k).mpr q), fun k q => .inl ((hF k).mpr q), fun k q => h3.lies k q⟩
  have p := erase_perm ts k x hk
  exact List.Perm.cons_inv (h2.symm.trans (hp.trans p.symm))
def Popped (w : World) (g : Nat) (F : Nat → Prop) (ts : List Th) (e : Ending) (w' : World) : Prop := (ts = [] ∧ e = .returned (.tuple #[.int .i64 0, .int .i64 0, .bool false]) ∧ Stay7 w g F ts w') ∨ (∃ (k : Nat) (t : Th), ts[k]? = some t ∧ MinIn ts ts.length k ∧ e = .returned (.tuple #[.int .i64 t.id, .int .i64 t.x, .bool true]) ∧ Stay7 w g F (ts.eraseIdx k) w')
theorem hpop_any (g : Nat) (F : Nat → Prop) (ts : List Th) (w : World) (h : Hp7 w g F ts) : Calls Try.prog 11 #[.pointer (some ⟨g, 0, none⟩)] w (Popped w g F ts) := by
  have h' := h
  obtain ⟨a, cap, m, xs, hs, hq, hp, hF⟩ := h
  rcases Nat.eq_zero_or_pos xs.length with z | z
  · refine (pop_none g cap m a w (by have := hs.blk; rw [z] at this; exact this)).mono ?_
    rintro e w' ⟨rfl, rfl⟩
    exact .inl ⟨List.length_eq_zero_iff.mp (by rw [← hp.length_eq]; exact z), rfl, h'.stay (Below.refl _ _)⟩
  · obtain ⟨b, cap', hv⟩ := hs.slice z
    cases hv
    obtain ⟨x, hx⟩ := getX rfl z
    refine (pop_some g b xs.length cap m xs x w hs rfl hx hq).mono ?_
    intro e w' ht
    obtain ⟨k, hk, hm⟩ := first_min hq hp hx
    obtain ⟨rfl, hst⟩ := ht.stay hp hF hk
    exact .inr ⟨k, x, hk, hm, rfl, hst⟩
def Removed (w : World) (g : Nat) (F : Nat → Prop) (ts : List Th) (id : Int) (e : Ending) (w' : World) : Prop := (placeT ts id < 0 ∧ e = .returned (.tuple #[.int .i64 0, .bool false]) ∧ Stay7 w g F ts w') ∨ (∃ (k : Nat) (t : Th), placeT ts id = k ∧ ts[k]? = some t ∧ e = .returned (.tuple #[.int .i64 t.x, .bool true]) ∧ Stay7 w g F (ts.eraseIdx k) w')
theorem hremove_any (g : Nat) (F : Nat → Prop) (ts : List Th) (id : Int) (w : World) (h : Hp7 w g F ts) (hr : InR id) : Calls Try.prog 13 #[.pointer (some ⟨g, 0, none⟩), .int .i64 id] w (Removed w g F ts id) := by
  have h' := h
  obtain ⟨a, cap, m, xs, hs, hq, hp, hF⟩ := h
  rcases find_id xs id with hn | ⟨i, x, hx, rfl⟩
  · refine (remove_none g _ m xs id w hs hr hn).mono ?_
    rintro e w' ⟨rfl, rfl⟩
    exact .inl ⟨place_no hp hn, rfl, h'.stay (Below.refl _ _)⟩
  · obtain ⟨b, cap', hv⟩ := hs.slice (by have := lt_at hx; omega)
    cases hv
    refine (remove_some g b xs.length cap m i xs x w hs rfl hx hq).mono ?_
    intro e w' ht
    obtain ⟨k, hk, hm⟩ := place_yes hp hs.ids hx
    obtain ⟨rfl, hst⟩ := ht.stay hp hF hm
    exact .inr ⟨k, x, hk, hm, rfl, hst⟩
end Go.Proofs.Ytimafmalfmeehaa
