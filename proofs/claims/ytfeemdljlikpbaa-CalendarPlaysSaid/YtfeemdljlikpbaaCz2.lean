/-
  Package calendar as landed: what its heap tells, in the calendar's words; Next, At: contracts.
-/
import Derived.Test.YtfeemdljlikpbaaCz1
namespace Go.Proofs.Ytfeemdljlikpbaa
open Go.RowKit Go.Maps

abbrev Stay8 (w : World) (b : Nat) (FH : Nat → Prop) (ts : List Te) (w' : World) : Prop := Stay7E 24 70 earlB w b FH ts w'
abbrev Hh8 (w : World) (b : Nat) (FH : Nat → Prop) (ts : List Te) : Prop := Hp7E 24 70 earlB w b FH ts
theorem Stay8.perm {w w' : World} {b : Nat} {FH : Nat → Prop} {ts us : List Te} (h : Stay8 w b FH ts w') (p : ts.Perm us) : Stay8 w b FH us w' := by
  obtain ⟨F', h1, m⟩ := h
  exact ⟨F', h1.perm p, m⟩
/-- the first one, or nothing -/
def FstV (es : List Ev) (x : Ev) (ok : Bool) : Prop := (es = [] ∧ x = ev0 ∧ ok = false) ∨ (es[0]? = some x ∧ ok = true)
/-- the one of that key, or nothing -/
def GotV (es : List Ev) (i k : Int) (x : Ev) (ok : Bool) : Prop := (placeV es i k = -1 ∧ x = ev0 ∧ ok = false) ∨ (∃ j : Nat, placeV es i k = j ∧ es[j]? = some x ∧ ok = true)
theorem hmin8 (b : Nat) (FH : Nat → Prop) (es : List Ev) (w : World) (ho : OwnV es) (h : Hh8 w b FH (es.map teV)) : Calls Try.prog 29 #[.pointer (some ⟨b, 0, none⟩)] w fun z w' => ∃ (n : Int) (x : Ev) (ok : Bool), z = .returned (.tuple #[.int .i64 n, .agg #[.int .i64 x.d, .int .i64 x.i, .int .i64 x.k], .bool ok]) ∧ FstV es x ok ∧ Below w.heap.size w w' := by
  refine (hmin_anyE b FH _ w h).mono fun z w' ⟨hz, _, hb⟩ => ?_
  rcases hz with ⟨he, rfl⟩ | ⟨t, ht, hm, rfl⟩
  · exact ⟨0, ev0, false, rfl, .inl ⟨List.map_eq_nil_iff.mp he, rfl, rfl⟩, hb⟩
  · obtain ⟨x, hx, rfl⟩ := firstV ho ht hm
    exact ⟨_, x, true, rfl, .inr ⟨hx, rfl⟩, hb⟩
theorem hpop8 (b : Nat) (FH : Nat → Prop) (es : List Ev) (x : Ev) (w : World) (ho : OwnV es) (hx : es[0]? = some x) (h : Hh8 w b FH (es.map teV)) : Calls Try.prog 30 #[.pointer (some ⟨b, 0, none⟩)] w fun z w' => (∃ v, z = .returned v) ∧ Stay8 w b FH ((es.drop 1).map teV) w' := by
  refine (hpop_anyE lessEarl b FH _ w h).mono fun z w' hz => ?_
  rcases hz with ⟨he, _, _⟩ | ⟨t, us, hm, hp, rfl, hs⟩
  · rw [List.map_eq_nil_iff.mp he] at hx; cases hx
  · obtain ⟨y, hy, rfl⟩ := firstV ho (hp.mem_iff.mpr (by simp)) hm
    refine ⟨⟨_, rfl⟩, Stay8.perm hs ?_⟩
    have := perm_cons_of hy hp
    rwa [List.eraseIdx_zero, ← List.drop_one] at this
theorem hget8 (b : Nat) (FH : Nat → Prop) (es : List Ev) (i k : Int) (w : World) (ho : OwnV es) (h0 : 0 ≤ i) (h1 : i ≤ 1023) (h2 : 0 ≤ k) (h3 : k ≤ 7) (h : Hh8 w b FH (es.map teV)) : Calls Try.prog 31 #[.pointer (some ⟨b, 0, none⟩), .int .i64 (k * 1024 + i)] w fun z w' => ∃ (x : Ev) (ok : Bool), z = .returned (.tuple #[.agg #[.int .i64 x.d, .int .i64 x.i, .int .i64 x.k], .bool ok]) ∧ GotV es i k x ok ∧ Below w.heap.size w w' := by
  refine (hget_anyE b FH _ _ w h (inr_num h0 h1 h2 h3)).mono fun z w' ⟨hz, _, hb⟩ => ?_
  rcases hz with ⟨hn, rfl⟩ | ⟨t, ht, hn, rfl⟩
  · exact ⟨ev0, false, rfl, .inl ⟨num_none ho h0 h1 hn, rfl, rfl⟩, hb⟩
  · obtain ⟨j, x, hj, hx, rfl⟩ := num_place ho h0 h1 ht hn
    exact ⟨x, true, rfl, .inr ⟨j, hj, hx, rfl⟩, hb⟩
/-- what is there behind a Drop -/
def DroppedV (es : List Ev) (i k : Int) : List Ev := match placeV es i k with | .ofNat j => es.eraseIdx j | _ => es
theorem droppedV_neg {es : List Ev} {i k : Int} (h : placeV es i k = -1) : DroppedV es i k = es := by unfold DroppedV; rw [h]; rfl
theorem droppedV_at {es : List Ev} {i k : Int} {j : Nat} (h : placeV es i k = j) : DroppedV es i k = es.eraseIdx j := by unfold DroppedV; rw [h]
theorem hremove8 (b : Nat) (FH : Nat → Prop) (es : List Ev) (i k : Int) (w : World) (ho : OwnV es) (h0 : 0 ≤ i) (h1 : i ≤ 1023) (h2 : 0 ≤ k) (h3 : k ≤ 7) (h : Hh8 w b FH (es.map teV)) : Calls Try.prog 27 #[.pointer (some ⟨b, 0, none⟩), .int .i64 (k * 1024 + i)] w fun z w' => ∃ (x : Ev) (ok : Bool), z = .returned (.tuple #[.agg #[.int .i64 x.d, .int .i64 x.i, .int .i64 x.k], .bool ok]) ∧ GotV es i k x ok ∧ Stay8 w b FH ((DroppedV es i k).map teV) w' := by
  refine (hremove_anyE lessEarl b FH _ _ w h (inr_num h0 h1 h2 h3)).mono fun z w' hz => ?_
  rcases hz with ⟨hn, rfl, hs⟩ | ⟨t, us, hn, hp, rfl, hs⟩
  · have := num_none ho h0 h1 hn
    exact ⟨ev0, false, rfl, .inl ⟨this, rfl, rfl⟩, by rw [droppedV_neg this]; exact hs⟩
  · obtain ⟨j, x, hj, hx, rfl⟩ := num_place ho h0 h1 (hp.mem_iff.mpr (by simp)) hn
    exact ⟨x, true, rfl, .inr ⟨j, hj, hx, rfl⟩, by rw [droppedV_at hj]; exact Stay8.perm hs (perm_cons_of hx hp)⟩
theorem hpush8 (b : Nat) (FH : Nat → Prop) (es : List Ev) (e : Ev) (w : World) (ho : OwnV es) (hg : ¬ BadE e) (hl : es.length ≤ 500) (h : Hh8 w b FH (es.map teV)) : Calls Try.prog 32 #[.pointer (some ⟨b, 0, none⟩), .int .i64 (e.k * 1024 + e.i), .agg #[.int .i64 e.d, .int .i64 e.i, .int .i64 e.k]] w fun z w' => z = .returned (.bool (decide (placeV es e.i e.k = -1))) ∧ Stay8 w b FH ((if placeV es e.i e.k = -1 then insV e es else es).map teV) w' := by
  have gi := good_iff.mp hg
  refine (hpush_anyE lessEarl b FH _ _ e w h (inr_num gi.1 gi.2.1 gi.2.2.1 gi.2.2.2.1) (by rw [List.length_map]; exact hl)).mono fun z w' hz => ?_
  rcases hz with ⟨⟨t, ht, hn⟩, rfl, hs⟩ | ⟨hn, rfl, hs⟩
  · obtain ⟨j, x, hj, hx, rfl⟩ := num_place ho gi.1 gi.2.1 ht hn
    have ne : ¬ placeV es e.i e.k = -1 := by omega
    rw [if_neg ne, decide_eq_false ne]
    exact ⟨rfl, hs⟩
  · have eq := num_none ho gi.1 gi.2.1 hn
    rw [if_pos eq, decide_eq_true eq]
    refine ⟨rfl, Stay8.perm hs ?_⟩
    have p := (insV_perm e es).map teV
    exact (List.perm_append_comm (l₁ := es.map teV) (l₂ := [teV e])).trans p.symm
set_option maxHeartbeats 2000000 in
theorem cnext_any (g : Nat) (F : Nat → Prop) (es : List Ev) (w : World) (h : Hp8 w g F es) : Calls Try.prog 16 #[.pointer (some ⟨g, 0, none⟩)] w fun z w' => ∃ (x : Ev) (ok : Bool), z = .returned (.tuple #[.agg #[.int .i64 x.d, .int .i64 x.i, .int .i64 x.k], .bool ok]) ∧ FstV es x ok ∧ StaysC Hp8 w g F es w' := by
  have hw := within_run
  have H := Lib.hid h
  obtain ⟨b, FH, hb, hh, _, _, ho⟩ := h
  have HO := Lib.hid ho
  obtain ⟨W1, hW1⟩ : ∃ W1, w.alloc (.cells #[.int .i64 0, .int .i64 0, .int .i64 0] 31) = W1 := ⟨_, rfl⟩
  have B1 := Lib.hid (show Below w.heap.size w W1 by rw [← hW1]; exact wbox _ _)
  have X1 := Lib.hid (show Blk W1 31 w.heap.size #[.int .i64 0, .int .i64 0, .int .i64 0] by rw [← hW1]; exact Blk.new _ _ _)
  have BK := Lib.hid (hb.below B1.out)
  have HH := Lib.hid (hh.keeps (G := fun _ => False) (Keeps.of B1.out) (fun _ _ q => q))
  clear hb hh ho
  go_enter Try.func16, Try.ntmps16
  go_wp2_with fail
  refine (all_any g _ _ rfl _ BK.out).mono ?_
  rintro e w2 ⟨rfl, hb⟩
  have B2 := Lib.hid (below_next B1.out hb)
  have X2 := Lib.hid (X1.out.below hb)
  have HH2 := Lib.hid (HH.out.keeps (G := fun _ => False) (Keeps.of hb) (fun _ _ q => q))
  clear hb
  go_wp2_with fail
  refine (hmin8 b FH es _ HO.out HH2.out).mono ?_
  rintro e w3 ⟨n, x, ok, rfl, hx, hb⟩
  have HX := Lib.hid hx
  obtain ⟨W4, hW4⟩ : ∃ W4, w3.alloc (.cells #[.int .i64 0, .int .i64 0, .int .i64 0] 31) = W4 := ⟨_, rfl⟩
  have B4 := Lib.hid (show Below w.heap.size w W4 by rw [← hW4]; exact below_next (below_next B2.out hb) (wbox _ _))
  have X4 := Lib.hid (show Blk W4 31 w.heap.size #[.int .i64 0, .int .i64 0, .int .i64 0] by rw [← hW4]; exact (X2.out.below hb).alloc _)
  have Y4 := Lib.hid (show Blk W4 31 w3.heap.size #[.int .i64 0, .int .i64 0, .int .i64 0] by rw [← hW4]; exact Blk.new _ _ _)
  have sz : w.heap.size < w3.heap.size := (X2.out.below hb).lt
  obtain ⟨m2, hm2⟩ : ∃ m2, w.heap.size = m2 := ⟨_, rfl⟩
  obtain ⟨m3, hm3⟩ : ∃ m3, w3.heap.size = m3 := ⟨_, rfl⟩
  have SM := Lib.hid hm2
  rw [hm2, hm3] at sz
  rw [hm2] at X4 B4
  rw [hm3] at Y4
  have n1 : ¬ m2 = m3 := by omega
  have n2 : ¬ m3 = m2 := by omega
  have x0 := X4.out.cell 0; have x1 := X4.out.cell 1; have x2 := X4.out.cell 2
  have y0 := Y4.out.cell 0; have y1 := Y4.out.cell 1; have y2 := Y4.out.cell 2
  have fx : ∀ o, W4.frozen? ⟨m2, o, none⟩ = false := fun o => X4.out.free o
  have fy : ∀ o, W4.frozen? ⟨m3, o, none⟩ = false := fun o => Y4.out.free o
  simp at x0 x1 x2 y0 y1 y2
  clear hx hb
  rw [hm2]
  clear hm2
  go_wp2
  exact bodyPost_ret (v := .tuple #[.agg #[.int .i64 x.d, .int .i64 x.i, .int .i64 x.k], .bool ok]) (by simp [results, Try.results16, go_sem, x0, x1, x2]) rfl ⟨x, ok, rfl, HX.out, H.out.stay (by rw [SM.out]; exact (((((B4.out.setCell (by simp; omega) _).setCell (by simp; omega) _).setCell (by simp; omega) _).setCell (by simp) _).setCell (by simp) _).setCell (by simp) _)⟩
end Go.Proofs.Ytfeemdljlikpbaa
