/-
  Package calendar as landed: At, Drop: contracts.
-/
import Derived.Test.YtfeemdljlikpbaaCz2
namespace Go.Proofs.Ytfeemdljlikpbaa
open Go.RowKit Go.Maps

theorem may_yes {i k : Int} (h0 : 0 ≤ i) (h1 : i ≤ 1023) (h2 : 0 ≤ k) (h3 : k ≤ 7) (w : World) : Calls Try.prog 25 #[.int .i64 i, .int .i64 k] w fun e w' => e = .returned (.bool true) ∧ w = w' := by
  have := may_any i k w
  rwa [show mayB i k = true by unfold mayB; rw [decide_eq_true_eq]; omega] at this
theorem may_no {i k : Int} (h : i < 0 ∨ 1023 < i ∨ k < 0 ∨ 7 < k) (w : World) : Calls Try.prog 25 #[.int .i64 i, .int .i64 k] w fun e w' => e = .returned (.bool false) ∧ w = w' := by
  have := may_any i k w
  rwa [show mayB i k = false by unfold mayB; rw [decide_eq_false_iff_not]; omega] at this
set_option maxHeartbeats 2000000 in
theorem cat_any (g : Nat) (F : Nat → Prop) (es : List Ev) (i k : Int) (w : World) (h : Hp8 w g F es) : Calls Try.prog 17 #[.pointer (some ⟨g, 0, none⟩), .int .i64 i, .int .i64 k] w fun z w' => ∃ (x : Ev) (ok : Bool), z = .returned (.tuple #[.int .i64 x.d, .bool ok]) ∧ GotV es i k x ok ∧ StaysC Hp8 w g F es w' := by
  have hw := within_run
  have H := Lib.hid h
  obtain ⟨b, FH, hb, hh, _, _, ho⟩ := h
  have HO := Lib.hid ho
  have BK := Lib.hid hb
  have HH := Lib.hid hh
  by_cases hbad : i < 0 ∨ 1023 < i ∨ k < 0 ∨ 7 < k
  · have MY := Lib.hid (fun w => may_no hbad w)
    have PV := Lib.hid (bad_place ho hbad)
    clear hb hh ho hbad
    go_enter Try.func17, Try.ntmps17
    go_wp2_with fail
    refine (MY.out _).mono ?_
    rintro e w1 ⟨rfl, rfl⟩
    go_wp2
    go_ret2
    exact ⟨ev0, false, rfl, .inl ⟨PV.out, rfl, rfl⟩, H.out.stay (Below.refl _ _)⟩
  · have h0 : 0 ≤ i := by omega
    have h1 : i ≤ 1023 := by omega
    have h2 : 0 ≤ k := by omega
    have h3 : k ≤ 7 := by omega
    have MY := Lib.hid (fun w => may_yes h0 h1 h2 h3 w)
    have NM := Lib.hid (fun w => number_any i k w h0 h1 h2 h3)
    have GT := Lib.hid (fun w hq => hget8 b FH es i k w ho h0 h1 h2 h3 hq)
    clear hb hh ho hbad h0 h1 h2 h3
    go_enter Try.func17, Try.ntmps17
    go_wp2_with fail
    refine (MY.out _).mono ?_
    rintro e w1 ⟨rfl, rfl⟩
    go_wp2_with fail
    refine (all_any g _ _ rfl _ BK.out).mono ?_
    rintro e w2 ⟨rfl, hb⟩
    have B2 := Lib.hid hb
    have HH2 := Lib.hid (HH.out.keeps (G := fun _ => False) (Keeps.of hb) (fun _ _ q => q))
    clear hb
    go_wp2_with fail
    refine (NM.out _).mono ?_
    rintro e w3 ⟨rfl, rfl⟩
    go_wp2_with fail
    refine (GT.out _ HH2.out).mono ?_
    rintro e w3 ⟨x, ok, rfl, hx, hb⟩
    have HX := Lib.hid hx
    obtain ⟨W4, hW4⟩ : ∃ W4, w3.alloc (.cells #[.int .i64 0, .int .i64 0, .int .i64 0] 31) = W4 := ⟨_, rfl⟩
    have B4 := Lib.hid (show Below w.heap.size w W4 by rw [← hW4]; exact below_next (below_next B2.out hb) (wbox _ _))
    have Y4 := Lib.hid (show Blk W4 31 w3.heap.size #[.int .i64 0, .int .i64 0, .int .i64 0] by rw [← hW4]; exact Blk.new _ _ _)
    have sz : w.heap.size ≤ w3.heap.size := (below_next B2.out hb).size
    have SZ := Lib.hid sz
    have y0 := Y4.out.cell 0; have y1 := Y4.out.cell 1; have y2 := Y4.out.cell 2
    have fy : ∀ o, W4.frozen? ⟨w3.heap.size, o, none⟩ = false := fun o => Y4.out.free o
    simp at y0 y1 y2
    clear hx hb sz
    go_wp2
    go_ret2
    exact ⟨x, ok, rfl, HX.out, H.out.stay (((B4.out.setCell SZ.out _).setCell SZ.out _).setCell SZ.out _)⟩
/-- a box of the call's own, laid ahead of what the heap within did, is written behind it -/
theorem StaysC.ended {w w2 w' w'' : World} {g : Nat} {F : Nat → Prop} {es : List Ev} (k1 : Below w.heap.size w w2) (hl : Lies F w) (h : StaysC Hp8 w2 g F es w') {x : Nat} (h0 : w.heap.size ≤ x) (h1 : x < w2.heap.size) (k : Keeps (fun k => k = x) w' w'') : StaysC Hp8 w g F es w'' := by
  obtain ⟨F', p, m⟩ := h
  have nx : ¬ F' x := fun q => by
    rcases m.grow x q with r | r
    · have := hl x r; omega
    · omega
  have m2 := (Moves.of k1 hl).trans m
  exact ⟨F', p.keeps k (fun y q e => nx (e ▸ q)), ⟨m2.keeps.trans k (fun y q => .inr (q ▸ h0)), m2.grow, fun y q => Nat.lt_of_lt_of_le (m2.lt y q) k.size⟩⟩
set_option maxHeartbeats 2000000 in
theorem cdrop_any (g : Nat) (F : Nat → Prop) (es : List Ev) (i k : Int) (w : World) (h : Hp8 w g F es) : Calls Try.prog 11 #[.pointer (some ⟨g, 0, none⟩), .int .i64 i, .int .i64 k] w fun z w' => ∃ (x : Ev) (ok : Bool), z = .returned (.tuple #[.agg #[.int .i64 x.d, .int .i64 x.i, .int .i64 x.k], .bool ok]) ∧ GotV es i k x ok ∧ StaysC Hp8 w g F (DroppedV es i k) w' := by
  have hw := within_run
  have H := Lib.hid h
  obtain ⟨b, FH, hb, hh, hn, hF, ho⟩ := h
  have HN := Lib.hid hn
  have HF := Lib.hid hF
  have OD := Lib.hid (show OwnV (DroppedV es i k) by
    unfold DroppedV
    split
    · exact ownV_erase ho _
    · exact ho)
  obtain ⟨W1, hW1⟩ : ∃ W1, w.alloc (.cells #[.int .i64 0, .int .i64 0, .int .i64 0] 31) = W1 := ⟨_, rfl⟩
  have B1 := Lib.hid (show Below w.heap.size w W1 by rw [← hW1]; exact wbox _ _)
  have X1 := Lib.hid (show Blk W1 31 w.heap.size #[.int .i64 0, .int .i64 0, .int .i64 0] by rw [← hW1]; exact Blk.new _ _ _)
  have BK := Lib.hid (hb.below B1.out)
  have FL := Lib.hid (show ¬ FH w.heap.size from fun q => Nat.lt_irrefl _ (hh.lies _ q))
  have HH := Lib.hid (hh.keeps (G := fun _ => False) (Keeps.of B1.out) (fun _ _ q => q))
  by_cases hbad : i < 0 ∨ 1023 < i ∨ k < 0 ∨ 7 < k
  · have MY := Lib.hid (fun w => may_no hbad w)
    have PV := Lib.hid (bad_place ho hbad)
    have x0 := X1.out.cell 0; have x1 := X1.out.cell 1; have x2 := X1.out.cell 2
    have fx : ∀ o, W1.frozen? ⟨w.heap.size, o, none⟩ = false := fun o => X1.out.free o
    simp at x0 x1 x2
    clear hb hh ho hbad hn hF
    go_enter Try.func11, Try.ntmps11
    go_wp2_with fail
    refine (MY.out _).mono ?_
    rintro e w1 ⟨rfl, rfl⟩
    go_wp2
    exact bodyPost_ret (v := .tuple #[.agg #[.int .i64 0, .int .i64 0, .int .i64 0], .bool false]) (by simp [results, Try.results11, go_sem, x0, x1, x2]) rfl ⟨ev0, false, rfl, .inl ⟨PV.out, rfl, rfl⟩, by rw [droppedV_neg PV.out]; exact H.out.stay (((B1.out.setCell (by simp) _).setCell (by simp) _).setCell (by simp) _)⟩
  · have h0 : 0 ≤ i := by omega
    have h1 : i ≤ 1023 := by omega
    have h2 : 0 ≤ k := by omega
    have h3 : k ≤ 7 := by omega
    have MY := Lib.hid (fun w => may_yes h0 h1 h2 h3 w)
    have NM := Lib.hid (fun w => number_any i k w h0 h1 h2 h3)
    have RM := Lib.hid (fun w hq => hremove8 b FH es i k w ho h0 h1 h2 h3 hq)
    clear hb hh ho hbad hn hF h0 h1 h2 h3
    go_enter Try.func11, Try.ntmps11
    go_wp2_with fail
    refine (MY.out _).mono ?_
    rintro e w1 ⟨rfl, rfl⟩
    go_wp2_with fail
    refine (all_any g _ _ rfl _ BK.out).mono ?_
    rintro e w2 ⟨rfl, hb⟩
    have B2 := Lib.hid (below_next B1.out hb)
    have X2 := Lib.hid (X1.out.below hb)
    have BK2 := Lib.hid (BK.out.below hb)
    have HH2 := Lib.hid (HH.out.keeps (G := fun _ => False) (Keeps.of hb) (fun _ _ q => q))
    clear hb
    go_wp2_with fail
    refine (NM.out _).mono ?_
    rintro e w3 ⟨rfl, rfl⟩
    go_wp2_with fail
    refine (RM.out _ HH2.out).mono ?_
    rintro e w3 ⟨x, ok, rfl, hx, hs⟩
    have HX := Lib.hid hx
    have S := Lib.hid (Hp8.moved BK2.out HN.out HF.out hs (List.Perm.refl _) OD.out)
    obtain ⟨FH', _, mv⟩ := hs
    have X3 := Lib.hid (X2.out.keeps mv.keeps FL.out)
    have x0 := X3.out.cell 0; have x1 := X3.out.cell 1; have x2 := X3.out.cell 2
    have fx : ∀ o, w3.frozen? ⟨w.heap.size, o, none⟩ = false := fun o => X3.out.free o
    simp at x0 x1 x2
    clear hx mv
    go_wp2
    refine bodyPost_ret (v := .tuple #[.agg #[.int .i64 x.d, .int .i64 x.i, .int .i64 x.k], .bool ok]) (by simp [results, Try.results11, go_sem, x0, x1, x2]) rfl ⟨x, ok, rfl, HX.out, ?_⟩
    exact StaysC.ended B2.out H.out.lies S.out (Nat.le_refl _) X2.out.lt (((Keeps.refl (fun k => k = w.heap.size) w3).set (.inl rfl) _ _).set (.inl rfl) _ _ |>.set (.inl rfl) _ _)
end Go.Proofs.Ytfeemdljlikpbaa
