/-
  Package calendar as landed: Put: contract.
-/
import Derived.Test.YtfeemdljlikpbaaCz3
namespace Go.Proofs.Ytfeemdljlikpbaa
open Go.RowKit Go.Maps

/-- what Put tells, and what is there then -/
def PutV (es : List Ev) (e : Ev) (c : Int) (es' : List Ev) : Prop := (BadE e ∧ c = 1 ∧ es' = es) ∨ (¬ BadE e ∧ 0 ≤ placeV es e.i e.k ∧ c = 14 ∧ es' = es) ∨ (¬ BadE e ∧ placeV es e.i e.k = -1 ∧ c = 0 ∧ es' = insV e es)
def Putted (w : World) (g : Nat) (F : Nat → Prop) (es : List Ev) (e : Ev) (z : Ending) (w' : World) : Prop := ∃ c es', z = .returned (.int .i64 c) ∧ PutV es e c es' ∧ StaysC Hp8 w g F es' w'
/-- the two boxes of Put -/
structure Put2 (W : World) (n3 n5 b : Nat) (e : Ev) : Prop where
  ev : Blk W 31 n3 #[.int .i64 e.d, .int .i64 e.i, .int .i64 e.k]
  cal : Blk W 51 n5 #[.pointer (some ⟨b, 0, none⟩)]
set_option maxHeartbeats 4000000 in
theorem cput_any (g : Nat) (F : Nat → Prop) (es : List Ev) (e : Ev) (w : World) (h : Hp8 w g F es) (hl : es.length ≤ 500) : Calls Try.prog 19 #[.pointer (some ⟨g, 0, none⟩), .agg #[.int .i64 e.d, .int .i64 e.i, .int .i64 e.k]] w (Putted w g F es e) := by
  have hw := within_run
  have H := Lib.hid h
  obtain ⟨b, FH, hb, hh, hn, hF, ho⟩ := h
  have HN := Lib.hid hn
  have HF := Lib.hid hF
  have HO := Lib.hid ho
  obtain ⟨W1, hW1⟩ : ∃ W1, w.alloc (.cells #[.int .i64 e.d, .int .i64 e.i, .int .i64 e.k] 31) = W1 := ⟨_, rfl⟩
  have B1 := Lib.hid (show Below w.heap.size w W1 by rw [← hW1]; exact wbox _ _)
  have X1 := Lib.hid (show Blk W1 31 w.heap.size #[.int .i64 e.d, .int .i64 e.i, .int .i64 e.k] by rw [← hW1]; exact Blk.new _ _ _)
  have BK := Lib.hid (hb.below B1.out)
  have HH := Lib.hid (hh.keeps (G := fun _ => False) (Keeps.of B1.out) (fun _ _ q => q))
  have PU := Lib.hid (fun (hg : ¬ BadE e) w hq => hpush8 b FH es e w ho hg hl hq)
  have N3 := Lib.hid (show ¬ FH w.heap.size from fun q => Nat.lt_irrefl _ (hh.lies _ q))
  clear hb hh hn hF ho hl
  go_enter Try.func19, Try.ntmps19
  go_wp2_with fail
  refine (all_any g _ _ rfl _ BK.out).mono ?_
  rintro z w2 ⟨rfl, hb⟩
  have B2 := Lib.hid (below_next B1.out hb)
  have X2 := Lib.hid (X1.out.below hb)
  have BK2 := Lib.hid (BK.out.below hb)
  have HH2 := Lib.hid (HH.out.keeps (G := fun _ => False) (Keeps.of hb) (fun _ _ q => q))
  have N5 := Lib.hid (show ¬ FH w2.heap.size from fun q => Nat.lt_irrefl _ (HH2.out.lies _ q))
  clear hb
  go_upto_region 2 with fail
  obtain ⟨W4, hW4⟩ : ∃ W4, w2.alloc (Obj.cells #[.pointer (some ⟨b, 0, none⟩)] 51) = W4 := ⟨_, rfl⟩
  have B24 := Lib.hid (show Below w2.heap.size w2 W4 by rw [← hW4]; exact wbox _ _)
  have B4 := Lib.hid (below_next B2.out B24.out)
  have P4 := Lib.hid (show Put2 W4 w.heap.size w2.heap.size b e from ⟨X2.out.below B24.out, by rw [← hW4]; exact Blk.new _ _ _⟩)
  have BK4 := Lib.hid (BK2.out.below B24.out)
  have HH4 := Lib.hid (HH2.out.keeps (G := fun _ => False) (Keeps.of B24.out) (fun _ _ q => q))
  obtain ⟨n3, hn3⟩ : ∃ n3, w.heap.size = n3 := ⟨_, rfl⟩
  rw [hW4, hn3]
  obtain ⟨n5, hn5⟩ : ∃ n5, w2.heap.size = n5 := ⟨_, rfl⟩
  rw [hn5] at P4 N5 ⊢
  rw [hn3] at P4 N3
  have x0 := P4.out.ev.cell 0; have x1 := P4.out.ev.cell 1; have x2 := P4.out.ev.cell 2
  have y0 := P4.out.cal.cell 0
  simp at x0 x1 x2 y0
  clear hW4 hn5 hn3
  by_cases hbad : e.i < 0 ∨ 1023 < e.i ∨ e.k < 0 ∨ 7 < e.k
  · have MY := Lib.hid (fun w => may_no hbad w)
    have BD := Lib.hid (show BadE e by unfold BadE; omega)
    clear hbad
    go_wp2_with fail
    refine (MY.out _).mono ?_
    rintro z w5 ⟨rfl, rfl⟩
    go_wp2
    go_ret
    exact ⟨1, es, rfl, .inl ⟨BD.out, rfl, rfl⟩, H.out.stay B4.out⟩
  · have h0 : 0 ≤ e.i := by omega
    have h1 : e.i ≤ 1023 := by omega
    have h2 : 0 ≤ e.k := by omega
    have h3 : e.k ≤ 7 := by omega
    have MY := Lib.hid (fun w => may_yes h0 h1 h2 h3 w)
    have NM := Lib.hid (fun w => number_any e.i e.k w h0 h1 h2 h3)
    by_cases hd : e.d < 0
    · have t1 : decide (e.d < 0) = true := by simp; omega
      have BD := Lib.hid (show BadE e by unfold BadE; omega)
      clear hbad hd h0 h1 h2 h3
      go_wp2_with fail
      refine (MY.out _).mono ?_
      rintro z w5 ⟨rfl, rfl⟩
      go_wp2
      go_ret
      exact ⟨1, es, rfl, .inl ⟨BD.out, rfl, rfl⟩, H.out.stay B4.out⟩
    · have t1 : decide (e.d < 0) = false := by simp; omega
      have GD := Lib.hid (show ¬ BadE e by unfold BadE; omega)
      have PU := Lib.hid (PU.out GD.out)
      obtain ⟨told, ht⟩ : ∃ told, decide (placeV es e.i e.k = -1) = told := ⟨_, rfl⟩
      obtain ⟨es', he⟩ : ∃ es', (if placeV es e.i e.k = -1 then insV e es else es) = es' := ⟨_, rfl⟩
      rw [ht, he] at PU
      have RES := Lib.hid (show PutV es e (if told then 0 else 14) es' ∧ OwnV es' by
        have pb := placeV_bound es e.i e.k
        by_cases q : placeV es e.i e.k = -1
        · rw [if_pos q] at he
          rw [decide_eq_true q] at ht
          subst ht he
          exact ⟨.inr (.inr ⟨GD.out, q, rfl, rfl⟩), ownV_ins HO.out GD.out q⟩
        · rw [if_neg q] at he
          rw [decide_eq_false q] at ht
          subst ht he
          exact ⟨.inr (.inl ⟨GD.out, by omega, rfl, rfl⟩), HO.out⟩)
      clear hbad hd h0 h1 h2 h3 ht he
      go_wp2_with fail
      refine (MY.out _).mono ?_
      rintro z w5 ⟨rfl, rfl⟩
      go_upto_region 4 with fail
      have BL := Lib.hid (show Put2 W4.drew n3 n5 b e from ⟨P4.out.ev.drew, P4.out.cal.drew⟩)
      have HD := Lib.hid (show Hh8 W4.drew b FH (es.map teV) from HH4.out.keeps (G := fun _ => False) (Keeps.of ((Below.refl _ _).drew)) (fun _ _ q => q))
      have KEPT := Lib.hid (show ∀ w' : World, Put2 w' n3 n5 b e → w'.cell? ⟨n5, 0, none⟩ = some (.pointer (some ⟨b, 0, none⟩)) ∧ w'.cell? ⟨n3, 0, none⟩ = some (.int .i64 e.d) ∧ w'.cell? ⟨n3, 1, none⟩ = some (.int .i64 e.i) ∧ w'.cell? ⟨n3, 2, none⟩ = some (.int .i64 e.k) from fun w' h => ⟨h.cal.cell 0, h.ev.cell 0, h.ev.cell 1, h.ev.cell 2⟩)
      go_region_held3 (fun w' => w'.cell? ⟨n5, 0, none⟩ = some (.pointer (some ⟨b, 0, none⟩)) ∧ w'.cell? ⟨n3, 0, none⟩ = some (.int .i64 e.d) ∧ w'.cell? ⟨n3, 1, none⟩ = some (.int .i64 e.i) ∧ w'.cell? ⟨n3, 2, none⟩ = some (.int .i64 e.k))
        (exact KEPT.out _ BL.out)
        (first
          | (go_at_call 28; (with_reducible refine (NM.out _).mono ?_); rintro z w5 ⟨rfl, rfl⟩)
          | (go_at_call 32; (with_reducible refine (PU.out _ HD.out).mono ?_); rintro z w6 ⟨rfl, hs⟩; have S := Lib.hid hs; have BL := Lib.hid (show Put2 w6 n3 n5 b e by obtain ⟨FH', _, mv⟩ := hs; exact ⟨BL.out.ev.keeps mv.keeps N3.out, BL.out.cal.keeps mv.keeps N5.out⟩); clear hs))
      all_goals
        have BD := Lib.hid (below_next B4.out ((Below.refl _ W4).drew))
        have ST := Lib.hid (StaysC.from BD.out H.out.lies (Hp8.moved (BK4.out.drew) HN.out HF.out S.out (List.Perm.refl _) RES.out.2))
        clear x0 x1 x2 y0
        cases told with
        | true =>
          go_wp2
          go_ret
          exact ⟨0, es', rfl, RES.out.1, ST.out⟩
        | false =>
          go_wp2
          go_ret
          exact ⟨14, es', rfl, RES.out.1, ST.out⟩
end Go.Proofs.Ytfeemdljlikpbaa
