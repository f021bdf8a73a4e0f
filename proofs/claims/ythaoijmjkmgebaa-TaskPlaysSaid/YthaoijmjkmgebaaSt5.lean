/-
  What package stepper's New, Shift and Copy give back: contracts.
-/
import Derived.Test.YthaoijmjkmgebaaSt4
namespace Go.Proofs.Ythaoijmjkmgebaa
open Go.RowKit

/-- block g is a stepper of a weight, that has told n subtasks -/
def Stp (W : World) (g : Nat) (E P O n : Int) : Prop :=
  ∃ ga gr gs gm gb, Blk W 74 g (spC (n * P / E) (n * P % E) (P / E) (P % E) E ga gr gs gm gb n O) ∧ GrIs E P n ga gr gs gm gb
theorem Stp.lt {W : World} {g : Nat} {E P O n : Int} (h : Stp W g E P O n) : g < W.heap.size := by obtain ⟨_, _, _, _, _, h, _⟩ := h; exact h.lt
theorem Stp.below {W W' : World} {g : Nat} {E P O n : Int} (h : Stp W g E P O n) (hb : Below W.heap.size W W') : Stp W' g E P O n := by obtain ⟨_, _, _, _, _, h, k⟩ := h; exact ⟨_, _, _, _, _, h.below hb, k⟩
theorem Stp.but {W W' : World} {g k : Nat} {E P O n : Int} (h : Stp W g E P O n) (hb : But k W W') (hne : g ≠ k) : Stp W' g E P O n := by obtain ⟨_, _, _, _, _, h, q⟩ := h; exact ⟨_, _, _, _, _, h.but hb hne, q⟩
theorem Stp.alloc {W : World} {g : Nat} {E P O n : Int} (h : Stp W g E P O n) (o : Obj) : Stp (W.alloc o) g E P O n := h.below (wbox _ _)
theorem Stp.drew {W : World} {g : Nat} {E P O n : Int} (h : Stp W g E P O n) : Stp W.drew g E P O n := h

/-- a new stepper, or none -/
def GivesS (w : World) (E P O : Int) (e : Ending) (w' : World) : Prop := ∃ g : Nat, e = .returned (.pointer (some ⟨g, 0, none⟩)) ∧ w.heap.size ≤ g ∧ Stp w' g E P O 0 ∧ Below w.heap.size w w'
set_option maxHeartbeats 1000000 in
theorem snew_yes (E P O : Int) (w : World) (hM : MayBe E P) (O0 : 0 ≤ O) (O1 : O ≤ 2305843009213693952) :
    Calls Try.prog 35 #[.agg #[.int .i64 E, .int .i64 P], .int .i64 O] w (GivesS w E P O) := by
  have HM := Lib.hid hM
  obtain ⟨m0, m1, m2⟩ := hM
  obtain ⟨s, hs⟩ : ∃ s, P / E = s := ⟨_, rfl⟩
  obtain ⟨m, hm⟩ : ∃ s, P % E = s := ⟨_, rfl⟩
  have HS := Lib.hid hs; have HR := Lib.hid hm
  clear hs hm
  have K := Lib.hid (Blk.new w 26 #[.int .i64 E, .int .i64 P])
  have t1 : decide (O < 0) = false := by simp; omega
  have t2 : decide (2305843009213693952 < O) = false := by simp; omega
  go_enter Try.func35, Try.ntmps35
  go_wp2_with fail
  refine (wcheck_yes E P _ HM.out).mono ?_
  rintro e w1 ⟨rfl, hb⟩
  have K := Lib.hid (K.out.below hb)
  have B := Lib.hid (below_next (wbox _ _) hb)
  clear hb
  have k0 := K.out.cell 0; have k1 := K.out.cell 1
  simp at k0 k1
  go_wp2_with fail
  refine (ccount_any P E _ (by omega) m2 (by omega)).mono ?_
  rintro e w2 ⟨rfl, hb⟩
  rw [HS.out, HR.out]
  have K := Lib.hid (K.out.below hb)
  have B := Lib.hid (below_next B.out hb)
  clear hb k0 k1
  go_upto_region 4 with fail
  obtain ⟨W0, hW0⟩ : ∃ W0, w2.alloc (Obj.cells #[.int .i64 0, .int .i64 0, .int .i64 s, .int .i64 m, .int .i64 E] 70) = W0 := ⟨_, rfl⟩
  have K := Lib.hid (show Blk W0 26 w.heap.size #[.int .i64 E, .int .i64 P] by rw [← hW0]; exact K.out.alloc _)
  have C := Lib.hid (show Blk W0 70 w2.heap.size #[.int .i64 0, .int .i64 0, .int .i64 s, .int .i64 m, .int .i64 E] by rw [← hW0]; exact Blk.new _ _ _)
  have B := Lib.hid (show Below w.heap.size w W0 by rw [← hW0]; exact below_next B.out (wbox _ _))
  rw [hW0]
  clear hW0
  have KEPT := Lib.hid (show ∀ w' : World, Below W0.heap.size W0 w' → w'.cell? ⟨w.heap.size, 0, none⟩ = some (.int .i64 E) ∧ w'.cell? ⟨w.heap.size, 1, none⟩ = some (.int .i64 P) ∧ w'.cell? ⟨w2.heap.size, 0, none⟩ = some (.int .i64 0) ∧ w'.cell? ⟨w2.heap.size, 1, none⟩ = some (.int .i64 0) ∧ w'.cell? ⟨w2.heap.size, 2, none⟩ = some (.int .i64 s) ∧ w'.cell? ⟨w2.heap.size, 3, none⟩ = some (.int .i64 m) ∧ w'.cell? ⟨w2.heap.size, 4, none⟩ = some (.int .i64 E) from fun w' h => ⟨(K.out.below h).cell 0, (K.out.below h).cell 1, (C.out.below h).cell 0, (C.out.below h).cell 1, (C.out.below h).cell 2, (C.out.below h).cell 3, (C.out.below h).cell 4⟩)
  have BB := Lib.hid (show Below W0.heap.size W0 W0.drew from (Below.refl W0.heap.size W0).drew)
  go_region_held3 (fun w' => w'.cell? ⟨w.heap.size, 0, none⟩ = some (.int .i64 E) ∧ w'.cell? ⟨w.heap.size, 1, none⟩ = some (.int .i64 P) ∧ w'.cell? ⟨w2.heap.size, 0, none⟩ = some (.int .i64 0) ∧ w'.cell? ⟨w2.heap.size, 1, none⟩ = some (.int .i64 0) ∧ w'.cell? ⟨w2.heap.size, 2, none⟩ = some (.int .i64 s) ∧ w'.cell? ⟨w2.heap.size, 3, none⟩ = some (.int .i64 m) ∧ w'.cell? ⟨w2.heap.size, 4, none⟩ = some (.int .i64 E))
    (first | with_reducible exact KEPT.out _ BB.out | with_reducible exact KEPT.out _ (below_next BB.out (wbox _ _)))
    (first
      | (go_at_call 41; (with_reducible refine (cgroups_any E P s m _ HM.out HS.out HR.out).mono ?_); rintro e w3 ⟨ga, gr, gs, gm, gb, rfl, hgr, hb⟩; have BB := Lib.hid (below_next BB.out hb); have HG := Lib.hid hgr; clear hb hgr))
  all_goals
    go_wp2
    go_ret
    refine ⟨_, rfl, Nat.le_trans B.out.size BB.out.size, ⟨ga, gr, gs, gm, gb, ?_, HG.out⟩, below_next (below_next B.out BB.out) (wbox _ _)⟩
    rw [HS.out, HR.out, show 0 * P / E = 0 by simp, show 0 * P % E = 0 by simp]
    exact Blk.new _ _ _
theorem snew_no (E P O : Int) (w : World) (h : ¬ MayBe E P ∨ O < 0 ∨ 2305843009213693952 < O) :
    Calls Try.prog 35 #[.agg #[.int .i64 E, .int .i64 P], .int .i64 O] w fun e w' => e = .returned (.pointer none) ∧ Below w.heap.size w w' := by
  by_cases q : MayBe E P
  · have HQ := Lib.hid q
    by_cases z : O < 0
    · have t1 : decide (O < 0) = true := by simp; omega
      clear h q z
      go_enter Try.func35, Try.ntmps35
      go_wp2_with fail
      refine (wcheck_yes E P _ HQ.out).mono ?_
      rintro e w1 ⟨rfl, hb⟩
      have B := Lib.hid (below_next (wbox _ _) hb)
      clear hb
      go_wp2
      go_ret
      exact ⟨rfl, B.out⟩
    · have t1 : decide (O < 0) = false := by simp; omega
      have t2 : decide (2305843009213693952 < O) = true := by
        rcases h with h | h | h
        · exact absurd q h
        · exact absurd h z
        · simp; omega
      clear h q z
      go_enter Try.func35, Try.ntmps35
      go_wp2_with fail
      refine (wcheck_yes E P _ HQ.out).mono ?_
      rintro e w1 ⟨rfl, hb⟩
      have B := Lib.hid (below_next (wbox _ _) hb)
      clear hb
      go_wp2
      go_ret
      exact ⟨rfl, B.out⟩
  · have HQ := Lib.hid q
    clear h q
    go_enter Try.func35, Try.ntmps35
    go_wp2_with fail
    refine (wcheck_any E P _ false ⟨fun h => (by cases h), fun h => absurd h HQ.out⟩).mono ?_
    rintro e w1 ⟨rfl, hb⟩
    have B := Lib.hid (below_next (wbox _ _) hb)
    clear hb
    go_wp2
    go_ret
    exact ⟨rfl, B.out⟩

/-! ### Shift -/
theorem sshift_nil (k : Int) (w : World) : Calls Try.prog 44 #[.pointer none, .int .i64 k] w fun e w' => e = .returned (.bool false) ∧ w = w' := by
  go_enter Try.func44, Try.ntmps44
  go_wp2_with fail
  refine (snothing_nil _).mono ?_
  rintro e w1 ⟨rfl, rfl⟩
  go_wp2
  go_ret
  exact ⟨rfl, rfl⟩
theorem sshift_zero (k : Int) (g : Nat) (w : World) (h : Blk w 74 g (spC 0 0 0 0 0 0 0 0 0 0 0 0)) : Calls Try.prog 44 #[.pointer (some ⟨g, 0, none⟩), .int .i64 k] w fun e w' => e = .returned (.bool false) ∧ w = w' := by
  have H := Lib.hid h
  clear h
  go_enter Try.func44, Try.ntmps44
  go_wp2_with fail
  refine (snothing_zero g _ H.out).mono ?_
  rintro e w1 ⟨rfl, rfl⟩
  go_wp2
  go_ret
  exact ⟨rfl, rfl⟩
theorem sshift_any (E P O n k : Int) (g : Nat) (w : World) (h : Stp w g E P O n) (hM : MayBe E P) (O0 : 0 ≤ O) (O1 : O ≤ 2305843009213693952) :
    Calls Try.prog 44 #[.pointer (some ⟨g, 0, none⟩), .int .i64 k] w
      fun e w' => (0 ≤ k ∧ O + k ≤ 2305843009213693952 ∧ e = .returned (.bool true) ∧ Stp w' g E P (O + k) n ∧ But g w w') ∨ ((k < 0 ∨ 2305843009213693952 < O + k) ∧ e = .returned (.bool false) ∧ w = w') := by
  have e0 : 0 < E := by have := hM.1; omega
  clear hM
  obtain ⟨ga, gr, gs, gm, gb, hB, hG⟩ := h
  obtain ⟨a, ha⟩ : ∃ a, n * P / E = a := ⟨_, rfl⟩
  obtain ⟨r, hr⟩ : ∃ a, n * P % E = a := ⟨_, rfl⟩
  obtain ⟨s, hs⟩ : ∃ a, P / E = a := ⟨_, rfl⟩
  obtain ⟨m, hm⟩ : ∃ a, P % E = a := ⟨_, rfl⟩
  unfold Stp
  rw [ha, hr, hs, hm] at hB ⊢
  have H := Lib.hid hB; have HG := Lib.hid hG
  have c := hB.cell 11
  have f := hB.free 11
  simp [spC] at c
  clear hB hG ha hr hs hm
  by_cases z : k < 0
  · have t1 : decide (k < 0) = true := by simp; omega
    have HZ := Lib.hid (show k < 0 ∨ 2305843009213693952 < O + k from .inl z)
    clear z
    go_enter Try.func44, Try.ntmps44
    go_wp2_with fail
    refine (snothing_no a r s m E ga gr gs gm gb n O g _ H.out e0).mono ?_
    rintro e w1 ⟨rfl, rfl⟩
    go_wp2
    go_ret
    exact .inr ⟨HZ.out, rfl, rfl⟩
  · by_cases y : 2305843009213693952 - O < k
    · have t1 : decide (k < 0) = false := by simp; omega
      have t2 : decide (2305843009213693952 - O < k) = true := by simp; omega
      have HZ := Lib.hid (show k < 0 ∨ 2305843009213693952 < O + k from .inr (by omega))
      clear z y
      go_enter Try.func44, Try.ntmps44
      go_wp2_with fail
      refine (snothing_no a r s m E ga gr gs gm gb n O g _ H.out e0).mono ?_
      rintro e w1 ⟨rfl, rfl⟩
      go_wp2
      go_ret
      exact .inr ⟨HZ.out, rfl, rfl⟩
    · have t1 : decide (k < 0) = false := by simp; omega
      have t2 : decide (2305843009213693952 - O < k) = false := by simp; omega
      have k0 : 0 ≤ k := by omega
      have k1 : O + k ≤ 2305843009213693952 := by omega
      clear z y
      go_enter Try.func44, Try.ntmps44
      go_wp2_with fail
      refine (snothing_no a r s m E ga gr gs gm gb n O g _ H.out e0).mono ?_
      rintro e w1 ⟨rfl, rfl⟩
      go_wp2
      go_ret
      exact .inl ⟨k0, k1, rfl, ⟨_, _, _, _, _, H.out.spOff _, HG.out⟩, (But.refl _ _).set _ _⟩

/-! ### Copy -/
theorem scopy_nil (w : World) : Calls Try.prog 49 #[.pointer none] w fun e w' => e = .returned (.pointer none) ∧ w = w' := by
  go_enter Try.func49, Try.ntmps49
  go_wp2
  go_ret
  exact ⟨rfl, rfl⟩
theorem scopy_blk (a r s m b ga gr gs gm gb n O : Int) (g : Nat) (w : World) (h : Blk w 74 g (spC a r s m b ga gr gs gm gb n O)) :
    Calls Try.prog 49 #[.pointer (some ⟨g, 0, none⟩)] w fun e w' => e = .returned (.pointer (some ⟨w.heap.size, 0, none⟩)) ∧ Blk w' 74 w.heap.size (spC a r s m b ga gr gs gm gb n O) ∧ Below w.heap.size w w' := by
  have c0 := h.cell 0; have c1 := h.cell 1; have c2 := h.cell 2; have c3 := h.cell 3; have c4 := h.cell 4; have c5 := h.cell 5; have c6 := h.cell 6; have c7 := h.cell 7; have c8 := h.cell 8; have c9 := h.cell 9; have c10 := h.cell 10; have c11 := h.cell 11
  simp [spC] at c0 c1 c2 c3 c4 c5 c6 c7 c8 c9 c10 c11
  clear h
  go_enter Try.func49, Try.ntmps49
  go_wp2
  go_ret
  exact ⟨rfl, Blk.new _ _ _, wbox _ _⟩
theorem scopy_any (E P O n : Int) (g : Nat) (w : World) (h : Stp w g E P O n) :
    Calls Try.prog 49 #[.pointer (some ⟨g, 0, none⟩)] w fun e w' => e = .returned (.pointer (some ⟨w.heap.size, 0, none⟩)) ∧ Stp w' w.heap.size E P O n ∧ Below w.heap.size w w' := by
  obtain ⟨ga, gr, gs, gm, gb, hB, hG⟩ := h
  exact (scopy_blk _ _ _ _ _ _ _ _ _ _ _ _ g w hB).mono fun e w' ⟨h1, h2, h3⟩ => ⟨h1, ⟨_, _, _, _, _, h2, hG⟩, h3⟩
end Go.Proofs.Ythaoijmjkmgebaa
