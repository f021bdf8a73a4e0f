/-
  Package task as landed: New, and the closure that shifts what is late: contracts.
-/
import Derived.Test.YthaoijmjkmgebaaTq1
import Derived.Deep.DeepCutAuto
namespace Go.Proofs.Ythaoijmjkmgebaa
open Go.RowKit

/-! ### New -/
theorem hp_new {wx : World} {E P at_ : Int} {early : Bool} {s : Nat} (hM : MayBe E P) (h0 : 0 ≤ at_) (h1 : at_ ≤ 1099511627776) (hs : Stp wx s E P at_ 0) :
    HpT (wx.alloc (.cells (tkC (ts0 E P at_ early) s (.slice none 0 0)) 66)) wx.heap.size (fun k => k = wx.heap.size ∨ k = s) (ts0 E P at_ early) :=
  ⟨s, _, ⟨Blk.new _ _ _, hs.alloc _, QueR.nil _ _ _ _, by have := hs.lt; omega, by simp [Value.ownBlock], by simp [Value.ownBlock], good0 hM h0 h1⟩, fun k => by simp [Value.ownBlock]⟩
set_option maxHeartbeats 2000000 in
theorem tnew_yes (E P at_ : Int) (early : Bool) (w : World) (hM : MayBe E P) (h0 : 0 ≤ at_) (h1 : at_ ≤ 1099511627776) : Calls Try.prog 11 #[.agg #[.int .i64 E, .int .i64 P], .int .i64 at_, .bool early] w fun z w' => ∃ g F, z = .returned (.pointer (some ⟨g, 0, none⟩)) ∧ HpT w' g F (ts0 E P at_ early) ∧ From F w.heap.size ∧ Below w.heap.size w w' := by
  have HM := Lib.hid hM
  have H0 := Lib.hid h0
  have H1 := Lib.hid h1
  have K := Lib.hid (Blk.new w 26 #[.int .i64 E, .int .i64 P])
  clear hM h0 h1
  go_enter Try.func11, Try.ntmps11
  go_wp2_with fail
  refine (wcheck_yes E P _ HM.out).mono ?_
  rintro e w1 ⟨rfl, hb⟩
  have K := Lib.hid (K.out.below hb)
  have B := Lib.hid (below_next (wbox _ _) hb)
  clear hb
  go_wp2_with fail
  refine (tslot_any at_ _ true (by have := H0.out; have := H1.out; simp; omega)).mono ?_
  rintro e w2 ⟨rfl, rfl⟩
  have KEPT := Lib.hid (show ∀ w' : World, Below w1.heap.size w1 w' → w'.cell? ⟨w.heap.size, 0, none⟩ = some (.int .i64 E) ∧ w'.cell? ⟨w.heap.size, 1, none⟩ = some (.int .i64 P) from fun w' h => ⟨(K.out.below h).cell 0, (K.out.below h).cell 1⟩)
  have BB := Lib.hid (show Below w1.heap.size w1 w1.drew from (Below.refl w1.heap.size w1).drew)
  go_upto_region 3 with fail
  go_region_held3 (fun w' => w'.cell? ⟨w.heap.size, 0, none⟩ = some (.int .i64 E) ∧ w'.cell? ⟨w.heap.size, 1, none⟩ = some (.int .i64 P))
    (first | with_reducible exact KEPT.out _ BB.out | with_reducible exact KEPT.out _ (below_next BB.out (wbox _ _)))
    (first
      | (go_at_call 35; (with_reducible refine (snew_yes E P at_ _ HM.out H0.out (by have := H1.out; omega)).mono ?_); rintro e w3 ⟨sb, rfl, hsg, hst, hb⟩; have SG := Lib.hid (show w1.heap.size ≤ sb from hsg); have ST := Lib.hid hst; have BB := Lib.hid (below_next BB.out hb); clear hb hst hsg))
  all_goals
    go_wp2
    go_ret
    refine ⟨_, _, rfl, hp_new HM.out H0.out H1.out ST.out, fun k q => ?_, below_next (below_next B.out BB.out) (wbox _ _)⟩
    have b1 := B.out.size
    have b2 := BB.out.size
    have b3 := SG.out
    rcases q with rfl | rfl
    · omega
    · omega
set_option maxHeartbeats 2000000 in
theorem tnew_no (E P at_ : Int) (early : Bool) (w : World) (h : ¬ (MayBe E P ∧ 0 ≤ at_ ∧ at_ ≤ 1099511627776)) : Calls Try.prog 11 #[.agg #[.int .i64 E, .int .i64 P], .int .i64 at_, .bool early] w fun z w' => z = .returned (.pointer none) ∧ Below w.heap.size w w' := by
  by_cases q : MayBe E P
  · have HQ := Lib.hid q
    have HS := Lib.hid (show false = decide (0 ≤ at_ ∧ at_ ≤ 1099511627776) by symm; simp only [decide_eq_false_iff_not]; exact fun z => h ⟨q, z⟩)
    clear h q
    go_enter Try.func11, Try.ntmps11
    go_wp2_with fail
    refine (wcheck_yes E P _ HQ.out).mono ?_
    rintro e w1 ⟨rfl, hb⟩
    have B := Lib.hid (below_next (wbox _ _) hb)
    clear hb
    go_wp2_with fail
    refine (tslot_any at_ _ false HS.out).mono ?_
    rintro e w2 ⟨rfl, rfl⟩
    go_wp2
    go_ret
    exact ⟨rfl, B.out⟩
  · have HQ := Lib.hid q
    clear h q
    go_enter Try.func11, Try.ntmps11
    go_wp2_with fail
    refine (wcheck_any E P _ false ⟨fun h => (by cases h), fun h => absurd h HQ.out⟩).mono ?_
    rintro e w1 ⟨rfl, hb⟩
    have B := Lib.hid (below_next (wbox _ _) hb)
    clear hb
    go_wp2
    go_ret
    exact ⟨rfl, B.out⟩

/-! ### what is late -/
theorem speek_of (E P O n : Int) (g : Nat) (w : World) (h : Stp w g E P O n) (hM : MayBe E P) (n0 : 0 ≤ n) (n1 : n < 1099511627776) (O0 : 0 ≤ O) (O1 : O ≤ 2305843009213693952) (s : Sb) (hs : ofV E P (n + 1) O = s) :
    Calls Try.prog 43 #[.pointer (some ⟨g, 0, none⟩)] w fun e w' => e = .returned (.agg #[.int .i64 s.I, .int .i64 s.R, .int .i64 s.D, .int .i64 s.B, .int .i64 s.G]) ∧ Below w.heap.size w w' := by
  subst hs
  exact speek_any E P O n g w h hM n0 n1 O0 O1
theorem snext_of (E P O n : Int) (g : Nat) (w : World) (h : Stp w g E P O n) (hM : MayBe E P) (n0 : 0 ≤ n) (n1 : n < 1099511627776) (O0 : 0 ≤ O) (O1 : O ≤ 2305843009213693952) (s : Sb) (hs : ofV E P (n + 1) O = s) :
    Calls Try.prog 45 #[.pointer (some ⟨g, 0, none⟩)] w fun e w' => e = .returned (.agg #[.int .i64 s.I, .int .i64 s.R, .int .i64 s.D, .int .i64 s.B, .int .i64 s.G]) ∧ Stp w' g E P O (n + 1) ∧ But g w w' := by
  subst hs
  exact snext_any E P O n g w h hM n0 n1 O0 O1
theorem Stp.own5 {W : World} {s g : Nat} {E P O n : Int} {u v x y z : Value} (h : Stp W s E P O n) (hne : s ≠ g) :
    Stp (((((W.setCell ⟨g, 0, none⟩ u).setCell ⟨g, 1, none⟩ v).setCell ⟨g, 2, none⟩ x).setCell ⟨g, 3, none⟩ y).setCell ⟨g, 4, none⟩ z) s E P O n := by
  obtain ⟨_, _, _, _, _, h, q⟩ := h
  exact ⟨_, _, _, _, _, h.other5 hne, q⟩
/-- what the closure keeps: the slot, the stepper -/
structure Late (W : World) (bA bS sb : Nat) (at_ : Int) : Prop where
  a : Blk W 2 bA #[.int .i64 at_]
  s : Blk W 63 bS #[.pointer (some ⟨sb, 0, none⟩)]
  na : bA ≠ sb
  ns : bS ≠ sb
theorem Late.but {W W' : World} {bA bS sb : Nat} {at_ : Int} (h : Late W bA bS sb at_) (hb : But sb W W') : Late W' bA bS sb at_ := ⟨h.a.but hb h.na, h.s.but hb h.ns, h.na, h.ns⟩
theorem Late.below {W W' : World} {bA bS sb : Nat} {at_ : Int} (h : Late W bA bS sb at_) (hb : Below W.heap.size W W') : Late W' bA bS sb at_ := ⟨h.a.below hb, h.s.below hb, h.na, h.ns⟩
theorem release_run (a b c d e : Int) (w : World) : (Instr.field 35 (.agg #[.int .i64 a, .int .i64 b, .int .i64 c, .int .i64 d, .int .i64 e]) 1).run Try.prog w = .ok (.int .i64 b) w := by kernel_rfl
def laterO (E P O n at_ : Int) : Int := if wR E P n + O < at_ then at_ - wR E P n else O
theorem laterO_of (t : TS) (at_ : Int) : lateO t at_ = laterO t.E t.P t.O (t.came + 1) at_ := rfl
set_option maxHeartbeats 4000000 in
theorem tlate_any (E P O n at_ : Int) (bA bS sb : Nat) (w : World) (h : Late w bA bS sb at_) (hs : Stp w sb E P O n) (hM : MayBe E P) (n0 : 0 ≤ n) (n1 : n ≤ 1000000) (O0 : 0 ≤ O) (O1 : O ≤ 1099511627776) (a0 : 0 ≤ at_) (a1 : at_ ≤ 1099511627776) (s' : Sb) (hs' : ofV E P (n + 1) (laterO E P O (n + 1) at_) = s') :
    Calls Try.prog 42 #[.pointer (some ⟨bA, 0, none⟩), .pointer (some ⟨bS, 0, none⟩)] w fun e w' => e = .returned (.agg #[.int .i64 s'.I, .int .i64 s'.R, .int .i64 s'.D, .int .i64 s'.B, .int .i64 s'.G]) ∧ Stp w' sb E P (laterO E P O (n + 1) at_) (n + 1) ∧ But sb w w' := by
  obtain ⟨W1, hW1⟩ : ∃ W1, w.alloc (.cells #[.int .i64 0, .int .i64 0, .int .i64 0, .int .i64 0, .int .i64 0] 35) = W1 := ⟨_, rfl⟩
  have B1 := Lib.hid (show Below w.heap.size w W1 by rw [← hW1]; exact wbox _ _)
  have N1 := Lib.hid (show Blk W1 35 w.heap.size #[.int .i64 0, .int .i64 0, .int .i64 0, .int .i64 0, .int .i64 0] by rw [← hW1]; exact Blk.new w _ _)
  have L1 := Lib.hid (h.below B1.out)
  have S1 := Lib.hid (hs.below B1.out)
  have nsz : w.heap.size ≠ sb := fun e => by have := hs.lt; omega
  have HM := Lib.hid hM
  have HS' := Lib.hid hs'
  have F := wR_fit hM (i := n + 1) (by omega) (by omega)
  obtain ⟨s, hs0⟩ : ∃ s, ofV E P (n + 1) O = s := ⟨_, rfl⟩
  have HS := Lib.hid hs0
  have sr : s.R = wR E P (n + 1) + O := by rw [← hs0]; rfl
  obtain ⟨r, hr⟩ : ∃ r, s.R = r := ⟨_, rfl⟩
  obtain ⟨wr0, hwr⟩ : ∃ x, wR E P (n + 1) = x := ⟨_, rfl⟩
  rw [hwr] at F sr
  rw [hr] at sr
  have LO := Lib.hid (show laterO E P O (n + 1) at_ = if r < at_ then at_ - wr0 else O by unfold laterO; rw [hwr, sr])
  obtain ⟨lt, hlt⟩ : ∃ lt, at_ - r = lt := ⟨_, rfl⟩
  have wl : IntKind.i64.wrap (at_ - r) = lt := by rw [← hlt]; exact IntWalk.i64_in _ (by omega)
  have n0' := Lib.hid n0; have n1' := Lib.hid n1; have O0' := Lib.hid O0; have O1' := Lib.hid O1
  have SR := Lib.hid sr
  have LT := Lib.hid hlt
  have FF := Lib.hid F
  clear hM hs' hs0 h hs sr hlt F hwr
  have KEPT := Lib.hid (show ∀ w' : World, Below W1.heap.size W1 w' → w'.cell? ⟨bA, 0, none⟩ = some (.int .i64 at_) ∧ w'.cell? ⟨bS, 0, none⟩ = some (.pointer (some ⟨sb, 0, none⟩)) from fun w' h => ⟨(L1.out.below h).a.cell 0, (L1.out.below h).s.cell 0⟩)
  have BB := Lib.hid (show Below W1.heap.size W1 W1.drew from (Below.refl W1.heap.size W1).drew)
  go_enter Try.func42, Try.ntmps42
  go_upto_region 1 with fail
  clear hW1
  have hfr := release_run s.I r s.D s.B s.G
  go_region_held3 (fun w' => w'.cell? ⟨bA, 0, none⟩ = some (.int .i64 at_) ∧ w'.cell? ⟨bS, 0, none⟩ = some (.pointer (some ⟨sb, 0, none⟩)))
    (first | with_reducible exact KEPT.out _ BB.out)
    (first
      | (go_at_call 43; (with_reducible refine (speek_of E P O n sb _ (S1.out.below BB.out) HM.out n0'.out (by have := n1'.out; omega) O0'.out (by have := O1'.out; omega) s HS.out).mono ?_); rintro e w3 ⟨rfl, hb⟩; rw [hr]; have BB := Lib.hid (below_next BB.out hb); clear hb))
  all_goals
    have q := KEPT.out _ BB.out
    have c0 := q.1
    have c1 := q.2
    clear q
    by_cases late : 0 < lt
    · have tl : decide (0 < lt) = true := decide_eq_true late
      have LO2 := Lib.hid (show laterO E P O (n + 1) at_ = O + lt by have := LT.out; have := SR.out; rw [LO.out, if_pos (by omega)]; omega)
      have L0 := Lib.hid (show 0 < lt from late)
      have LB := Lib.hid (show 0 ≤ O + lt ∧ O + lt ≤ 1099511627776 by have := LT.out; have := SR.out; have := FF.out; have := O0'.out; omega)
      clear late
      go_wp2_with fail
      refine (sshift_any E P O n lt sb _ (S1.out.below BB.out) HM.out O0'.out (by have := O1'.out; omega)).mono ?_
      rintro e w4 (⟨_, _, rfl, hst, hbut⟩ | ⟨hbad, _, _⟩)
      · have S4 := Lib.hid hst
        have L4 := Lib.hid ((L1.out.below BB.out).but hbut)
        have K4 := Lib.hid hbut
        have N4 := Lib.hid ((N1.out.below BB.out).but hbut nsz)
        clear hst hbut c0 c1
        have c1 := L4.out.s.cell 0
        simp at c1
        go_wp2_with fail
        refine (snext_of E P (O + lt) n sb _ S4.out HM.out n0'.out (by have := n1'.out; omega) LB.out.1 (by have := LB.out.2; omega) s' (by rw [← LO2.out]; exact HS'.out)).mono ?_
        rintro e w5 ⟨rfl, hst, hbut⟩
        have S5 := Lib.hid hst
        have K5 := Lib.hid hbut
        have N5 := Lib.hid (N4.out.but hbut nsz)
        clear hst hbut c1
        have x0 := N5.out.cell 0; have x1 := N5.out.cell 1; have x2 := N5.out.cell 2; have x3 := N5.out.cell 3; have x4 := N5.out.cell 4
        have fx : ∀ o, w5.frozen? ⟨w.heap.size, o, none⟩ = false := fun o => N5.out.free o
        simp at x0 x1 x2 x3 x4
        have sz := N5.out.lt
        go_wp2
        exact bodyPost_ret (v := .agg #[.int .i64 s'.I, .int .i64 s'.R, .int .i64 s'.D, .int .i64 s'.B, .int .i64 s'.G]) (by simp [results, Try.results42, go_sem, x0, x1, x2, x3, x4]) rfl ⟨rfl, by rw [LO2.out]; exact S5.out.own5 (Ne.symm nsz), (((But.of (g := sb) (below_next B1.out BB.out)).trans K4.out).trans K5.out).own5 (Nat.le_refl _)⟩
      · exfalso
        have h1 := LB.out
        have h2 := L0.out
        omega
    · have tl : decide (0 < lt) = false := decide_eq_false late
      have LO2 := Lib.hid (show laterO E P O (n + 1) at_ = O by have := LT.out; rw [LO.out, if_neg (by omega)])
      clear late
      go_wp2_with fail
      refine (snext_of E P O n sb _ (S1.out.below BB.out) HM.out n0'.out (by have := n1'.out; omega) O0'.out (by have := O1'.out; omega) s' (by rw [← LO2.out]; exact HS'.out)).mono ?_
      rintro e w5 ⟨rfl, hst, hbut⟩
      have S5 := Lib.hid hst
      have K5 := Lib.hid hbut
      have N5 := Lib.hid ((N1.out.below BB.out).but hbut nsz)
      clear hst hbut c0 c1
      have x0 := N5.out.cell 0; have x1 := N5.out.cell 1; have x2 := N5.out.cell 2; have x3 := N5.out.cell 3; have x4 := N5.out.cell 4
      have fx : ∀ o, w5.frozen? ⟨w.heap.size, o, none⟩ = false := fun o => N5.out.free o
      simp at x0 x1 x2 x3 x4
      have sz := N5.out.lt
      go_wp2
      exact bodyPost_ret (v := .agg #[.int .i64 s'.I, .int .i64 s'.R, .int .i64 s'.D, .int .i64 s'.B, .int .i64 s'.G]) (by simp [results, Try.results42, go_sem, x0, x1, x2, x3, x4]) rfl ⟨rfl, by rw [LO2.out]; exact S5.out.own5 (Ne.symm nsz), ((But.of (g := sb) (below_next B1.out BB.out)).trans K5.out).own5 (Nat.le_refl _)⟩
end Go.Proofs.Ythaoijmjkmgebaa
