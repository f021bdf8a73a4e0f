/-
  What the methods of package window's own weight give back: contracts.
-/
import Derived.Test.YtgfhlllddfdapaaWin3
import Derived.Deep.RegionHeld3
namespace Go.Proofs.Ytgfhlllddfdapaa
open Go.RowKit

/-! ### how great they may be -/
theorem mul_bd {a b x y : Int} (a0 : 0 ≤ a) (h1 : a ≤ x) (b0 : 0 ≤ b) (h2 : b ≤ y) : 0 ≤ a * b ∧ a * b ≤ x * y :=
  ⟨Int.mul_nonneg a0 b0, Int.mul_le_mul h1 h2 b0 (by omega)⟩
/-- numbers of a weight and of a subtask, as the walks want them -/
theorem fit_w {E P i : Int} (hM : MayBe E P) (i0 : 0 ≤ i) (i1 : i ≤ 1099511627776) : 0 ≤ i * P ∧ i * P ≤ 1152921504606846976 := by
  obtain ⟨h1, h2, h3⟩ := hM
  have := mul_bd i0 i1 (show 0 ≤ P by omega) h3
  omega
theorem wR_fit {E P i : Int} (hM : MayBe E P) (i0 : 1 ≤ i) (i1 : i ≤ 1099511627776) : 0 ≤ wR E P i ∧ wR E P i ≤ 1152921504606846976 := by
  have h := fit_w hM (show 0 ≤ i - 1 by omega) (by omega)
  obtain ⟨h1, h2, h3⟩ := hM
  refine ⟨wR_nonneg (by omega) (by omega) i0, ?_⟩
  have := Int.ediv_le_self E h.1
  unfold wR; omega
theorem wD_fit {E P i : Int} (hM : MayBe E P) (i0 : 1 ≤ i) (i1 : i ≤ 1099511627776) : 1 ≤ wD E P i ∧ wD E P i ≤ 1152921504606846976 := by
  have h := fit_w hM (show 0 ≤ i by omega) i1
  obtain ⟨h1, h2, h3⟩ := hM
  refine ⟨wD_pos (by omega) (by omega) i0, cdv_min (by omega) ?_⟩
  have : (1152921504606846976 : Int) * 1 ≤ 1152921504606846976 * E := Int.mul_le_mul_of_nonneg_left h1 (by omega)
  omega
theorem wD_heavy {E P i : Int} (hM : MayBe E P) (hh : ¬ 2 * E < P) (i0 : 1 ≤ i) : wD E P i ≤ 2 * i := by
  obtain ⟨h1, h2, h3⟩ := hM
  refine cdv_min (by omega) ?_
  have : i * P ≤ i * (2 * E) := Int.mul_le_mul_of_nonneg_left (by omega) (by omega)
  have e : i * (2 * E) = 2 * i * E := by grind
  omega
theorem wK_fit {E P i : Int} (hM : MayBe E P) (hh : ¬ 2 * E < P) (i0 : 1 ≤ i) (i1 : i ≤ 1099511627776) :
    (wD E P i - 1) * (P - E) ≤ 2305843009213693952 ∧ 1 ≤ wK E P i ∧ wK E P i ≤ 2199023255552 ∧ wK E P i * P ≤ 2305843009213693952 := by
  have h := (wD_fit hM i0 i1).1
  have h2 := wD_heavy hM hh i0
  obtain ⟨g1, g2, g3⟩ := hM
  have a := mul_bd (show 0 ≤ wD E P i - 1 by omega) (show wD E P i - 1 ≤ 2199023255551 by omega) (show 0 ≤ P - E by omega) (show P - E ≤ 1048576 by omega)
  have k0 : 0 ≤ (wD E P i - 1) * (P - E) / P := Int.ediv_nonneg a.1 (by omega)
  have k1 : (wD E P i - 1) * (P - E) / P < 2199023255552 := by
    refine Int.ediv_lt_of_lt_mul (by omega) ?_
    have : (wD E P i - 1) * (P - E) ≤ (wD E P i - 1) * P := Int.mul_le_mul_of_nonneg_left (by omega) (by omega)
    have : (wD E P i - 1) * P ≤ 2199023255551 * P := Int.mul_le_mul_of_nonneg_right (by omega) (by omega)
    omega
  have k2 : wK E P i = (wD E P i - 1) * (P - E) / P + 1 := rfl
  have b := mul_bd (show 0 ≤ wK E P i by omega) (show wK E P i ≤ 2199023255552 by omega) (show 0 ≤ P by omega) g3
  omega
theorem wB_is {E P i : Int} (hE : 0 < E) : wD E P i - i * P / E = wB E P i := by
  have := next_release (P := P) (i := i) hE
  unfold wR at this
  rw [Int.add_sub_cancel] at this
  omega

/-! ### the methods -/
theorem mheavy_any (E P : Int) (w : World) (hM : MayBe E P) (t : Bool) (ht : t = decide (P ≤ 2 * E)) :
    Calls Try.prog 23 #[.agg #[.int .i64 E, .int .i64 P]] w fun e w' => e = .returned (.bool t) ∧ Below w.heap.size w w' := by
  obtain ⟨h1, h2, h3⟩ := hM
  subst ht
  go_enter Try.func23, Try.ntmps23
  go_wp2
  go_ret
  exact ⟨rfl, wbox _ _⟩
theorem mrelease_any (E P i : Int) (w : World) (hM : MayBe E P) (i0 : 1 ≤ i) (i1 : i ≤ 1099511627776) :
    Calls Try.prog 19 #[.agg #[.int .i64 E, .int .i64 P], .int .i64 i] w fun e w' => e = .returned (.int .i64 (wR E P i)) ∧ Below w.heap.size w w' := by
  have F := Lib.hid (fit_w hM (show 0 ≤ i - 1 by omega) (by omega))
  obtain ⟨h1, h2, h3⟩ := hM
  go_enter Try.func19, Try.ntmps19
  go_wp2_with fail
  refine (parts_any 27 P E _).mono ?_
  rintro e w1 ⟨_, rfl, ⟨p, q, r, rfl, c1, c2, c3⟩, hb⟩
  have B1 := Lib.hid (below_next (wbox _ _) hb)
  have C1 := Lib.hid c1; have C2 := Lib.hid c2; have C3 := Lib.hid c3
  clear hb c1 c2 c3
  go_wp2_with fail
  refine (down_any (i - 1) P E p q r w1 C1.out C2.out C3.out (by omega) (by omega) (by omega) (by omega) (by omega) (by have := F.out; omega) (wR E P i) rfl).mono ?_
  rintro e w2 ⟨rfl, rfl⟩
  go_wp2
  go_ret
  exact ⟨rfl, B1.out⟩
theorem mdeadline_any (E P i : Int) (w : World) (hM : MayBe E P) (i0 : 1 ≤ i) (i1 : i ≤ 1099511627776) :
    Calls Try.prog 20 #[.agg #[.int .i64 E, .int .i64 P], .int .i64 i] w fun e w' => e = .returned (.int .i64 (wD E P i)) ∧ Below w.heap.size w w' := by
  have F := Lib.hid (fit_w hM (show 0 ≤ i by omega) (by omega))
  obtain ⟨h1, h2, h3⟩ := hM
  go_enter Try.func20, Try.ntmps20
  go_wp2_with fail
  refine (parts_any 28 P E _).mono ?_
  rintro e w1 ⟨_, rfl, ⟨p, q, r, rfl, c1, c2, c3⟩, hb⟩
  have B1 := Lib.hid (below_next (wbox _ _) hb)
  have C1 := Lib.hid c1; have C2 := Lib.hid c2; have C3 := Lib.hid c3
  clear hb c1 c2 c3
  go_wp2_with fail
  refine (up_any i P E p q r w1 C1.out C2.out C3.out (by omega) (by omega) (by omega) (by omega) (by omega) (by have := F.out; omega) (wD E P i) rfl).mono ?_
  rintro e w2 ⟨rfl, rfl⟩
  go_wp2
  go_ret
  exact ⟨rfl, B1.out⟩
theorem mbit_any (E P i : Int) (w : World) (hM : MayBe E P) (i0 : 1 ≤ i) (i1 : i ≤ 1099511627776) :
    Calls Try.prog 21 #[.agg #[.int .i64 E, .int .i64 P], .int .i64 i] w fun e w' => e = .returned (.int .i64 (wB E P i)) ∧ Below w.heap.size w w' := by
  have F := Lib.hid (fit_w hM (show 0 ≤ i by omega) (by omega))
  have D := wD_fit hM i0 i1
  obtain ⟨d0, d1⟩ := D
  have HB := Lib.hid (wB_is (P := P) (i := i) (show 0 < E from by have := hM.1; omega))
  obtain ⟨Q, hQ⟩ : ∃ Q, i * P / E = Q := ⟨_, rfl⟩
  have Q0 : 0 ≤ Q := by rw [← hQ]; exact Int.ediv_nonneg F.out.1 (by have := hM.1; omega)
  have Q1 : Q ≤ 1152921504606846976 := by rw [← hQ]; have h1 := Int.ediv_le_self E F.out.1; have := F.out.2; omega
  obtain ⟨D, hD⟩ : ∃ D, wD E P i = D := ⟨_, rfl⟩
  rw [hQ, hD] at HB
  rw [hD] at d0 d1
  have HQ := Lib.hid hQ; have HD := Lib.hid hD
  clear hQ hD
  obtain ⟨h1, h2, h3⟩ := hM
  go_enter Try.func21, Try.ntmps21
  go_wp2
  obtain ⟨W0, hW0⟩ : ∃ W0, w.alloc (Obj.cells #[Value.int .i64 E, Value.int .i64 P] 39) = W0 := ⟨_, rfl⟩
  have K := Lib.hid (show Blk W0.drew 39 w.heap.size #[Value.int .i64 E, Value.int .i64 P] by rw [← hW0]; exact Blk.new _ _ _)
  have B := Lib.hid (show Below w.heap.size w W0.drew by rw [← hW0]; exact (wbox _ _).drew)
  have KEPT := Lib.hid (show ∀ w' : World, Below W0.drew.heap.size W0.drew w' → w'.cell? ⟨w.heap.size, 0, none⟩ = some (.int .i64 E) ∧ w'.cell? ⟨w.heap.size, 1, none⟩ = some (.int .i64 P) from fun w' h => ⟨(K.out.below h).cell 0, (K.out.below h).cell 1⟩)
  have BB := Lib.hid (Below.refl W0.drew.heap.size W0.drew)
  rw [hW0]
  clear hW0
  go_region_held3 (fun w' => w'.cell? ⟨w.heap.size, 0, none⟩ = some (.int .i64 E) ∧ w'.cell? ⟨w.heap.size, 1, none⟩ = some (.int .i64 P))
    (exact KEPT.out _ BB.out)
    (first
      | (go_at_call 26; (with_reducible refine (parts_any 27 P E _).mono ?_); rintro e w1 ⟨_, rfl, ⟨p1, q1, r1, rfl, c1, c2, c3⟩, hb⟩; have BB := Lib.hid (below_next BB.out hb); have C1 := Lib.hid c1; have C2 := Lib.hid c2; have C3 := Lib.hid c3; clear c1 c2 c3 hb)
      | (go_at_call 26; (with_reducible refine (parts_any 28 P E _).mono ?_); rintro e w2 ⟨_, rfl, ⟨p2, q2, r2, rfl, c1, c2, c3⟩, hb⟩; have BA := Lib.hid hb; have BB := Lib.hid (below_next BB.out hb); have U1 := Lib.hid c1; have U2 := Lib.hid c2; have U3 := Lib.hid c3; clear c1 c2 c3 hb))
  all_goals
    go_wp2_with fail
    refine (up_any i P E p2 q2 r2 w2 U1.out U2.out U3.out (by omega) (by omega) (by omega) (by omega) (by omega) (by have := F.out; omega) D HD.out).mono ?_
    rintro e w3 ⟨rfl, rfl⟩
    go_wp2_with fail
    refine (down_any i P E p1 q1 r1 w2 ((BA.out.cell (p := ⟨p1, 0, none⟩) (World.block_lt_of_cell? _ _ C1.out)).trans C1.out) ((BA.out.cell (p := ⟨q1, 0, none⟩) (World.block_lt_of_cell? _ _ C2.out)).trans C2.out) ((BA.out.cell (p := ⟨r1, 0, none⟩) (World.block_lt_of_cell? _ _ C3.out)).trans C3.out) (by omega) (by omega) (by omega) (by omega) (by omega) (by have := F.out; omega) Q HQ.out).mono ?_
    rintro e w3 ⟨rfl, rfl⟩
    go_wp2
    go_ret
    exact ⟨ret_one HB.out, below_next B.out BB.out⟩

theorem mgroup_any (E P i : Int) (w : World) (hM : MayBe E P) (i0 : 1 ≤ i) (i1 : i ≤ 1099511627776) :
    Calls Try.prog 22 #[.agg #[.int .i64 E, .int .i64 P], .int .i64 i] w fun e w' => e = .returned (.int .i64 (wG E P i)) ∧ Below w.heap.size w w' := by
  have HM := Lib.hid hM
  obtain ⟨h1, h2, h3⟩ := hM
  obtain ⟨d0, d1⟩ := wD_fit HM.out i0 i1
  obtain ⟨D, hD⟩ : ∃ D, wD E P i = D := ⟨_, rfl⟩
  rw [hD] at d0 d1
  have HD := Lib.hid hD
  clear hD
  have K := Lib.hid (Blk.new w 39 #[Value.int .i64 E, Value.int .i64 P])
  by_cases g : 2 * E < P
  · have HG := Lib.hid (group_light (i := i) g)
    have ht : decide (P ≤ 2 * E) = false := by simp; omega
    have T := Lib.hid ht.symm
    clear ht
    go_enter Try.func22, Try.ntmps22
    go_wp2_with fail
    refine (mdeadline_any E P i _ HM.out i0 i1).mono ?_
    rintro e w1 ⟨rfl, hb⟩
    rw [HD.out]
    have B := Lib.hid (below_next (wbox _ _) hb)
    have k0 := (K.out.below hb).cell 0
    have k1 := (K.out.below hb).cell 1
    simp at k0 k1
    clear hb
    go_wp2_with fail
    refine (mheavy_any E P _ HM.out false T.out).mono ?_
    rintro e w2 ⟨rfl, hb⟩
    have B := Lib.hid (below_next B.out hb)
    clear hb
    go_wp2
    go_ret
    exact ⟨ret_one HG.out.symm, B.out⟩
  · have ht : decide (P ≤ 2 * E) = true := by simp; omega
    have T := Lib.hid ht.symm
    clear ht
    by_cases q : E = P
    · subst q
      have HG := Lib.hid (group_one (i := i) (show 0 < E by omega))
      go_enter Try.func22, Try.ntmps22
      go_wp2_with fail
      refine (mdeadline_any E E i _ HM.out i0 i1).mono ?_
      rintro e w1 ⟨rfl, hb⟩
      rw [HD.out]
      have B := Lib.hid (below_next (wbox _ _) hb)
      have K := Lib.hid (K.out.below hb)
      have k0 := K.out.cell 0
      have k1 := K.out.cell 1
      simp at k0 k1
      clear hb
      go_wp2_with fail
      refine (mheavy_any E E _ HM.out true T.out).mono ?_
      rintro e w2 ⟨rfl, hb⟩
      have B := Lib.hid (below_next B.out hb)
      have k2 := (K.out.below hb).cell 0
      have k3 := (K.out.below hb).cell 1
      simp at k2 k3
      clear hb
      go_wp2
      go_ret
      exact ⟨ret_one (HD.out.symm.trans HG.out.symm), B.out⟩
    · have WK := wK_fit HM.out g i0 i1
      have HG := Lib.hid (show wG E P i = cdv (wK E P i * P) (P - E) by unfold wG; rw [if_neg g, if_neg q])
      rw [HD.out] at WK
      have HK := Lib.hid (show (D - 1) * (P - E) / P + 1 = wK E P i by unfold wK; rw [HD.out])
      obtain ⟨N, hN⟩ : ∃ N, (D - 1) * (P - E) / P = N := ⟨_, rfl⟩
      obtain ⟨k, hk⟩ : ∃ k, wK E P i = k := ⟨_, rfl⟩
      rw [hk] at WK HG
      rw [hN, hk] at HK
      have HN := Lib.hid hN
      have F1 := Lib.hid WK.1
      have F2 := Lib.hid WK.2.2.2
      have n0 : 0 ≤ N := by have := HK.out; omega
      have n1 : N ≤ 2199023255552 := by have := HK.out; omega
      have HQ := Lib.hid (show N + 1 = k from HK.out)
      have k9 : 0 ≤ k ∧ k ≤ 2199023255552 := by omega
      obtain ⟨k9, k8⟩ := k9
      clear hN hk WK HK
      have qt : (E == P) = false := by simp; omega
      clear q
      have f0 : 0 < P - E := by simp at qt; omega
      go_enter Try.func22, Try.ntmps22
      go_wp2_with fail
      refine (mdeadline_any E P i _ HM.out i0 i1).mono ?_
      rintro e w1 ⟨rfl, hb⟩
      rw [HD.out]
      have B := Lib.hid (below_next (wbox _ _) hb)
      have K := Lib.hid (K.out.below hb)
      have k0 := K.out.cell 0
      have k1 := K.out.cell 1
      simp at k0 k1
      clear hb
      go_wp2_with fail
      refine (mheavy_any E P _ HM.out true T.out).mono ?_
      rintro e w2 ⟨rfl, hb⟩
      have B := Lib.hid (below_next B.out hb)
      have K := Lib.hid (K.out.below hb)
      have k2 := K.out.cell 0
      have k3 := K.out.cell 1
      simp at k2 k3
      clear hb k0 k1
      go_wp2
      have KEPT := Lib.hid (show ∀ w' : World, Below w2.drew.heap.size w2.drew w' → w'.cell? ⟨w.heap.size, 1, none⟩ = some (.int .i64 P) from fun w' h => (K.out.drew.below h).cell 1)
      have BB := Lib.hid (Below.refl w2.drew.heap.size w2.drew)
      clear k2 k3
      go_region_held3 (fun w' => w'.cell? ⟨w.heap.size, 1, none⟩ = some (.int .i64 P))
        (exact KEPT.out _ BB.out)
        (first
          | (go_at_call 26; (with_reducible refine (parts_any 27 (P - E) P _).mono ?_); rintro e w3 ⟨_, rfl, ⟨p1, q1, r1, rfl, c1, c2, c3⟩, hb⟩; have BB := Lib.hid (below_next BB.out hb); have C1 := Lib.hid c1; have C2 := Lib.hid c2; have C3 := Lib.hid c3; clear c1 c2 c3 hb)
          | (go_at_call 26; (with_reducible refine (parts_any 28 P (P - E) _).mono ?_); rintro e w4 ⟨_, rfl, ⟨p2, q2, r2, rfl, c1, c2, c3⟩, hb⟩; have BA := Lib.hid hb; have BB := Lib.hid (below_next BB.out hb); have U1 := Lib.hid c1; have U2 := Lib.hid c2; have U3 := Lib.hid c3; clear c1 c2 c3 hb))
      all_goals
        go_wp2_with fail
        refine (down_any (D - 1) (P - E) P p1 q1 r1 w4 ((BA.out.cell (p := ⟨p1, 0, none⟩) (World.block_lt_of_cell? _ _ C1.out)).trans C1.out) ((BA.out.cell (p := ⟨q1, 0, none⟩) (World.block_lt_of_cell? _ _ C2.out)).trans C2.out) ((BA.out.cell (p := ⟨r1, 0, none⟩) (World.block_lt_of_cell? _ _ C3.out)).trans C3.out) (by omega) (by omega) (by omega) (by omega) (by omega) (by have := F1.out; omega) N HN.out).mono ?_
        rintro e w5 ⟨rfl, rfl⟩
        go_wp2_with fail
        rw [HQ.out]
        refine (up_any k P (P - E) p2 q2 r2 w4 U1.out U2.out U3.out (by omega) (by omega) (by omega) (by omega) (by omega) (by have := F2.out; omega) _ HG.out.symm).mono ?_
        rintro e w5 ⟨rfl, rfl⟩
        go_wp2
        go_ret
        exact ⟨rfl, below_next B.out.drew BB.out⟩
end Go.Proofs.Ytgfhlllddfdapaa
