/-
  Package hold as landed: Fits: contract.
-/
import Derived.Test.YtbonilmlfelmpaaGreatHz8
import Derived.BigQuiet
namespace Go.Proofs.YtbonilmlfelmpaaGreat
open Go.RowKit

theorem le_scale {a b k : Int} (hk : 0 < k) : a ≤ b ↔ a * k ≤ b * k := ⟨fun h => Int.mul_le_mul_of_nonneg_right h (by omega), fun h => Int.le_of_mul_le_mul_right h hk⟩
/-- with (n, d) held, of which (c1, c2) is in: it is in -/
theorem in_is {n d T Sd c1 c2 : Int} (hd : 0 < d) (hs : 0 < Sd) (e : n * Sd = T * d) : c1 * d ≤ n * c2 ↔ c1 * Sd ≤ T * c2 := by
  rw [le_scale hs, le_scale (a := c1 * Sd) hd]
  have e1 : c1 * d * Sd = c1 * Sd * d := by grind
  have e2 : n * c2 * Sd = T * c2 * d := by grind
  rw [e1, e2]
theorem out_is {n d T Sd c1 c2 n2 d2 N D : Int} (hd : 0 < d) (hs : 0 < Sd) (hc : 0 < c2) (hd2 : 0 < d2) (e : n * Sd = T * d) (e2 : n2 * (d * c2) = (n * c2 - c1 * d) * d2) : n2 * D ≤ N * d2 ↔ T * (D * c2) ≤ (N * c2 + c1 * D) * Sd := by
  rw [le_scale (Int.mul_pos hd hc), le_scale (a := T * (D * c2)) hd]
  have e3 : n2 * D * (d * c2) = (n * c2 - c1 * d) * D * d2 := by grind
  have e4 : N * d2 * (d * c2) = N * d * c2 * d2 := by grind
  rw [e3, e4, ← le_scale hd2]
  have e5 : (n * c2 - c1 * d) * D ≤ N * d * c2 ↔ n * c2 * D ≤ (N * c2 + c1 * D) * d := by
    have q1 : (n * c2 - c1 * d) * D = n * c2 * D - c1 * d * D := by grind
    have q2 : (N * c2 + c1 * D) * d = N * d * c2 + c1 * d * D := by grind
    rw [q1, q2]; omega
  rw [e5, le_scale hs]
  have e6 : n * c2 * D * Sd = T * (D * c2) * d := by grind
  have e7 : (N * c2 + c1 * D) * d * Sd = (N * c2 + c1 * D) * Sd * d := by grind
  rw [e6, e7]
/-- what Fits tells, by what it reckons -/
theorem fitsV_is {N D : Int} {hs : List Hd} (g : GoodL N D hs) {E P E2 P2 n d : Int} (hM : MayBe E P) (hd : 0 < d) (e : n * (sumR ([(E, P)] ++ wsL hs)).2 = (sumR ([(E, P)] ++ wsL hs)).1 * d) :
    (n * (cntV E2 P2).2 < (cntV E2 P2).1 * d → fitsV N D hs E P E2 P2 = false) ∧
    ((cntV E2 P2).1 * d ≤ n * (cntV E2 P2).2 → ∀ n2 d2, 0 < d2 → n2 * (d * (cntV E2 P2).2) = (n * (cntV E2 P2).2 - (cntV E2 P2).1 * d) * d2 → fitsV N D hs E P E2 P2 = decide (cmpI (n2 * D) (N * d2) ≤ 0)) := by
  obtain ⟨m1, m2, m3⟩ := id hM
  have hsm := (sumH_frac g.each).2
  have hS : sumR ([(E, P)] ++ wsL hs) = (E * (sumH hs).2 + (sumH hs).1 * P, P * (sumH hs).2) := sumR_cons _ _
  rw [hS] at e
  simp only at e
  have hp : 0 < P * (sumH hs).2 := Int.mul_pos (by omega) hsm
  obtain ⟨T, hT⟩ : ∃ T, E * (sumH hs).2 + (sumH hs).1 * P = T := ⟨_, rfl⟩
  obtain ⟨Sd, hSd⟩ : ∃ Sd, P * (sumH hs).2 = Sd := ⟨_, rfl⟩
  have hT' : (sumH hs).1 * P + E * (sumH hs).2 = T := by rw [← hT]; exact Int.add_comm _ _
  have hSd' : (sumH hs).2 * P = Sd := by rw [← hSd]; exact Int.mul_comm _ _
  rw [hT, hSd] at e
  rw [hSd] at hp
  obtain ⟨c0, c1⟩ := cnt_frac E2 P2
  by_cases hM2 : MayBe E2 P2
  · have hc : cntV E2 P2 = (E2, P2) := if_pos hM2
    rw [fitsV_two hM hM2, hT', hSd', hc]
    rw [hc] at c0 c1
    simp only at c0 c1 ⊢
    have k1 := in_is (c1 := E2) (c2 := P2) hd hp e
    refine ⟨fun h => ?_, fun h n2 d2 hd2 e2 => ?_⟩
    · rw [decide_eq_false (fun q => by have := k1.mpr q; omega), Bool.false_and]
    · rw [decide_eq_true (k1.mp h), Bool.true_and, cmpI_le]
      exact decide_eq_decide.mpr (out_is hd hp c1 hd2 e e2).symm
  · have hc : cntV E2 P2 = (0, 1) := if_neg hM2
    rw [fitsV_one hM hM2, hT', hSd', hc]
    have k1 := in_is (c1 := 0) (c2 := 1) hd hp e
    refine ⟨fun h => ?_, fun h n2 d2 hd2 e2 => ?_⟩
    · exfalso
      have hn : 0 ≤ n := by
        refine Int.le_of_mul_le_mul_right (show 0 * Sd ≤ n * Sd from ?_) hp
        rw [e]
        have : 0 ≤ T := by rw [← hT]; exact Int.add_nonneg (Int.mul_nonneg (by omega) (by omega)) (Int.mul_nonneg (sumH_frac g.each).1 (by omega))
        have := Int.mul_nonneg this (show 0 ≤ d by omega)
        omega
      simp only at h
      omega
    · rw [cmpI_le]
      have := out_is (c1 := 0) (c2 := 1) (N := N) (D := D) hd hp (by omega) hd2 e e2
      rw [decide_eq_decide, this]
      simp
theorem hfits_nil' (E P E2 P2 : Int) (w : World) : Calls Tryz.prog 67 #[.pointer none, .agg #[.int .i64 E, .int .i64 P], .agg #[.int .i64 E2, .int .i64 P2]] w fun z w' => z = .returned (.bool false) ∧ Below w.heap.size w w' := by
  have B0 := Lib.hid (wbox2 w (.cells #[.int .i64 E, .int .i64 P] 46) (.cells #[.int .i64 E2, .int .i64 P2] 46))
  go_enter Tryz.func67, Tryz.ntmps67
  go_wp2
  go_ret
  exact ⟨rfl, B0.out⟩
theorem hfits_arg (g : Nat) (E P E2 P2 : Int) (w : World) (hM : ¬ MayBe E P) : Calls Tryz.prog 67 #[.pointer (some ⟨g, 0, none⟩), .agg #[.int .i64 E, .int .i64 P], .agg #[.int .i64 E2, .int .i64 P2]] w fun z w' => z = .returned (.bool false) ∧ Below w.heap.size w w' := by
  have HM := Lib.hid hM
  clear hM
  have K := Lib.hid ((Blk.new w 46 #[.int .i64 E, .int .i64 P]).alloc (.cells #[.int .i64 E2, .int .i64 P2] 46))
  have k0 := K.out.cell 0; have k1 := K.out.cell 1
  simp at k0 k1
  go_enter Tryz.func67, Tryz.ntmps67
  go_wp2_with fail
  refine (wcheck_any E P _ false ⟨fun h => (by cases h), fun h => absurd h HM.out⟩).mono ?_
  rintro e w1 ⟨rfl, hb⟩
  have B := Lib.hid (below_next (wbox2 _ _ _) hb)
  clear hb k0 k1
  go_wp2
  go_ret
  exact ⟨rfl, B.out⟩
/-- one weight, in a block of its own -/
theorem hsum1 {w : World} {g m : Nat} {A : Nat → Prop} {an : Option Addr} {ln cn : Nat} {ad : Option Addr} {ld cd : Nat} {N D : Int} {hs : List Hd} (h : LH w g m A an ln cn ad ld cd N D hs) (gd : GoodL N D hs) (E P : Int) (hM : MayBe E P) (b : Nat) (hb : Blk w 46 b #[.int .i64 E, .int .i64 P]) (hl : hs.length ≤ 20) :
    Calls Tryz.prog 75 #[.pointer (some ⟨g, 0, none⟩), .slice (some ⟨b, 0, none⟩) 1 1] w fun e w' => ∃ v n d, e = .returned v ∧ Rat w' 0 43 v n d ∧ Lo n d ∧ n * (sumR ([(E, P)] ++ wsL hs)).2 = (sumR ([(E, P)] ++ wsL hs)).1 * d ∧ Keeps (fun k => k = b) w w' :=
  (hsum_any h gd (some ⟨b, 0, none⟩) 1 1 [(E, P)] ⟨rfl, .inr ⟨b, 1, #[.int .i64 E, .int .i64 P], rfl, Nat.zero_le _, hb, by simp, by simp [maxLen], by simp, by simp [cellsW]⟩⟩ (fun p hp => by
    simp at hp; subst hp; exact fit_may hM) (by simp; omega)).mono fun _ _ ⟨v, n, d, h1, h2, h3, h4, h5⟩ => ⟨v, n, d, h1, h2, h3, h4, ⟨h5.os, h5.tape, h5.output, h5.size, fun k hk hn => h5.block k hk (fun e => hn (by cases e; rfl))⟩⟩
/-- what Sub told of it -/
def SubOut (N D : Int) (fb : Bool) (W : World) (v : Value) (er : Int) : Prop := (er = 16 ∧ fb = false) ∨ (er = 0 ∧ ∃ n d, Rat W 0 86 v n d ∧ Lo n d ∧ fb = decide (cmpI (n * D) (N * d) ≤ 0))
theorem SubOut.below {N D : Int} {fb : Bool} {W W' : World} {v : Value} {er : Int} (h : SubOut N D fb W v er) (hb : Below W.heap.size W W') : SubOut N D fb W' v er :=
  h.imp id fun ⟨h1, n, d, h2, h3⟩ => ⟨h1, n, d, h2.below hb, h3⟩
theorem SubOut.set {N D : Int} {fb : Bool} {W : World} {g : Nat} {t1 t5 : Option Addr} {t2 t3 t6 t7 : Nat} {er : Int} (h : SubOut N D fb W (.agg #[.slice t1 t2 t3, .slice t5 t6 t7]) er) (X : W.heap[g]? = some (.cells #[.slice none 0 0, .slice none 0 0] 35 (0, 0))) :
    SubOut N D fb ((W.setCell ⟨g, 0, none⟩ (.slice t1 t2 t3)).setCell ⟨g, 1, none⟩ (.slice t5 t6 t7)) (.agg #[.slice t1 t2 t3, .slice t5 t6 t7]) er :=
  h.imp id fun ⟨h1, n, d, h2, h3⟩ => ⟨h1, n, d, (box_set X h2).2, h3⟩
theorem subOut_of {N D : Int} {hs : List Hd} (g : GoodL N D hs) {E P E2 P2 n d : Int} (hM : MayBe E P) (hlo : Lo n d) (e : n * (sumR ([(E, P)] ++ wsL hs)).2 = (sumR ([(E, P)] ++ wsL hs)).1 * d) {fb : Bool} (hfb : fitsV N D hs E P E2 P2 = fb) {w' : World} {v : Value} {er : Int}
    (h : (n * (cntV E2 P2).2 < (cntV E2 P2).1 * d ∧ er = 16 ∧ v = .agg #[.slice none 0 0, .slice none 0 0]) ∨ ((cntV E2 P2).1 * d ≤ n * (cntV E2 P2).2 ∧ er = 0 ∧ ∃ n' d', Rat w' 0 (43 + 43) v n' d' ∧ Lo n' d' ∧ n' * (d * (cntV E2 P2).2) = (n * (cntV E2 P2).2 - (cntV E2 P2).1 * d) * d')) :
    ∃ x1 x2 x3 y1 y2 y3, v = .agg #[.slice x1 x2 x3, .slice y1 y2 y3] ∧ SubOut N D fb w' v er := by
  obtain ⟨k1, k2⟩ := fitsV_is (E2 := E2) (P2 := P2) g hM hlo.2.1 e
  rw [hfb] at k1 k2
  rcases h with ⟨h1, h2, rfl⟩ | ⟨h1, h2, n', d', hr, hl, h3⟩
  · exact ⟨_, _, _, _, _, _, rfl, .inl ⟨h2, k1 h1⟩⟩
  · obtain ⟨p1, p2, p3, z1, q1, q2, q3, z2, rfl, _⟩ := id hr
    exact ⟨_, _, _, _, _, _, rfl, .inr ⟨h2, n', d', hr, hl, k2 h1 n' d' hl.2.1 h3⟩⟩
set_option maxRecDepth 20000 in
set_option maxHeartbeats 8000000 in
theorem hfits_yes {w : World} {g m : Nat} {A : Nat → Prop} {an : Option Addr} {ln cn : Nat} {ad : Option Addr} {ld cd : Nat} {N D : Int} {hs : List Hd} (h : LH w g m A an ln cn ad ld cd N D hs) (gd : GoodL N D hs) (E P E2 P2 : Int) (hM : MayBe E P) (hl : hs.length ≤ 20) (fb : Bool) (hfb : fitsV N D hs E P E2 P2 = fb) :
    Calls Tryz.prog 67 #[.pointer (some ⟨g, 0, none⟩), .agg #[.int .i64 E, .int .i64 P], .agg #[.int .i64 E2, .int .i64 P2]] w fun e w' => e = .returned (.bool fb) ∧ Below w.heap.size w w' := by
  have H := Lib.hid h
  have GD := Lib.hid gd
  have HM := Lib.hid hM
  have HL := Lib.hid hl
  have FB := Lib.hid hfb
  clear h gd hl hfb hM
  obtain ⟨W0, hW0⟩ : ∃ W0, (w.alloc (.cells #[.int .i64 E, .int .i64 P] 46)).alloc (.cells #[.int .i64 E2, .int .i64 P2] 46) = W0 := ⟨_, rfl⟩
  have B0 := Lib.hid (show Below w.heap.size w W0 by rw [← hW0]; exact wbox2 _ _ _)
  have K := Lib.hid (show Blk W0 46 w.heap.size #[.int .i64 E, .int .i64 P] by rw [← hW0]; exact (Blk.new w _ _).alloc _)
  have K2 := Lib.hid (show Blk W0 46 (w.heap.size + 1) #[.int .i64 E2, .int .i64 P2] by rw [← hW0]; exact Blk.new2 w _ _ _)
  have k0 := K.out.cell 0; have k1 := K.out.cell 1
  simp at k0 k1
  go_enter Tryz.func67, Tryz.ntmps67
  go_wp2_with fail
  refine (wcheck_yes E P _ HM.out).mono ?_
  rintro e w1 ⟨rfl, hb⟩
  have B := Lib.hid (below_next B0.out hb)
  have K := Lib.hid (K.out.below hb)
  have K2 := Lib.hid (K2.out.below hb)
  clear hb k0 k1
  have H := Lib.hid (H.out.below B.out)
  have KEPT := Lib.hid (show ∀ w' : World, Below w1.heap.size w1 w' → w'.cell? ⟨w.heap.size, 0, none⟩ = some (.int .i64 E) ∧ w'.cell? ⟨w.heap.size, 1, none⟩ = some (.int .i64 P) ∧ w'.cell? ⟨w.heap.size + 1, 0, none⟩ = some (.int .i64 E2) ∧ w'.cell? ⟨w.heap.size + 1, 1, none⟩ = some (.int .i64 P2) from fun w' h => ⟨(K.out.below h).cell 0, (K.out.below h).cell 1, (K2.out.below h).cell 0, (K2.out.below h).cell 1⟩)
  have BB := Lib.hid (show Below w1.heap.size w1 w1.drew from (Below.refl w1.heap.size w1).drew)
  have SB := Lib.hid (show Below w1.heap.size w1 (w1.alloc (.cells #[.int .i64 E, .int .i64 P] 46)).drew from (wbox _ _).drew)
  have SA := Lib.hid (show Below w1.heap.size w1 (w1.alloc (.cells #[.slice none 0 0, .slice none 0 0] 35)).drew from (wbox _ _).drew)
  have SAB := Lib.hid (show Below w1.heap.size w1 ((w1.alloc (.cells #[.slice none 0 0, .slice none 0 0] 35)).alloc (.cells #[.int .i64 E, .int .i64 P] 46)).drew from (wbox2 _ _ _).drew)
  have SBA := Lib.hid (show Below w1.heap.size w1 ((w1.alloc (.cells #[.int .i64 E, .int .i64 P] 46)).alloc (.cells #[.slice none 0 0, .slice none 0 0] 35)).drew from (wbox2 _ _ _).drew)
  have KB := Lib.hid (show Blk (w1.alloc (.cells #[.int .i64 E, .int .i64 P] 46)).drew 46 w1.heap.size #[.int .i64 E, .int .i64 P] from (Blk.new w1 _ _).drew)
  have KAB := Lib.hid (show Blk ((w1.alloc (.cells #[.slice none 0 0, .slice none 0 0] 35)).alloc (.cells #[.int .i64 E, .int .i64 P] 46)).drew 46 (w1.heap.size + 1) #[.int .i64 E, .int .i64 P] from (Blk.new2 w1 _ _ _).drew)
  have ZAB := Lib.hid (show Blk ((w1.alloc (.cells #[.slice none 0 0, .slice none 0 0] 35)).alloc (.cells #[.int .i64 E, .int .i64 P] 46)).drew 35 w1.heap.size #[.slice none 0 0, .slice none 0 0] from ((Blk.new w1 _ _).alloc _).drew)
  have KBA := Lib.hid (show Blk ((w1.alloc (.cells #[.int .i64 E, .int .i64 P] 46)).alloc (.cells #[.slice none 0 0, .slice none 0 0] 35)).drew 46 w1.heap.size #[.int .i64 E, .int .i64 P] from ((Blk.new w1 _ _).alloc _).drew)
  have ZBA := Lib.hid (show Blk ((w1.alloc (.cells #[.int .i64 E, .int .i64 P] 46)).alloc (.cells #[.slice none 0 0, .slice none 0 0] 35)).drew 35 (w1.heap.size + 1) #[.slice none 0 0, .slice none 0 0] from (Blk.new2 w1 _ _ _).drew)
  go_upto_region 3 with fail
  go_cut [7, 8] (fun s7 s8 wx => ∃ (g : Nat) (x1 : Option Addr) (x2 x3 : Nat) (y1 : Option Addr) (y2 y3 : Nat) (er : Int), s7 = .pointer (some ⟨g, 0, none⟩) ∧ s8 = .int .i64 er ∧ Box wx 35 g (.slice x1 x2 x3) (.slice y1 y2 y3) ∧ Below w1.heap.size w1 wx ∧ SubOut N D fb wx (.agg #[.slice x1 x2 x3, .slice y1 y2 y3]) er)
  case first =>
    have ZB := Lib.hid (show True from trivial)
    go_region_held3 (fun w' => w'.cell? ⟨w.heap.size, 0, none⟩ = some (.int .i64 E) ∧ w'.cell? ⟨w.heap.size, 1, none⟩ = some (.int .i64 P) ∧ w'.cell? ⟨w.heap.size + 1, 0, none⟩ = some (.int .i64 E2) ∧ w'.cell? ⟨w.heap.size + 1, 1, none⟩ = some (.int .i64 P2))
      (first | with_reducible exact KEPT.out _ BB.out | with_reducible exact KEPT.out _ SA.out | with_reducible exact KEPT.out _ SB.out | with_reducible exact KEPT.out _ SAB.out | with_reducible exact KEPT.out _ SBA.out | with_reducible exact KEPT.out _ (below_next BB.out (wbox _ _)) | with_reducible exact KEPT.out _ ((BB.out.setCell GB.out _).setCell GB.out _) | with_reducible exact KEPT.out _ (((below_next BB.out (wbox _ _)).setCell BB.out.size _).setCell BB.out.size _))
      (first
        | (go_at_call 75; (first
            | ((with_reducible refine (hsum1 (H.out.below SB.out) GD.out E P HM.out w1.heap.size KB.out HL.out).mono ?_); rintro e w2 ⟨v2, n, d, rfl, hr, hlo, he, hk⟩; have BB := Lib.hid (hk.below SB.out (fun k q => (by have q1 : k = w1.heap.size := q; omega)) SB.out.size))
            | ((with_reducible refine (hsum1 (H.out.below SAB.out) GD.out E P HM.out (w1.heap.size + 1) KAB.out HL.out).mono ?_); rintro e w2 ⟨v2, n, d, rfl, hr, hlo, he, hk⟩; have BB := Lib.hid (hk.below SAB.out (fun k q => (by have q1 : k = w1.heap.size + 1 := q; omega)) SAB.out.size); have ZB := Lib.hid (ZAB.out.keeps hk (fun q => (by have q1 : w1.heap.size = w1.heap.size + 1 := q; omega))); have GB := Lib.hid (show w1.heap.size ≤ w1.heap.size by omega))
            | ((with_reducible refine (hsum1 (H.out.below SBA.out) GD.out E P HM.out w1.heap.size KBA.out HL.out).mono ?_); rintro e w2 ⟨v2, n, d, rfl, hr, hlo, he, hk⟩; have BB := Lib.hid (hk.below SBA.out (fun k q => (by have q1 : k = w1.heap.size := q; omega)) SBA.out.size); have ZB := Lib.hid (ZBA.out.keeps hk (fun q => (by have q1 : w1.heap.size + 1 = w1.heap.size := q; omega))); have GB := Lib.hid (show w1.heap.size ≤ w1.heap.size + 1 by omega)));
            have S2 := Lib.hid hr; have LO := Lib.hid hlo; have EQ := Lib.hid he; clear hr hlo he hk)
        | (go_at_call 81; (first
            | ((with_reducible refine (hcounts_any E2 P2 w2).mono ?_); rintro e w3 ⟨v3, rfl, hr, hb⟩; (try (have ZB := Lib.hid (ZB.out.below hb))))
            | (have ZB := Lib.hid (Blk.new w2 35 #[.slice none 0 0, .slice none 0 0]); have GB := Lib.hid BB.out.size; have S2 := Lib.hid (S2.out.below (wbox w2 (.cells #[.slice none 0 0, .slice none 0 0] 35))); have BB := Lib.hid (below_next BB.out (wbox w2 (.cells #[.slice none 0 0, .slice none 0 0] 35))); (with_reducible refine (hcounts_any E2 P2 _).mono ?_); rintro e w3 ⟨v3, rfl, hr, hb⟩; have ZB := Lib.hid (ZB.out.below hb)));
            have S3 := Lib.hid hr; have S2 := Lib.hid (S2.out.below hb); have BB := Lib.hid (below_next BB.out hb); clear hb hr)
        | (go_at_call 80; (first
            | (have Q3 := S3.out.mono (L' := 43) (Nat.le_refl _) (by omega); have QQ := qsub_any v2 v3 n d (cntV E2 P2).1 (cntV E2 P2).2 _ _ 43 w3 S2.out Q3 LO.out.2.1 (cnt_frac E2 P2).2 LO.out.1 (cnt_frac E2 P2).1 (by omega); (with_reducible refine QQ.mono ?_); clear Q3 QQ; rintro e w4 ⟨v4, er, rfl, hb, hq⟩; (try (have ZB := Lib.hid (ZB.out.below hb))))
            | (have ZB := Lib.hid (Blk.new w3 35 #[.slice none 0 0, .slice none 0 0]); have GB := Lib.hid BB.out.size; have S2 := Lib.hid (S2.out.below (wbox w3 (.cells #[.slice none 0 0, .slice none 0 0] 35))); have S3 := Lib.hid (S3.out.below (wbox w3 (.cells #[.slice none 0 0, .slice none 0 0] 35))); have BB := Lib.hid (below_next BB.out (wbox w3 (.cells #[.slice none 0 0, .slice none 0 0] 35))); have Q3 := S3.out.mono (L' := 43) (Nat.le_refl _) (by omega); have QQ := qsub_any v2 v3 n d (cntV E2 P2).1 (cntV E2 P2).2 _ _ 43 (w3.alloc (.cells #[.slice none 0 0, .slice none 0 0] 35)) S2.out Q3 LO.out.2.1 (cnt_frac E2 P2).2 LO.out.1 (cnt_frac E2 P2).1 (by omega); (with_reducible refine QQ.mono ?_); clear Q3 QQ; rintro e w4 ⟨v4, er, rfl, hb, hq⟩; have ZB := Lib.hid (ZB.out.below hb)));
            obtain ⟨pa, pl, pc, qa, ql, qc, rfl, hso⟩ := subOut_of GD.out HM.out LO.out EQ.out FB.out hq; have S4 := Lib.hid hso; have BB := Lib.hid (below_next BB.out hb); clear hb hq hso;
            (try (have y0 := ZB.out.cell 0; have y1 := ZB.out.cell 1; have f0 := ZB.out.free 0; have f1 := ZB.out.free 1; simp at y0 y1))))
    all_goals
      go_wp2_with fail
      go_meet
      first
        | exact ⟨_, _, _, _, _, _, _, _, rfl, rfl, two_set ZB.out, (BB.out.setCell GB.out _).setCell GB.out _, S4.out.set ZB.out⟩
        | exact ⟨_, _, _, _, _, _, _, _, rfl, rfl, Blk.new w4 _ _, below_next BB.out (wbox _ _), S4.out.below (wbox w4 _)⟩
  case rest =>
    obtain ⟨gs, x1, x2, x3, y1, y2, y3, er, rfl, rfl, hbox, hbel, hso⟩ := hcut
    have H := Lib.hid (H.out.below hbel)
    have BX := Lib.hid hbox
    have B := Lib.hid (below_next B.out hbel)
    clear BB KEPT SB SA SAB SBA KB KAB ZAB KBA ZBA K K2 hbel hbox FB
    rcases hso with ⟨rfl, rfl⟩ | ⟨rfl, n2, d2, hr, hlo, hfb⟩
    · go_wp2_with fail
      go_quiet (fail)
      go_wp2
      go_ret
      exact ⟨rfl, below_next B.out (below_drewN _ _)⟩
    · have R := Lib.hid hr
      have LO := Lib.hid hlo
      obtain ⟨k, hk⟩ : ∃ k, cmpI (n2 * D) (N * d2) = k := ⟨_, rfl⟩
      rw [hk] at hfb
      have t1 : decide (k ≤ 0) = fb := hfb.symm
      have KK := Lib.hid hk
      clear hr hlo hfb hk
      have KEPT := Lib.hid (show ∀ w' : World, Below wc.heap.size wc w' → w'.cell? ⟨gs, 0, none⟩ = some (.slice x1 x2 x3) ∧ w'.cell? ⟨gs, 1, none⟩ = some (.slice y1 y2 y3) from fun w' h => ⟨(Box.below BX.out h).c0, (Box.below BX.out h).c1⟩)
      have BL := Lib.hid (show Below wc.heap.size wc wc.drew from (Below.refl wc.heap.size wc).drew)
      go_upto_region 4 with fail
      go_region_held3 (fun w' => w'.cell? ⟨gs, 0, none⟩ = some (.slice x1 x2 x3) ∧ w'.cell? ⟨gs, 1, none⟩ = some (.slice y1 y2 y3))
        (with_reducible exact KEPT.out _ BL.out)
        (first
          | (go_at_call 83; (with_reducible refine (hroom_any (H.out.below BL.out) GD.out.d0).mono ?_); rintro e w5 ⟨v5, rfl, hr, hb⟩; have S5 := Lib.hid hr; have BL := Lib.hid (below_next BL.out hb); clear hb hr)
          | (go_at_call 82; (with_reducible refine (qcmp_any _ _ n2 d2 N D _ _ 86 3 _ (R.out.below BL.out) S5.out (by omega) (by omega) k KK.out).mono ?_); rintro e w6 ⟨rfl, hb⟩; have BL := Lib.hid (below_next BL.out hb); clear hb))
      go_wp2
      go_ret
      exact ⟨rfl, below_next B.out BL.out⟩
end Go.Proofs.YtbonilmlfelmpaaGreat
