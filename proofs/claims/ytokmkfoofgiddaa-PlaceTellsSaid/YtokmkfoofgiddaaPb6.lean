/-
  The walk of the law PlaceTells.
-/
import Derived.Test.YtokmkfoofgiddaaPb4
namespace Go.Proofs.Ytokmkfoofgiddaa
open Go.RowKit

theorem rowQ3 (w : World) (a b c d e f : Int) : RowQ (w.alloc (.cells #[.int .i64 a, .int .i64 b, .int .i64 c, .int .i64 d, .int .i64 e, .int .i64 f] 24)) (some ⟨w.heap.size, 0, none⟩) 3 3 [(a, b), (c, d), (e, f)] := by
  obtain ⟨ad, cap, hv, hr, _⟩ := rowF_of_owns (wideQ [(a, b), (c, d), (e, f)]) (World.ownsRow_lit (base := w.heap.size) (e := 24) (size := 2) w #[.int .i64 a, .int .i64 b, .int .i64 c, .int .i64 d, .int .i64 e, .int .i64 f] 3 (Nat.le_refl _) (by unfold maxLen; omega) rfl) rfl
  simp only [Value.slice.injEq] at hv
  obtain ⟨rfl, _, rfl⟩ := hv
  exact hr
theorem tdiv3 (x : Int) (h : -9223372036854775808 ≤ x ∧ x ≤ 9223372036854775807) : -9223372036854775808 ≤ x.tdiv 3 ∧ x.tdiv 3 ≤ 9223372036854775807 := by
  rcases Int.le_total 0 x with q | q
  · rw [Int.tdiv_eq_ediv_of_nonneg q]; omega
  · obtain ⟨y, rfl⟩ : ∃ y, x = -y := ⟨-x, by omega⟩
    rw [Int.neg_tdiv, Int.tdiv_eq_ediv_of_nonneg (by omega)]; omega
set_option maxRecDepth 20000 in
set_option maxHeartbeats 4000000 in
theorem ptells_walk (a : Option Addr) (len cap : Nat) (l : List Rn) (b : Option Addr) (lb cb : Nat) (cs : List Int) (q0 q1 : Int) (w : World) (h : RowR w a len cap l) (g : Row .i64 w b lb cb cs) (hq0 : -9223372036854775808 ≤ q0 ∧ q0 ≤ 9223372036854775807) (hq1 : -9223372036854775808 ≤ q1 ∧ q1 ≤ 9223372036854775807) :
    Calls Try.prog 3 #[.slice a len cap, .slice b lb cb, .agg #[.int .i64 q0, .int .i64 q1]] w fun e w' => e = .returned (.bool true) ∧ Below w.heap.size w w' := by
  have H := Lib.hid h
  have G := Lib.hid g
  have LC := Lib.hid g.len
  have ⟨c1, c2⟩ := g.cap_le
  clear h g
  obtain ⟨q00, q01⟩ := hq0
  obtain ⟨q10, q11⟩ := hq1
  have B0 := Lib.hid (wbox w (.cells #[.int .i64 q0, .int .i64 q1] 24))
  have X0 := Lib.hid (Blk.new w 24 #[.int .i64 q0, .int .i64 q1])
  have rest : ∀ (b' : Option Addr) (lb' cb' : Nat) (cs' : List Int), (12 < lb → (b' = b ∧ lb' = 12 ∧ cb' = cb ∧ cs' = cs.take 12)) → (¬ 12 < lb → (b' = b ∧ lb' = lb ∧ cb' = cb ∧ cs' = cs)) → Row .i64 w b' lb' cb' cs' := fun b' lb' cb' cs' h1 h2 => by
    by_cases q : 12 < lb
    · obtain ⟨rfl, rfl, rfl, rfl⟩ := h1 q
      exact G.out.take (by omega)
    · obtain ⟨rfl, rfl, rfl, rfl⟩ := h2 q
      exact G.out
  have RS := Lib.hid rest
  clear rest
  go_enter Try.func3, Try.ntmps3
  go_wp2_with fail
  refine (awake15_any _).mono ?_
  rintro e w1 ⟨rfl, hb⟩
  have B1 := Lib.hid (below_next B0.out hb)
  have X1 := Lib.hid (X0.out.below hb)
  clear hb
  go_wp2_with fail
  refine (few15_any a len cap l w1 (H.out.below B1.out)).mono ?_
  rintro e w1 ⟨k, rfl, k12, hr, rfl⟩
  have A1 := Lib.hid hr
  clear hr
  have x0 := X1.out.cell 0; have x1 := X1.out.cell 1
  simp at x0 x1
  obtain ⟨t0, t1, t2, t3⟩ := tmod2 q0 20 (by omega)
  obtain ⟨A, hA⟩ : ∃ A, q0.tmod 20 = A := ⟨_, rfl⟩
  rw [hA] at t0 t1 t2 t3
  obtain ⟨K, hK⟩ : ∃ K, (A + 20).tmod 20 = K := ⟨_, rfl⟩
  have hK2 : (A + 20) % 20 = K := by rw [← hK]; exact (Int.tmod_eq_emod_of_nonneg (by omega)).symm
  rw [hK] at t0 t1
  obtain ⟨u, hu⟩ : ∃ u, q0.tdiv 3 = u := ⟨_, rfl⟩
  obtain ⟨v, hv⟩ : ∃ v, q1.tdiv 3 = v := ⟨_, rfl⟩
  have u1 : IntKind.i64.wrap u = u := IntWalk.i64_in _ (by have h1 := tdiv3 q0 ⟨q00, q01⟩; rw [hu] at h1; exact h1)
  have v1 : IntKind.i64.wrap v = v := IntWalk.i64_in _ (by have h1 := tdiv3 q1 ⟨q10, q11⟩; rw [hv] at h1; exact h1)
  by_cases q : 12 < lb
  · have b1 : decide (12 < lb) = true := by simp; omega
    have b2 : decide ((12 : Int) < (lb : Int)) = true := by simp; omega
    have G1 := Lib.hid (RS.out b 12 cb (cs.take 12) (fun _ => ⟨rfl, rfl, rfl, rfl⟩) (fun h => absurd q h))
    have d1 : (12 : Int) ≤ (cb : Int) := by omega
    have n0 : ¬ cb = 0 := by omega
    obtain ⟨bb, ob, rfl, _⟩ := G.out.cell (i := 0) (by omega)
    clear RS
    go_wp2_with fail
    refine (made15_any (some ⟨w1.heap.size, 0, none⟩) 3 3 [(q0, q1), (q1, q0), (u, v)] (1 + K) _ (rowQ3 w1 q0 q1 q1 q0 u v) (by omega) (by omega)).mono ?_
    rintro e w2 ⟨am, lm, cm, rs, rfl, hr, hmay, hb⟩
    have BM := Lib.hid (below_next (wbox w1 _) hb)
    have R2 := Lib.hid hr
    have ML := Lib.hid (show lm ≤ 1024 by have h1 := hmay.few; rw [hr.len] at h1; omega)
    have A2 := Lib.hid (A1.out.below BM.out)
    have G2 := Lib.hid (G1.out.below (below_next B1.out BM.out))
    have B2 := Lib.hid (below_next B1.out BM.out)
    have X2 := Lib.hid (X1.out.below BM.out)
    clear hr hmay hb x0 x1 BM
    have x1 := X2.out.cell 1
    simp at x1
    clear hA hK hK2 hu hv u1 v1
    go_wp2_with fail
    refine (tells15_any a k cap (l.take k) _ _ _ _ q1 w2 A2.out G2.out (by omega)).mono ?_
    rintro e w3 ⟨rfl, hb⟩
    have R3 := Lib.hid (R2.out.below hb)
    have A3 := Lib.hid (A2.out.below hb)
    have G3 := Lib.hid (G2.out.below hb)
    have B3 := Lib.hid (below_next B2.out hb)
    clear hb x1
    go_wp2_with fail
    refine (tells15_any a k cap (l.take k) _ _ _ _ (1 + K) w3 A3.out G3.out (by omega)).mono ?_
    rintro e w4 ⟨rfl, hb⟩
    have R4 := Lib.hid (R3.out.below hb)
    have G4 := Lib.hid (G3.out.below hb)
    have B4 := Lib.hid (below_next B3.out hb)
    clear hb
    go_wp2_with fail
    refine (tells15_any am lm cm rs _ _ _ _ (1 + K) w4 R4.out G4.out ML.out).mono ?_
    rintro e w5 ⟨rfl, hb⟩
    have B5 := Lib.hid (below_next B4.out hb)
    clear hb
    go_wp2
    go_ret
    exact ⟨rfl, B5.out⟩
  · have b1 : decide (12 < lb) = false := by simp; omega
    have b2 : decide ((12 : Int) < (lb : Int)) = false := by simp; omega
    have G1 := Lib.hid (RS.out b lb cb cs (fun h => absurd h q) (fun _ => ⟨rfl, rfl, rfl, rfl⟩))
    clear RS
    go_wp2_with fail
    refine (made15_any (some ⟨w1.heap.size, 0, none⟩) 3 3 [(q0, q1), (q1, q0), (u, v)] (1 + K) _ (rowQ3 w1 q0 q1 q1 q0 u v) (by omega) (by omega)).mono ?_
    rintro e w2 ⟨am, lm, cm, rs, rfl, hr, hmay, hb⟩
    have BM := Lib.hid (below_next (wbox w1 _) hb)
    have R2 := Lib.hid hr
    have ML := Lib.hid (show lm ≤ 1024 by have h1 := hmay.few; rw [hr.len] at h1; omega)
    have A2 := Lib.hid (A1.out.below BM.out)
    have G2 := Lib.hid (G1.out.below (below_next B1.out BM.out))
    have B2 := Lib.hid (below_next B1.out BM.out)
    have X2 := Lib.hid (X1.out.below BM.out)
    clear hr hmay hb x0 x1 BM
    have x1 := X2.out.cell 1
    simp at x1
    clear hA hK hK2 hu hv u1 v1
    go_wp2_with fail
    refine (tells15_any a k cap (l.take k) _ _ _ _ q1 w2 A2.out G2.out (by omega)).mono ?_
    rintro e w3 ⟨rfl, hb⟩
    have R3 := Lib.hid (R2.out.below hb)
    have A3 := Lib.hid (A2.out.below hb)
    have G3 := Lib.hid (G2.out.below hb)
    have B3 := Lib.hid (below_next B2.out hb)
    clear hb x1
    go_wp2_with fail
    refine (tells15_any a k cap (l.take k) _ _ _ _ (1 + K) w3 A3.out G3.out (by omega)).mono ?_
    rintro e w4 ⟨rfl, hb⟩
    have R4 := Lib.hid (R3.out.below hb)
    have G4 := Lib.hid (G3.out.below hb)
    have B4 := Lib.hid (below_next B3.out hb)
    clear hb
    go_wp2_with fail
    refine (tells15_any am lm cm rs _ _ _ _ (1 + K) w4 R4.out G4.out ML.out).mono ?_
    rintro e w5 ⟨rfl, hb⟩
    have B5 := Lib.hid (below_next B4.out hb)
    clear hb
    go_wp2
    go_ret
    exact ⟨rfl, B5.out⟩
end Go.Proofs.Ytokmkfoofgiddaa
