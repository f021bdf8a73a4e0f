/-
  The walk of the law PrioWindows.
-/
import Derived.Test.YtkiolkceaibmgaaPr2
import Derived.Test.YtkiolkceaibmgaaWr3
namespace Go.Proofs.Ytkiolkceaibmgaa
open Go.RowKit

theorem later_far {E P i : Int} (hE : 0 < E) (hEP : E ≤ P) (n : Nat) : wD E P i < wD E P (i + 1 + n) := by
  induction n with
  | zero => rw [show i + 1 + ((0 : Nat) : Int) = i + 1 by omega]; exact next_later hE hEP
  | succ n ih =>
    have := next_later (P := P) (i := i + 1 + n) hE hEP
    rw [show i + 1 + ((n + 1 : Nat) : Int) = i + 1 + (n : Int) + 1 by omega]
    omega
theorem later_any {E P i k : Int} (hM : MayBe E P) (h : i < k) : wD E P i < wD E P k := by
  obtain ⟨n, hn⟩ : ∃ n : Nat, k = i + 1 + (n : Int) := ⟨(k - i - 1).toNat, by omega⟩
  rw [hn]
  exact later_far (by have := hM.1; omega) hM.2.1 n
theorem win_less {E P i k G G' : Int} (hM : MayBe E P) (hG : i = k → G = G') : lessB ⟨1, i, wR E P i + 0, wD E P i + 0, wB E P i, G⟩ ⟨1, k, wR E P k + 0, wD E P k + 0, wB E P k, G'⟩ = decide (i < k) := by
  rcases Int.lt_trichotomy i k with h | h | h
  · have := later_any hM h
    rw [decide_eq_true h]
    exact lessB_yes (.inl (by simp only; omega))
  · subst h
    rw [hG rfl, decide_eq_false (by omega)]
    exact lessB_self _
  · have := later_any hM h
    rw [decide_eq_false (by omega)]
    exact lessB_no (fun e => by unfold Ahead at e; simp only at e; omega)
set_option maxRecDepth 20000 in
set_option maxHeartbeats 4000000 in
theorem windows_walk (qa qb n0 n1 : Int) (w : World) : Calls Try.prog 7 #[.agg #[.int .i64 qa, .int .i64 qb], .agg #[.int .i64 n0, .int .i64 n1]] w fun e w' => e = .returned (.bool true) ∧ Below w.heap.size w w' := by
  obtain ⟨m, hm⟩ : ∃ m, bits .and .i64 qb 1048575 = m := ⟨_, rfl⟩
  have mb := mask_bd qb
  rw [hm] at mb
  obtain ⟨m0, m1⟩ := mb
  have r1 := Int.lt_tmod_of_pos qa (show 0 < 1 + m by omega)
  have r2 := Int.tmod_lt_of_pos qa (show 0 < 1 + m by omega)
  obtain ⟨r, hr⟩ : ∃ r, qa.tmod (1 + m) = r := ⟨_, rfl⟩
  rw [hr] at r1 r2
  have e0 := Int.emod_nonneg r (show 1 + m ≠ 0 by omega)
  have e1 := Int.emod_lt_of_pos r (show 0 < 1 + m by omega)
  obtain ⟨a, ha⟩ : ∃ a, bits .and .i64 n0 549755813887 = a := ⟨_, rfl⟩
  obtain ⟨b, hb⟩ : ∃ b, bits .and .i64 n1 549755813887 = b := ⟨_, rfl⟩
  have ab := mask_le n0 549755813887 (by omega) (by omega)
  have bb := mask_le n1 549755813887 (by omega) (by omega)
  rw [ha] at ab
  rw [hb] at bb
  obtain ⟨a0, a1⟩ := ab
  obtain ⟨b0, b1⟩ := bb
  have HM := Lib.hid (show MayBe (1 + r % (1 + m)) (1 + m) from ⟨by omega, by omega, by omega⟩)
  have Q := Lib.hid ((Blk.new w 23 #[Value.int .i64 qa, Value.int .i64 qb]).alloc (Obj.cells #[Value.int .i64 n0, Value.int .i64 n1] 40))
  have N := Lib.hid (Blk.new2 w (Obj.cells #[Value.int .i64 qa, Value.int .i64 qb] 23) 40 #[Value.int .i64 n0, Value.int .i64 n1])
  go_enter Try.func7, Try.ntmps7
  go_wp2_with fail
  refine (l6awake_any _).mono ?_
  rintro e w1 ⟨rfl, hb'⟩
  have B := Lib.hid (below_next (below_next (wbox _ _) (wbox _ _)) hb')
  have Q := Lib.hid (Q.out.below hb')
  have N := Lib.hid (N.out.below hb')
  have q0 := Q.out.cell 0; have q1 := Q.out.cell 1
  have c0 := N.out.cell 0; have c1 := N.out.cell 1
  simp at q0 q1 c0 c1
  clear hb'
  have d0 := (N.out.alloc (Obj.cells #[.int .i64 (1 + r % (1 + m)), .int .i64 (1 + m)] 42)).cell 0
  have d1 := (N.out.alloc (Obj.cells #[.int .i64 (1 + r % (1 + m)), .int .i64 (1 + m)] 42)).cell 1
  simp only [List.getElem?_toArray, List.getElem?_cons_zero, List.getElem?_cons_succ] at d0 d1
  have W := Lib.hid (Blk.new w1 42 #[.int .i64 (1 + r % (1 + m)), .int .i64 (1 + m)])
  obtain ⟨G, hG⟩ : ∃ G, G = if wG (1 + r % (1 + m)) (1 + m) (1 + a) = 0 then 0 else wG (1 + r % (1 + m)) (1 + m) (1 + a) + 0 := ⟨_, rfl⟩
  obtain ⟨G', hG'⟩ : ∃ G', G' = if wG (1 + r % (1 + m)) (1 + m) (1 + b) = 0 then 0 else wG (1 + r % (1 + m)) (1 + m) (1 + b) + 0 := ⟨_, rfl⟩
  have VL := Lib.hid (win_less (i := 1 + a) (k := 1 + b) (G := G) (G' := G') HM.out (fun e => by rw [hG, hG', e]))
  have HG := Lib.hid hG; have HG' := Lib.hid hG'
  clear hG hG'
  go_wp2_with fail
  obtain ⟨E, hE⟩ : ∃ E, 1 + r % (1 + m) = E := ⟨_, rfl⟩
  obtain ⟨P, hP⟩ : ∃ P, 1 + m = P := ⟨_, rfl⟩
  rw [hE, hP] at HM VL HG HG' W
  rw [hE, hP]
  obtain ⟨W0, hW0⟩ : ∃ W0, w1.alloc (Obj.cells #[.int .i64 E, .int .i64 P] 42) = W0 := ⟨_, rfl⟩
  have B := Lib.hid (show Below w.heap.size w W0 by rw [← hW0]; exact below_next B.out (wbox _ _))
  rw [hW0] at W
  rw [hW0]
  clear hW0 hE hP hm hr ha hb q0 q1 c0 c1 d0 d1
  refine (r4of_yes E P (1 + a) 0 _ HM.out ⟨by omega, by omega⟩ (by decide) (by decide) G HG.out).mono ?_
  rintro e w2 ⟨rfl, hb'⟩
  have W := Lib.hid (W.out.below hb')
  have B := Lib.hid (below_next B.out hb')
  clear hb'
  unfold subV
  obtain ⟨R, hR⟩ : ∃ R, wR E P (1 + a) + 0 = R := ⟨_, rfl⟩
  obtain ⟨D, hD⟩ : ∃ D, wD E P (1 + a) + 0 = D := ⟨_, rfl⟩
  obtain ⟨T, hT⟩ : ∃ T, wB E P (1 + a) = T := ⟨_, rfl⟩
  obtain ⟨R', hR'⟩ : ∃ R, wR E P (1 + b) + 0 = R := ⟨_, rfl⟩
  obtain ⟨D', hD'⟩ : ∃ D, wD E P (1 + b) + 0 = D := ⟨_, rfl⟩
  obtain ⟨T', hT'⟩ : ∃ T, wB E P (1 + b) = T := ⟨_, rfl⟩
  rw [hR, hD, hT, hR', hD', hT'] at VL
  rw [hR, hD, hT]
  have HR' := Lib.hid hR'; have HD' := Lib.hid hD'; have HT' := Lib.hid hT'
  clear hR hD hT hR' hD' hT'
  have c0 := (W.out.alloc (Obj.cells #[.int .i64 (1 + a), .int .i64 R, .int .i64 D, .int .i64 T, .int .i64 G] 25)).cell 0
  have c1 := (W.out.alloc (Obj.cells #[.int .i64 (1 + a), .int .i64 R, .int .i64 D, .int .i64 T, .int .i64 G] 25)).cell 1
  simp only [List.getElem?_toArray, List.getElem?_cons_zero, List.getElem?_cons_succ] at c0 c1
  have L := Lib.hid (Blk.new w2 25 #[.int .i64 (1 + a), .int .i64 R, .int .i64 D, .int .i64 T, .int .i64 G])
  go_wp2_with fail
  obtain ⟨W1, hW1⟩ : ∃ W1, w2.alloc (Obj.cells #[.int .i64 (1 + a), .int .i64 R, .int .i64 D, .int .i64 T, .int .i64 G] 25) = W1 := ⟨_, rfl⟩
  have B := Lib.hid (show Below w.heap.size w W1 by rw [← hW1]; exact below_next B.out (wbox _ _))
  rw [hW1] at L
  rw [hW1]
  clear hW1 c0 c1
  refine (r4of_yes E P (1 + b) 0 _ HM.out ⟨by omega, by omega⟩ (by decide) (by decide) G' HG'.out).mono ?_
  rintro e w3 ⟨rfl, hb'⟩
  have L := Lib.hid (L.out.below hb')
  have B := Lib.hid (below_next B.out hb')
  clear hb'
  unfold subV
  rw [HR'.out, HD'.out, HT'.out]
  have s0 := (L.out.alloc (Obj.cells #[.int .i64 (1 + b), .int .i64 R', .int .i64 D', .int .i64 T', .int .i64 G'] 25)).cell 0
  have s1 := (L.out.alloc (Obj.cells #[.int .i64 (1 + b), .int .i64 R', .int .i64 D', .int .i64 T', .int .i64 G'] 25)).cell 1
  have s2 := (L.out.alloc (Obj.cells #[.int .i64 (1 + b), .int .i64 R', .int .i64 D', .int .i64 T', .int .i64 G'] 25)).cell 2
  have s3 := (L.out.alloc (Obj.cells #[.int .i64 (1 + b), .int .i64 R', .int .i64 D', .int .i64 T', .int .i64 G'] 25)).cell 3
  have s4 := (L.out.alloc (Obj.cells #[.int .i64 (1 + b), .int .i64 R', .int .i64 D', .int .i64 T', .int .i64 G'] 25)).cell 4
  simp only [List.getElem?_toArray, List.getElem?_cons_zero, List.getElem?_cons_succ] at s0 s1 s2 s3 s4
  obtain ⟨p, hp⟩ : ∃ p, decide (1 + a < 1 + b) = p := ⟨_, rfl⟩
  have hp2 : decide (a < b) = p := by rw [← hp]; congr 1; exact propext ⟨fun h => by omega, fun h => by omega⟩
  rw [hp] at VL
  have B := Lib.hid (below_next B.out (wbox w3 (Obj.cells #[.int .i64 (1 + b), .int .i64 R', .int .i64 D', .int .i64 T', .int .i64 G'] 25)))
  go_wp2_with fail
  refine (pless_at ⟨1, 1 + a, R, D, T, G⟩ ⟨1, 1 + b, R', D', T', G'⟩ p _ VL.out).mono ?_
  rintro e w4 ⟨rfl, hb'⟩
  have B := Lib.hid (below_next B.out hb')
  clear hb'
  go_wp2
  go_ret
  exact ⟨rfl, B.out⟩
end Go.Proofs.Ytkiolkceaibmgaa
