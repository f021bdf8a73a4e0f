/-
  The walk of TaskCut, for a package task that is as P10.1 to P10.3 say.
-/
import Derived.Test.YthaoijmjkmgebaaTl2
import Derived.Test.YthaoijmjkmgebaaWr1
namespace Go.Proofs.Ythaoijmjkmgebaa
open Go.RowKit

/-- so many have come, all in time -/
def rowT (E P : Int) (j : Nat) : List Sb := (List.range j).map (fun i : Nat => ofV E P ((i : Int) + 1) 0)
theorem rowT_succ (E P : Int) (j : Nat) : rowT E P (j + 1) = rowT E P j ++ [ofV E P ((j : Int) + 1) 0] := by simp [rowT, List.range_succ]
theorem come_zero {E P : Int} {early : Bool} (hM : MayBe E P) (j : Nat) : comeN 0 j (ts0 E P 0 early) = ⟨E, P, 0, (j : Int), early, false, rowT E P j, sub0, 0⟩ := by
  induction j with
  | zero => rfl
  | succ j ih =>
    rw [comeN_succ, ih]
    have hr := wR_nonneg (E := E) (P := P) (i := (j : Int) + 1) hM.1 (by have := hM.1; have := hM.2.1; omega) (by omega)
    have hl : lateO ⟨E, P, 0, (j : Int), early, false, rowT E P j, sub0, 0⟩ 0 = 0 := by
      unfold lateO
      rw [if_neg (by show ¬ wR E P ((j : Int) + 1) + 0 < 0; omega)]
    unfold come1
    rw [hl, rowT_succ]
    simp
theorem range_filter {p : Nat → Bool} (hp : ∀ i j, i ≤ j → p j = true → p i = true) (k : Nat) : ∃ m, m ≤ k ∧ (List.range k).filter p = List.range m ∧ (m < k → p m = false) := by
  induction k with
  | zero => exact ⟨0, Nat.le_refl _, rfl, fun h => by omega⟩
  | succ k ih =>
    obtain ⟨m, hm, he, hf⟩ := ih
    rw [List.range_succ, List.filter_append, he]
    rcases Nat.lt_or_ge m k with g | g
    · have h1 := hf g
      have h2 : p k = false := by
        cases e : p k
        · rfl
        · rw [hp m k hm e] at h1; cases h1
      exact ⟨m, by omega, by simp [h2], fun _ => h1⟩
    · obtain rfl : m = k := by omega
      cases e : p m
      · exact ⟨m, by omega, by simp [e], fun _ => e⟩
      · exact ⟨m + 1, by omega, by simp [e, List.range_succ], fun h => by omega⟩
theorem wR_le {E P : Int} (hE : 0 < E) (hP : 0 ≤ P) {i j : Int} (h : i ≤ j) : wR E P i ≤ wR E P j := by
  unfold wR
  refine Int.ediv_le_ediv hE ?_
  exact Int.mul_le_mul_of_nonneg_right (by omega) hP
/-- those of them that are released by a slot -/
def relP (E P c : Int) (i : Nat) : Bool := decide (wR E P ((i : Int) + 1) ≤ c)
theorem rel_row {E P c : Int} (hM : MayBe E P) (k : Nat) : ∃ m, m ≤ k ∧ (List.range k).filter (relP E P c) = List.range m ∧ (rowT E P k).filter (fun s => decide (s.R ≤ c)) = rowT E P m := by
  obtain ⟨m, hm, he, _⟩ := range_filter (p := relP E P c) (fun i j hij hj => by
    unfold relP at hj ⊢
    rw [decide_eq_true_eq] at hj ⊢
    have := wR_le (E := E) (P := P) hM.1 (by have := hM.1; have := hM.2.1; omega) (show (i : Int) + 1 ≤ (j : Int) + 1 by omega)
    omega) k
  refine ⟨m, hm, he, ?_⟩
  unfold rowT
  rw [List.filter_map, ← he]
  congr 1
  congr 1
  funext i
  show decide (wR E P ((i : Int) + 1) + 0 ≤ c) = relP E P c i
  rw [Int.add_zero]
  rfl
theorem rowT_len (E P : Int) (j : Nat) : (rowT E P j).length = j := by simp [rowT]
theorem rowT_last {E P : Int} {j : Nat} (h : 0 < j) : (rowT E P j).getLastD sub0 = ofV E P (j : Int) 0 := by
  obtain ⟨i, rfl⟩ : ∃ i, j = i + 1 := ⟨j - 1, by omega⟩
  rw [rowT_succ]
  simp
theorem range_filter_succ (p : Nat → Bool) (i : Nat) : ((List.range (i + 1)).filter p).length = ((List.range i).filter p).length + (if p i = true then 1 else 0) := by
  rw [List.range_succ, List.filter_append, List.length_append]
  cases h : p i <;> simp [h]
section
variable {Hp : World → Nat → (Nat → Prop) → TS → Prop}
set_option maxHeartbeats 4000000 in
theorem tcut_walk (ok : TaskOk Hp) (qa qb n at_ : Int) (w : World) : Calls Try.prog 6 #[.agg #[.int .i64 qa, .int .i64 qb], .int .i64 n, .int .i64 at_] w fun e w' => e = .returned (.bool true) ∧ Below w.heap.size w w' := by
  have OK := Lib.hid ok
  clear ok
  obtain ⟨n1, hn1⟩ : ∃ n1, bits .and .i64 n 63 = n1 := ⟨_, rfl⟩
  have mn := mask_le n 63 (by omega) (by omega)
  rw [hn1] at mn
  obtain ⟨c, hc⟩ : ∃ n1, bits .and .i64 at_ 1048575 = n1 := ⟨_, rfl⟩
  have mc := mask_le at_ 1048575 (by omega) (by omega)
  rw [hc] at mc
  obtain ⟨k, hk⟩ : ∃ k : Nat, 1 + n1 = (k : Int) := ⟨(1 + n1).toNat, by omega⟩
  have wk : IntKind.i64.wrap (1 + n1) = (k : Int) := by rw [← hk]; exact IntWalk.i64_in _ (by omega)
  have k0 : 1 ≤ k := by omega
  have k1 : k ≤ 64 := by omega
  obtain ⟨c0, c1⟩ := mc
  have Q := Lib.hid (Blk.new w 22 #[Value.int .i64 qa, Value.int .i64 qb])
  clear mn hk
  go_enter Try.func6, Try.ntmps6
  go_wp2_with fail
  refine (l10awake OK.out _).mono ?_
  rintro e w1 ⟨rfl, hb⟩
  have B := Lib.hid (below_next (wbox _ _) hb)
  have q0 := (Q.out.below hb).cell 0; have q1 := (Q.out.below hb).cell 1
  simp at q0 q1
  clear hb Q
  go_wp2_with fail
  refine (wmade_any qa qb _).mono ?_
  rintro e w2 ⟨E, P, rfl, hM, hb⟩
  have SB := Lib.hid (below_next B.out hb).size
  have B := Lib.hid (below_next (below_next B.out hb) (wbox w2 (.cells #[.int .i64 E, .int .i64 P] 26)))
  have HM := Lib.hid hM
  have K := Lib.hid (Blk.new w2 26 #[Value.int .i64 E, Value.int .i64 P])
  clear hb hM q0 q1
  go_wp2_with fail
  refine (mnewG OK.out (w := w) (fun x => x = w2.heap.size) E P 0 true _ B.out (fun x q => by subst q; simp) (fun x q => by subst q; exact SB.out) HM.out (by omega) (by omega)).mono ?_
  rintro e w3 ⟨g, rfl, hm, hb⟩
  have K := Lib.hid (K.out.below hb)
  have M := Lib.hid hm
  clear hm hb
  have A1 := Lib.hid (arrive_ok (t := ts0 E P 0 true) (at_ := 0) (n := (k : Int)) ⟨by omega, by omega, by omega, by omega⟩ rfl (by show ((0 : Nat) : Int) + k ≤ 64; omega))
  go_wp2_with fail
  refine (marrive OK.out g _ 0 (k : Int) M.out (by show (0 : Int) ≤ 100000; omega)).mono ?_
  rintro e w4 ⟨rfl, hm, hh⟩
  rw [A1.out.1]
  have T1 := Lib.hid (show arriveT (ts0 E P 0 true) 0 (k : Int) = ⟨E, P, 0, (k : Int), true, false, rowT E P k, sub0, 0⟩ by
    unfold arriveT
    rw [if_pos A1.out.1, ← come_zero HM.out k]
    congr 1)
  rw [T1.out] at hm
  have M := Lib.hid hm
  have K := Lib.hid (hh.blk K.out rfl)
  clear hm hh
  obtain ⟨t1, ht1⟩ : ∃ t1, (⟨E, P, 0, (k : Int), true, false, rowT E P k, sub0, 0⟩ : TS) = t1 := ⟨_, rfl⟩
  rw [ht1] at M
  have HT1 := Lib.hid ht1
  obtain ⟨m, hm, he, hf⟩ := rel_row (c := c) HM.out k
  have HE := Lib.hid he; have HF := Lib.hid hf
  have m1 : 1 ≤ m := by
    have h0 : (0 : Nat) ∈ (List.range k).filter (relP E P c) := by
      rw [List.mem_filter, List.mem_range]
      exact ⟨by omega, by unfold relP; rw [decide_eq_true_eq, show ((0 : Nat) : Int) + 1 = 1 by omega, first_release]; exact c0⟩
    rw [he, List.mem_range] at h0
    omega
  have RM := Lib.hid (show wR E P (m : Int) ≤ c by
    have h0 : m - 1 ∈ (List.range k).filter (relP E P c) := by rw [he, List.mem_range]; omega
    have h1 := (List.mem_filter.1 h0).2
    unfold relP at h1
    rw [decide_eq_true_eq, show ((m - 1 : Nat) : Int) + 1 = (m : Int) by omega] at h1
    exact h1)
  clear ht1 T1 A1 he hf
  go_wp2_with fail
  go_loopw [12, 13] (fun v12 v13 wr => ∃ j : Nat, j ≤ k ∧ v13 = .int .i64 ((j : Int) + 1) ∧ v12 = .int .i64 (((List.range j).filter (relP E P c)).length : Int) ∧ Mine Hp w (fun x => x = w2.heap.size) g t1 wr ∧ Blk wr 26 w2.heap.size #[.int .i64 E, .int .i64 P]) (fun _ v13 _ => k + 1 - (intOf v13).toNat)
  case atStart => exact ⟨0, Nat.zero_le _, rfl, rfl, M.out, K.out⟩
  case round =>
    obtain ⟨j, jl, rfl, rfl, hm', hk'⟩ := hrel
    have M := Lib.hid hm'
    have K := Lib.hid hk'
    have k0' := hk'.cell 0; have k1' := hk'.cell 1
    simp at k0' k1'
    clear hm' hk'
    obtain ⟨q, hq⟩ : ∃ q, ((List.range j).filter (relP E P c)).length = q := ⟨_, rfl⟩
    have ql : q ≤ j := by rw [← hq]; have := List.length_filter_le (relP E P c) (List.range j); simpa using this
    have HQ := Lib.hid hq
    rw [hq]
    clear hq
    have wj : IntKind.i64.wrap ((j : Int) + 1 + 1) = (j : Int) + 1 + 1 := IntWalk.i64_in _ (by omega)
    have wq : IntKind.i64.wrap ((q : Int) + 1) = (q : Int) + 1 := IntWalk.i64_in _ (by omega)
    by_cases jk : j < k
    · have d : decide ((j : Int) + 1 ≤ (k : Int)) = true := by simp; omega
      have NJ := Lib.hid (show Nth ((j : Int) + 1) from ⟨by omega, by omega⟩)
      obtain ⟨R, hR⟩ : ∃ R, wR E P ((j : Int) + 1) = R := ⟨_, rfl⟩
      have HR := Lib.hid hR
      have SC := Lib.hid (range_filter_succ (relP E P c) j)
      have RP := Lib.hid (show relP E P c j = decide (R ≤ c) by unfold relP; rw [hR])
      clear hR
      by_cases rc : R ≤ c
      · have t1' : decide (R ≤ c) = true := by simp; omega
        go_wp2_with fail
        refine (r4release_yes E P ((j : Int) + 1) R _ HM.out NJ.out HR.out).mono ?_
        rintro e w5 ⟨rfl, hb⟩
        have M := Lib.hid (M.out.next OK.out hb)
        have K := Lib.hid (K.out.below hb)
        clear hb k0' k1'
        go_wp2
        go_roundw
        case rel => exact ⟨j + 1, by omega, by go_num, by rw [SC.out, RP.out, t1', HQ.out]; go_num, M.out, K.out⟩
        case measure => simp [intOf]; omega
      · have t1' : decide (R ≤ c) = false := by simp; omega
        go_wp2_with fail
        refine (r4release_yes E P ((j : Int) + 1) R _ HM.out NJ.out HR.out).mono ?_
        rintro e w5 ⟨rfl, hb⟩
        have M := Lib.hid (M.out.next OK.out hb)
        have K := Lib.hid (K.out.below hb)
        clear hb k0' k1'
        go_wp2
        go_roundw
        case rel => exact ⟨j + 1, by omega, by go_num, by rw [SC.out, RP.out, t1', HQ.out]; go_num, M.out, K.out⟩
        case measure => simp [intOf]; omega
    · have d : decide ((j : Int) + 1 ≤ (k : Int)) = false := by simp; omega
      obtain rfl : j = k := by omega
      obtain rfl : q = m := by rw [← HQ.out, HE.out]; simp
      have wkq : IntKind.i64.wrap ((j : Int) - (q : Int)) = (j : Int) - (q : Int) := IntWalk.i64_in _ (by omega)
      obtain ⟨t2, ht2⟩ : ∃ t2, (⟨E, P, 0, (j : Int), true, true, rowT E P q, sub0, 0⟩ : TS) = t2 := ⟨_, rfl⟩
      have C1 := Lib.hid (show cutN t1 c = (j : Int) - (q : Int) ∧ cutT t1 c = t2 by
        have hl : leftL t1 c = rowT E P q := by rw [← HT1.out]; exact HF.out
        refine ⟨?_, ?_⟩
        · unfold cutN
          rw [hl, rowT_len, ← HT1.out]
          show ((rowT E P j).length : Int) - (q : Int) = _
          rw [rowT_len]
        · unfold cutT
          rw [hl, ← ht2, ← HT1.out])
      have C2 := Lib.hid (show cutN t2 c = 0 ∧ cutT t2 c = t2 by
        have hl : leftL t2 c = rowT E P q := by
          rw [← ht2]
          show (rowT E P q).filter (fun s => decide (s.R ≤ c)) = rowT E P q
          rw [← HF.out, List.filter_filter]
          simp
        refine ⟨?_, ?_⟩
        · unfold cutN
          rw [hl, ← ht2]
          show ((rowT E P q).length : Int) - ((rowT E P q).length : Int) = 0
          omega
        · unfold cutT
          rw [hl, ← ht2])
      have A3 := Lib.hid (show arriveE t2 c 1 = 13 ∧ arriveT t2 c 1 = t2 by
        have e : arriveE t2 c 1 = 13 := by
          unfold arriveE
          rw [if_neg (by simp [ArrOk]; omega), if_pos (by rw [← ht2])]
        refine ⟨e, ?_⟩
        unfold arriveT
        rw [e]
        rfl)
      have L4 := Lib.hid (show lastS t2 = ofV E P (q : Int) 0 ∧ lastB t2 = true ∧ (t2.l.length : Int) = q ∧ t2.came ≤ 100000 by
        rw [← ht2]
        refine ⟨?_, ?_, ?_, ?_⟩
        · unfold lastS
          rw [if_pos (by show 0 < (rowT E P q).length; rw [rowT_len]; omega)]
          exact rowT_last (by omega)
        · unfold lastB
          simp [rowT_len]
          omega
        · show ((rowT E P q).length : Int) = q
          rw [rowT_len]
        · show (j : Int) ≤ 100000
          omega)
      obtain ⟨s, hs⟩ : ∃ s, ofV E P (q : Int) 0 = s := ⟨_, rfl⟩
      have S5 := Lib.hid (show s.I = (q : Int) ∧ s.R ≤ c by
        rw [← hs]
        refine ⟨rfl, ?_⟩
        show wR E P (q : Int) + 0 ≤ c
        rw [Int.add_zero]
        exact RM.out)
      rw [hs] at L4
      have tr : decide (s.R ≤ c) = true := decide_eq_true S5.out.2
      clear hs ht2 k0' k1'
      go_wp2_with fail
      refine (mcut OK.out g t1 c M.out).mono ?_
      rintro e w5 ⟨rfl, hm', _⟩
      rw [C1.out.1]
      rw [C1.out.2] at hm'
      have M := Lib.hid hm'
      clear hm'
      go_wp2_with fail
      refine (mcut OK.out g t2 c M.out).mono ?_
      rintro e w6 ⟨rfl, hm', _⟩
      rw [C2.out.1]
      rw [C2.out.2] at hm'
      have M := Lib.hid hm'
      clear hm'
      go_wp2_with fail
      refine (marrive OK.out g t2 c 1 M.out L4.out.2.2.2).mono ?_
      rintro e w7 ⟨rfl, hm', _⟩
      rw [A3.out.1]
      rw [A3.out.2] at hm'
      have M := Lib.hid hm'
      clear hm'
      go_wp2_with fail
      refine (mlast OK.out g t2 M.out).mono ?_
      rintro e w8 ⟨rfl, hm', _⟩
      rw [L4.out.1, L4.out.2.1, show s.v = .agg #[.int .i64 (q : Int), .int .i64 s.R, .int .i64 s.D, .int .i64 s.B, .int .i64 s.G] by rw [← S5.out.1]; rfl]
      have M := Lib.hid (hm'.own1 OK.out (.cells #[.int .i64 (q : Int), .int .i64 s.R, .int .i64 s.D, .int .i64 s.B, .int .i64 s.G] 35))
      have X := Lib.hid (Blk.new w8 35 #[.int .i64 (q : Int), .int .i64 s.R, .int .i64 s.D, .int .i64 s.B, .int .i64 s.G])
      clear hm'
      go_wp2_with fail
      refine (mwaits OK.out g t2 M.out).mono ?_
      rintro e w9 ⟨rfl, hm', hh⟩
      rw [L4.out.2.2.1]
      have B := Lib.hid hm'.below
      have X := Lib.hid (hh.blk X.out (.inr rfl))
      have x0 := X.out.cell 0; have x1 := X.out.cell 1
      simp at x0 x1
      clear hm' hh
      go_wp2
      go_ret
      exact ⟨rfl, B.out⟩
end
end Go.Proofs.Ythaoijmjkmgebaa
