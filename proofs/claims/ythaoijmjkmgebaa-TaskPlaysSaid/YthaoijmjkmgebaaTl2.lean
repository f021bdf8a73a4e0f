/-
  The walk of TaskFull, for a package task that is as P10.1 to P10.3 say.
-/
import Derived.Test.YthaoijmjkmgebaaTl1
namespace Go.Proofs.Ythaoijmjkmgebaa
open Go.RowKit

theorem arrive_ok {t : TS} {at_ n : Int} (h : ArrOk at_ n) (hc : t.cut = false) (hl : (t.l.length : Int) + n ≤ 64) :
    arriveE t at_ n = 0 ∧ ((arriveT t at_ n).l.length : Int) = t.l.length + n ∧ (arriveT t at_ n).cut = false ∧ (arriveT t at_ n).came = t.came + n ∧ (arriveT t at_ n).done = t.done := by
  have e : arriveE t at_ n = 0 := by unfold arriveE; rw [if_neg (by simpa using h), if_neg (by simp [hc]), if_neg (by omega)]
  have hn := h.2.2.1
  refine ⟨e, ?_⟩
  unfold arriveT
  rw [if_pos e]
  have c := comeN_EP at_ n.toNat t
  exact ⟨by rw [comeN_len]; omega, by rw [c.2.2.2.1]; exact hc, by rw [comeN_came]; omega, c.2.2.2.2.2⟩
theorem arrive_full {t : TS} {at_ n : Int} (h : ArrOk at_ n) (hc : t.cut = false) (hl : 64 < (t.l.length : Int) + n) : arriveE t at_ n = 15 ∧ arriveT t at_ n = t := by
  have e : arriveE t at_ n = 15 := by unfold arriveE; rw [if_neg (by simpa using h), if_neg (by simp [hc]), if_pos hl]
  refine ⟨e, ?_⟩
  unfold arriveT
  rw [e]
  rfl
theorem run_ok {t : TS} (h : 0 < t.l.length) : ((runT t).l.length : Int) = t.l.length - 1 ∧ (runT t).cut = t.cut ∧ (runT t).came = t.came ∧ (runT t).done = t.done + 1 ∧ someB t = true := by
  unfold runT
  rw [if_pos h]
  refine ⟨by simp; omega, rfl, rfl, rfl, by simp [someB, h]⟩
section
variable {Hp : World → Nat → (Nat → Prop) → TS → Prop}
set_option maxHeartbeats 4000000 in
theorem tfull_walk (ok : TaskOk Hp) (qa qb n m : Int) (w : World) : Calls Try.prog 7 #[.agg #[.int .i64 qa, .int .i64 qb], .int .i64 n, .int .i64 m] w fun e w' => e = .returned (.bool true) ∧ Below w.heap.size w w' := by
  have OK := Lib.hid ok
  clear ok
  obtain ⟨n1, hn1⟩ : ∃ n1, bits .and .i64 n 63 = n1 := ⟨_, rfl⟩
  have mn := mask_le n 63 (by omega) (by omega)
  rw [hn1] at mn
  obtain ⟨m1, hm1⟩ : ∃ n1, bits .and .i64 m 63 = n1 := ⟨_, rfl⟩
  have mm := mask_le m 63 (by omega) (by omega)
  rw [hm1] at mm
  obtain ⟨a, ha⟩ : ∃ a, 1 + n1 = a := ⟨_, rfl⟩
  obtain ⟨b, hb⟩ : ∃ a, 1 + m1 = a := ⟨_, rfl⟩
  have wa : IntKind.i64.wrap (1 + n1) = a := by rw [← ha]; exact IntWalk.i64_in _ (by omega)
  have wb : IntKind.i64.wrap (1 + m1) = b := by rw [← hb]; exact IntWalk.i64_in _ (by omega)
  have a0 : 1 ≤ a := by omega
  have a1 : a ≤ 64 := by omega
  have b0 : 1 ≤ b := by omega
  have b1 : b ≤ 64 := by omega
  have wab : IntKind.i64.wrap (a + b) = a + b := IntWalk.i64_in _ (by omega)
  have Q := Lib.hid (Blk.new w 22 #[Value.int .i64 qa, Value.int .i64 qb])
  clear mn mm ha hb
  go_enter Try.func7, Try.ntmps7
  go_wp2_with fail
  refine (l10awake OK.out _).mono ?_
  rintro e w1 ⟨rfl, hb⟩
  have B := Lib.hid (below_next (wbox _ _) hb)
  have q0 := (Q.out.below hb).cell 0; have q1 := (Q.out.below hb).cell 1
  simp at q0 q1
  clear hb
  go_wp2_with fail
  refine (wmade_any qa qb _).mono ?_
  rintro e w2 ⟨E, P, rfl, hM, hb⟩
  have B := Lib.hid (below_next B.out hb)
  have HM := Lib.hid hM
  clear hb hM q0 q1
  go_wp2_with fail
  refine (mnew OK.out (w := w) E P 0 false w2 B.out HM.out (by omega) (by omega)).mono ?_
  rintro e w3 ⟨g, rfl, hm, _⟩
  obtain ⟨t0, ht0⟩ : ∃ t0, ts0 E P 0 false = t0 := ⟨_, rfl⟩
  have F0 := Lib.hid (show t0.l.length = 0 ∧ t0.cut = false ∧ t0.came = 0 ∧ t0.done = 0 by rw [← ht0]; exact ⟨rfl, rfl, rfl, rfl⟩)
  rw [ht0] at hm
  have M := Lib.hid hm
  clear hm ht0
  have A1 := Lib.hid (arrive_ok (t := t0) (at_ := 0) (n := a) ⟨by omega, by omega, a0, a1⟩ F0.out.2.1 (by have := F0.out.1; omega))
  go_wp2_with fail
  refine (marrive OK.out g t0 0 a M.out (by have := F0.out.2.2.1; omega)).mono ?_
  rintro e w4 ⟨rfl, hm, _⟩
  rw [A1.out.1]
  obtain ⟨t1, ht1⟩ : ∃ t1, arriveT t0 0 a = t1 := ⟨_, rfl⟩
  have F1 := Lib.hid (show (t1.l.length : Int) = a ∧ t1.cut = false ∧ t1.came = a ∧ t1.done = 0 by
    rw [← ht1]
    have h := A1.out.2
    have f := F0.out
    exact ⟨by omega, h.2.1, by omega, by omega⟩)
  rw [ht1] at hm
  have M := Lib.hid hm
  clear hm ht1 A1
  by_cases full : 64 < a + b
  · have tf : decide (64 < a + b) = true := by simp; omega
    have A2 := Lib.hid (arrive_full (t := t1) (at_ := 0) (n := b) ⟨by omega, by omega, b0, b1⟩ F1.out.2.1 (by have := F1.out.1; omega))
    go_wp2_with fail
    refine (marrive OK.out g t1 0 b M.out (by have := F1.out.2.2.1; omega)).mono ?_
    rintro e w5 ⟨rfl, hm, _⟩
    rw [A2.out.1]
    have M := Lib.hid (A2.out.2 ▸ hm)
    clear hm
    go_wp2_with fail
    refine (mwaits OK.out g t1 M.out).mono ?_
    rintro e w6 ⟨rfl, hm, _⟩
    rw [F1.out.1]
    have M := Lib.hid hm
    clear hm
    have R1 := Lib.hid (run_ok (t := t1) (by have := F1.out.1; omega))
    go_wp2_with fail
    refine (mrun OK.out g t1 M.out (by have := F1.out.2.2.2; omega)).mono ?_
    rintro e w7 ⟨rfl, hm, _⟩
    rw [R1.out.2.2.2.2]
    obtain ⟨s, hs⟩ : ∃ s, headS t1 = s := ⟨_, rfl⟩
    rw [hs, show s.v = .agg #[.int .i64 s.I, .int .i64 s.R, .int .i64 s.D, .int .i64 s.B, .int .i64 s.G] from rfl]
    obtain ⟨t3, ht3⟩ : ∃ t3, runT t1 = t3 := ⟨_, rfl⟩
    have F3 := Lib.hid (show (t3.l.length : Int) = a - 1 ∧ t3.cut = false ∧ t3.came ≤ 200 by
      rw [← ht3]
      have h := R1.out
      have f := F1.out
      exact ⟨by omega, by rw [h.2.1]; exact f.2.1, by omega⟩)
    rw [ht3] at hm
    have M := Lib.hid (hm.next OK.out (wbox w7 (.cells #[.int .i64 s.I, .int .i64 s.R, .int .i64 s.D, .int .i64 s.B, .int .i64 s.G] 35)))
    clear hm ht3 hs R1
    have A4 := Lib.hid (arrive_ok (t := t3) (at_ := 0) (n := 65 - a) ⟨by omega, by omega, by omega, by omega⟩ F3.out.2.1 (by have := F3.out.1; omega))
    have L4 := Lib.hid (show ((arriveT t3 0 (65 - a)).l.length : Int) = 64 by have := A4.out.2.1; have := F3.out.1; omega)
    have w65 : IntKind.i64.wrap (65 - a) = 65 - a := IntWalk.i64_in _ (by omega)
    go_wp2_with fail
    refine (marrive OK.out g t3 0 (65 - a) M.out (by have := F3.out.2.2; omega)).mono ?_
    rintro e w8 ⟨rfl, hm, _⟩
    rw [A4.out.1]
    have M := Lib.hid hm
    clear hm
    go_wp2_with fail
    refine (mwaits OK.out g _ M.out).mono ?_
    rintro e w9 ⟨rfl, hm, _⟩
    rw [L4.out]
    have B := Lib.hid hm.below
    clear hm
    go_wp2
    go_ret
    exact ⟨rfl, B.out⟩
  · have tf : decide (64 < a + b) = false := by simp; omega
    have A2 := Lib.hid (arrive_ok (t := t1) (at_ := 0) (n := b) ⟨by omega, by omega, b0, b1⟩ F1.out.2.1 (by have := F1.out.1; omega))
    go_wp2_with fail
    refine (marrive OK.out g t1 0 b M.out (by have := F1.out.2.2.1; omega)).mono ?_
    rintro e w5 ⟨rfl, hm, _⟩
    rw [A2.out.1]
    obtain ⟨t2, ht2⟩ : ∃ t2, arriveT t1 0 b = t2 := ⟨_, rfl⟩
    have F2 := Lib.hid (show (t2.l.length : Int) = a + b ∧ t2.cut = false ∧ t2.came = a + b ∧ t2.done = 0 by
      rw [← ht2]
      have h := A2.out.2
      have f := F1.out
      exact ⟨by omega, h.2.1, by omega, by omega⟩)
    rw [ht2] at hm
    have M := Lib.hid hm
    clear hm ht2 A2
    go_wp2_with fail
    refine (mwaits OK.out g t2 M.out).mono ?_
    rintro e w6 ⟨rfl, hm, _⟩
    rw [F2.out.1]
    have M := Lib.hid hm
    clear hm
    have R1 := Lib.hid (run_ok (t := t2) (by have := F2.out.1; omega))
    go_wp2_with fail
    refine (mrun OK.out g t2 M.out (by have := F2.out.2.2.2; omega)).mono ?_
    rintro e w7 ⟨rfl, hm, _⟩
    rw [R1.out.2.2.2.2]
    obtain ⟨s, hs⟩ : ∃ s, headS t2 = s := ⟨_, rfl⟩
    rw [hs, show s.v = .agg #[.int .i64 s.I, .int .i64 s.R, .int .i64 s.D, .int .i64 s.B, .int .i64 s.G] from rfl]
    obtain ⟨t3, ht3⟩ : ∃ t3, runT t2 = t3 := ⟨_, rfl⟩
    have F3 := Lib.hid (show (t3.l.length : Int) = (a + b) - 1 ∧ t3.cut = false ∧ t3.came ≤ 200 by
      rw [← ht3]
      have h := R1.out
      have f := F2.out
      exact ⟨by omega, by rw [h.2.1]; exact f.2.1, by omega⟩)
    rw [ht3] at hm
    have M := Lib.hid (hm.next OK.out (wbox w7 (.cells #[.int .i64 s.I, .int .i64 s.R, .int .i64 s.D, .int .i64 s.B, .int .i64 s.G] 35)))
    clear hm ht3 hs R1
    have A4 := Lib.hid (arrive_ok (t := t3) (at_ := 0) (n := 65 - (a + b)) ⟨by omega, by omega, by omega, by omega⟩ F3.out.2.1 (by have := F3.out.1; omega))
    have L4 := Lib.hid (show ((arriveT t3 0 (65 - (a + b))).l.length : Int) = 64 by have := A4.out.2.1; have := F3.out.1; omega)
    have w65 : IntKind.i64.wrap (65 - (a + b)) = 65 - (a + b) := IntWalk.i64_in _ (by omega)
    go_wp2_with fail
    refine (marrive OK.out g t3 0 (65 - (a + b)) M.out (by have := F3.out.2.2; omega)).mono ?_
    rintro e w8 ⟨rfl, hm, _⟩
    rw [A4.out.1]
    have M := Lib.hid hm
    clear hm
    go_wp2_with fail
    refine (mwaits OK.out g _ M.out).mono ?_
    rintro e w9 ⟨rfl, hm, _⟩
    rw [L4.out]
    have B := Lib.hid hm.below
    clear hm
    go_wp2
    go_ret
    exact ⟨rfl, B.out⟩
end
end Go.Proofs.Ythaoijmjkmgebaa
