/-
  The walks of RuleBound, RuleBehind, RuleNext, RuleGroup, for a package rule that is as P11.1 and P11.2 say.
-/
import Derived.Test.YtidfldngiagpdaaRu0
namespace Go.Proofs.Ytidfldngiagpdaa
open Go.RowKit

def exr1 : Sb := ⟨1, 0, 4, 1, 0⟩
def exr2 : Sb := ⟨3, 2, 5, 1, 8⟩
theorem exr_fit : SbFit exr1 ∧ SbFit exr2 := ⟨⟨by decide, by decide, by decide, by decide, by decide, by decide⟩, ⟨by decide, by decide, by decide, by decide, by decide, by decide⟩⟩
theorem exr_may : MayBe 2 7 ∧ MayBe 8 11 ∧ MayBe 1 4 := ⟨⟨by decide, by decide, by decide⟩, ⟨by decide, by decide, by decide⟩, ⟨by decide, by decide, by decide⟩⟩
theorem exr_1 : timeV 2 7 exr1 true 0 = 5 := by decide
theorem exr_2 : timeV 8 11 exr2 true 0 = 8 := by decide
theorem r11awake (ok : RuleOk) (w : World) : Calls Try.prog 8 #[] w fun e w' => e = .returned (.bool true) ∧ Below w.heap.size w w' := by
  have OK := Lib.hid ok
  have F := Lib.hid exr_fit; have M := Lib.hid exr_may; have T1 := Lib.hid exr_1; have T2 := Lib.hid exr_2
  clear ok
  go_enter Try.func8, Try.ntmps8
  go_wp2_with fail
  refine (rtime OK.out (s := exr1) _ 5 M.out.1 F.out.1 (by omega) (by omega) T1.out).mono ?_
  rintro e w1 ⟨rfl, hb⟩
  have B := Lib.hid hb
  clear hb
  go_wp2_with fail
  refine (rtime OK.out (s := exr2) _ 8 M.out.2.1 F.out.2 (by omega) (by omega) T2.out).mono ?_
  rintro e w2 ⟨rfl, hb⟩
  have B := Lib.hid (below_next B.out hb)
  clear hb
  go_wp2_with fail
  refine (OK.out.bound 1 4 _ M.out.2.2).mono ?_
  rintro e w3 ⟨rfl, hb⟩
  have B := Lib.hid (below_next B.out hb)
  clear hb
  go_wp2
  go_ret
  exact ⟨rfl, B.out⟩
set_option maxHeartbeats 4000000 in
theorem rbound_walk (ok : RuleOk) (qa qb n late : Int) (w : World) : Calls Try.prog 3 #[.agg #[.int .i64 qa, .int .i64 qb], .int .i64 n, .int .i64 late] w fun e w' => e = .returned (.bool true) ∧ Below w.heap.size w w' := by
  obtain ⟨kn, hkn⟩ : ∃ k, bits .and .i64 n 549755813887 = k := ⟨_, rfl⟩
  have mkn := mask_le n 549755813887 (by omega) (by omega)
  rw [hkn] at mkn
  obtain ⟨i, hi⟩ : ∃ i, 1 + kn = i := ⟨_, rfl⟩
  have wi : IntKind.i64.wrap (1 + kn) = i := by rw [← hi]; exact IntWalk.i64_in _ (by omega)
  have NI := Lib.hid (show Nth i from ⟨by omega, by omega⟩)
  have I39 := Lib.hid (show 1 ≤ i ∧ i ≤ 549755813887+1 by omega)
  clear mkn hi
  obtain ⟨kl, hkl⟩ : ∃ k, bits .and .i64 late 1048575 = k := ⟨_, rfl⟩
  have mkl := mask_le late 1048575 (by omega) (by omega)
  rw [hkl] at mkl
  have OK := Lib.hid ok
  clear ok
  have Q := Lib.hid (Blk.new w 22 #[Value.int .i64 qa, Value.int .i64 qb])
  go_enter Try.func3, Try.ntmps3
  go_wp2_with fail
  refine (r11awake OK.out _).mono ?_
  rintro e w1 ⟨rfl, hb⟩
  have B := Lib.hid (below_next (wbox _ _) hb)
  have q0 := (Q.out.below hb).cell 0; have q1 := (Q.out.below hb).cell 1
  simp at q0 q1
  clear hb Q
  go_wp2_with fail
  refine (wmade_any qa qb _).mono ?_
  rintro e w2 ⟨E, P, rfl, hM, hb⟩
  have B := Lib.hid (below_next (below_next B.out hb) (wbox w2 (.cells #[.int .i64 E, .int .i64 P] 25)))
  have K := Lib.hid (Blk.new w2 25 #[.int .i64 E, .int .i64 P])
  have HM := Lib.hid hM
  clear hb hM q0 q1
  obtain ⟨n2, hn2⟩ : ∃ n, w2.heap.size = n := ⟨_, rfl⟩
  rw [hn2] at K
  obtain ⟨s, hs⟩ : ∃ s, ofV E P i 0 = s := ⟨_, rfl⟩
  have HS := Lib.hid hs
  have FS := Lib.hid (fit_of HM.out NI.out hs)
  clear hs
  have k0 := K.out.cell 0
  have k1 := K.out.cell 1
  simp at k0 k1
  go_wp2_with fail
  clear hn2
  refine (ofV_at E P i 0 _ HM.out NI.out (by omega) (by omega) s HS.out).mono ?_
  rintro e w3 ⟨rfl, hb⟩
  have B := Lib.hid (below_next B.out hb)
  have K := Lib.hid (K.out.below hb)
  clear hb k0 k1
  go_upto_region 4 with fail
  obtain ⟨n3, hn3⟩ : ∃ n, w3.heap.size = n := ⟨_, rfl⟩
  obtain ⟨W3, hW3⟩ : ∃ W3, w3.alloc (.cells #[.int .i64 s.I, .int .i64 s.R, .int .i64 s.D, .int .i64 s.B, .int .i64 s.G] 28) = W3 := ⟨_, rfl⟩
  have S := Lib.hid (show Blk W3 28 n3 #[.int .i64 s.I, .int .i64 s.R, .int .i64 s.D, .int .i64 s.B, .int .i64 s.G] by rw [← hW3, ← hn3]; exact Blk.new _ _ _)
  have K := Lib.hid (show Blk W3 25 n2 #[.int .i64 E, .int .i64 P] by rw [← hW3]; exact K.out.alloc _)
  have B := Lib.hid (show Below w.heap.size w W3 by rw [← hW3]; exact below_next B.out (wbox _ _))
  rw [hW3, hn3]
  clear hW3 hn3 
  obtain ⟨at_, hat⟩ : ∃ x, s.R + kl = x := ⟨_, rfl⟩
  have wa : IntKind.i64.wrap (s.R + kl) = at_ := by rw [← hat]; exact IntWalk.i64_in _ (by have := FS.out.2.2.2.2.2; omega)
  have A0 := Lib.hid (show 0 ≤ at_ ∧ at_ ≤ 4611686018427387903 by have := FS.out.2.2.2.2.2; omega)
  have TR := Lib.hid (time_real (at_ := at_) HM.out NI.out HS.out (by omega))
  obtain ⟨v, hv⟩ : ∃ v, timeV E P s true at_ = v := ⟨_, rfl⟩
  have HV := Lib.hid hv
  rw [hv] at TR
  have v00 : True := trivial
  obtain ⟨d, hd⟩ : ∃ d, v - at_ = d := ⟨_, rfl⟩
  have v0 : decide (0 ≤ d) = true := decide_eq_true (by have := TR.out; omega)
  have v1 : decide (d ≤ P) = true := decide_eq_true (by have := TR.out; omega)
  have HD := Lib.hid hd
  clear hat mkl hv v00 hd
  have k0 := K.out.cell 0
  have k1 := K.out.cell 1
  simp at k0 k1
  have s0 := S.out.cell 0; have s1 := S.out.cell 1; have s2 := S.out.cell 2; have s3 := S.out.cell 3; have s4 := S.out.cell 4
  simp at s0 s1 s2 s3 s4
  go_wp2_with fail
  refine (rwait OK.out (s := s) _ d HM.out FS.out.1 A0.out.1 A0.out.2 (by rw [HV.out]; exact HD.out)).mono ?_
  rintro e w4 ⟨rfl, hb⟩
  have B := Lib.hid (below_next B.out hb)
  have K := Lib.hid (K.out.below hb)
  have S := Lib.hid (S.out.below hb)
  clear hb
  clear k0 k1 s0 s1 s2 s3 s4
  have k0 := K.out.cell 0
  have k1 := K.out.cell 1
  simp at k0 k1
  go_wp2_with fail
  refine (OK.out.bound E P _ HM.out).mono ?_
  rintro e w5 ⟨rfl, hb⟩
  have B := Lib.hid (below_next B.out hb)
  have K := Lib.hid (K.out.below hb)
  have S := Lib.hid (S.out.below hb)
  clear hb
  clear k0 k1
  have k0 := K.out.cell 0
  have k1 := K.out.cell 1
  simp at k0 k1
  have s0 := S.out.cell 0; have s1 := S.out.cell 1; have s2 := S.out.cell 2; have s3 := S.out.cell 3; have s4 := S.out.cell 4
  simp at s0 s1 s2 s3 s4
  by_cases ve : v = at_
  · have e2 : (d == 0) = true := by have := HD.out; simp; omega
    have VE := Lib.hid ve
    clear ve
    go_wp2_with fail
    refine (rfree OK.out (s := s) _ true HM.out FS.out.1 A0.out.1 A0.out.2 (by rw [HV.out]; simpa using VE.out)).mono ?_
    rintro e w6 ⟨rfl, hb⟩
    have B := Lib.hid (below_next B.out hb)
    have K := Lib.hid (K.out.below hb)
    have S := Lib.hid (S.out.below hb)
    clear hb
    clear k0 k1 s0 s1 s2 s3 s4
    go_wp2
    go_ret
    exact ⟨rfl, B.out⟩
  · have e2 : (d == 0) = false := by have := HD.out; simp; omega
    have VE := Lib.hid ve
    clear ve
    go_wp2_with fail
    refine (rfree OK.out (s := s) _ false HM.out FS.out.1 A0.out.1 A0.out.2 (by rw [HV.out]; simpa using VE.out)).mono ?_
    rintro e w6 ⟨rfl, hb⟩
    have B := Lib.hid (below_next B.out hb)
    have K := Lib.hid (K.out.below hb)
    have S := Lib.hid (S.out.below hb)
    clear hb
    clear k0 k1 s0 s1 s2 s3 s4
    go_wp2
    go_ret
    exact ⟨rfl, B.out⟩
set_option maxHeartbeats 4000000 in
theorem rbehind_walk (ok : RuleOk) (qa qb n at_ : Int) (w : World) : Calls Try.prog 4 #[.agg #[.int .i64 qa, .int .i64 qb], .int .i64 n, .int .i64 at_] w fun e w' => e = .returned (.bool true) ∧ Below w.heap.size w w' := by
  obtain ⟨kn, hkn⟩ : ∃ k, bits .and .i64 n 549755813887 = k := ⟨_, rfl⟩
  have mkn := mask_le n 549755813887 (by omega) (by omega)
  rw [hkn] at mkn
  obtain ⟨i, hi⟩ : ∃ i, 1 + kn = i := ⟨_, rfl⟩
  have wi : IntKind.i64.wrap (1 + kn) = i := by rw [← hi]; exact IntWalk.i64_in _ (by omega)
  have NI := Lib.hid (show Nth i from ⟨by omega, by omega⟩)
  have I39 := Lib.hid (show 1 ≤ i ∧ i ≤ 549755813887+1 by omega)
  clear mkn hi
  obtain ⟨a, ha⟩ : ∃ k, bits .and .i64 at_ 1099511627775 = k := ⟨_, rfl⟩
  have ma := mask_le at_ 1099511627775 (by omega) (by omega)
  rw [ha] at ma
  have OK := Lib.hid ok
  clear ok
  have Q := Lib.hid (Blk.new w 22 #[Value.int .i64 qa, Value.int .i64 qb])
  go_enter Try.func4, Try.ntmps4
  go_wp2_with fail
  refine (r11awake OK.out _).mono ?_
  rintro e w1 ⟨rfl, hb⟩
  have B := Lib.hid (below_next (wbox _ _) hb)
  have q0 := (Q.out.below hb).cell 0; have q1 := (Q.out.below hb).cell 1
  simp at q0 q1
  clear hb Q
  go_wp2_with fail
  refine (wmade_any qa qb _).mono ?_
  rintro e w2 ⟨E, P, rfl, hM, hb⟩
  have B := Lib.hid (below_next (below_next B.out hb) (wbox w2 (.cells #[.int .i64 E, .int .i64 P] 25)))
  have K := Lib.hid (Blk.new w2 25 #[.int .i64 E, .int .i64 P])
  have HM := Lib.hid hM
  clear hb hM q0 q1
  obtain ⟨n2, hn2⟩ : ∃ n, w2.heap.size = n := ⟨_, rfl⟩
  rw [hn2] at K
  obtain ⟨s, hs⟩ : ∃ s, ofV E P i 0 = s := ⟨_, rfl⟩
  have HS := Lib.hid hs
  have FS := Lib.hid (fit_of HM.out NI.out hs)
  clear hs
  have k0 := K.out.cell 0
  have k1 := K.out.cell 1
  simp at k0 k1
  go_wp2_with fail
  clear hn2
  refine (ofV_at E P i 0 _ HM.out NI.out (by omega) (by omega) s HS.out).mono ?_
  rintro e w3 ⟨rfl, hb⟩
  have B := Lib.hid (below_next B.out hb)
  have K := Lib.hid (K.out.below hb)
  clear hb k0 k1
  go_upto_region 4 with fail
  obtain ⟨n3, hn3⟩ : ∃ n, w3.heap.size = n := ⟨_, rfl⟩
  obtain ⟨W3, hW3⟩ : ∃ W3, w3.alloc (.cells #[.int .i64 s.I, .int .i64 s.R, .int .i64 s.D, .int .i64 s.B, .int .i64 s.G] 28) = W3 := ⟨_, rfl⟩
  have S := Lib.hid (show Blk W3 28 n3 #[.int .i64 s.I, .int .i64 s.R, .int .i64 s.D, .int .i64 s.B, .int .i64 s.G] by rw [← hW3, ← hn3]; exact Blk.new _ _ _)
  have K := Lib.hid (show Blk W3 25 n2 #[.int .i64 E, .int .i64 P] by rw [← hW3]; exact K.out.alloc _)
  have B := Lib.hid (show Below w.heap.size w W3 by rw [← hW3]; exact below_next B.out (wbox _ _))
  rw [hW3, hn3]
  clear hW3 hn3 
  have A0 := Lib.hid (show 0 ≤ a ∧ a ≤ 4611686018427387903 by omega)
  have TB := Lib.hid (show a ≤ timeV E P s true a ∧ s.D ≤ timeV E P s true a ∧ timeV E P s true (timeV E P s true a) = timeV E P s true a from have h := time_behind (E := E) (P := P) (some := true) (at_ := a) FS.out.1; ⟨h.1, h.2.1 rfl, h.2.2.1⟩)
  have TF := Lib.hid (show timeV E P s false a = a from (time_behind (E := E) (P := P) (some := false) (at_ := a) FS.out.1).2.2.2 rfl)
  have TR := Lib.hid (show timeV E P s true a ≤ 4611686018427387903 by have h := FS.out; have h1 := A0.out; have h2 := h.1.d1; have h3 := h.1.g1; have h4 := h.1.b1; have h5 := h.1.b0; unfold timeV; (repeat' split) <;> omega)
  obtain ⟨v, hv⟩ : ∃ v, timeV E P s true a = v := ⟨_, rfl⟩
  have HV := Lib.hid hv
  rw [hv] at TB TR
  have v0 : decide (a ≤ v) = true := decide_eq_true TB.out.1
  have v1 : decide (s.D ≤ v) = true := decide_eq_true TB.out.2.1
  clear ma hv
  have k0 := K.out.cell 0
  have k1 := K.out.cell 1
  simp at k0 k1
  have s0 := S.out.cell 0; have s1 := S.out.cell 1; have s2 := S.out.cell 2; have s3 := S.out.cell 3; have s4 := S.out.cell 4
  simp at s0 s1 s2 s3 s4
  go_wp2_with fail
  refine (rtime OK.out (s := s) _ v HM.out FS.out.1 A0.out.1 A0.out.2 HV.out).mono ?_
  rintro e w4 ⟨rfl, hb⟩
  have B := Lib.hid (below_next B.out hb)
  have K := Lib.hid (K.out.below hb)
  have S := Lib.hid (S.out.below hb)
  clear hb
  clear k0 k1 s0 s1 s2 s3 s4
  have k0 := K.out.cell 0
  have k1 := K.out.cell 1
  simp at k0 k1
  have s0 := S.out.cell 0; have s1 := S.out.cell 1; have s2 := S.out.cell 2; have s3 := S.out.cell 3; have s4 := S.out.cell 4
  simp at s0 s1 s2 s3 s4
  go_wp2_with fail
  refine (rfree OK.out (s := s) _ true HM.out FS.out.1 (by have h1 := A0.out.1; have h2 := TB.out.1; omega) TR.out (by rw [TB.out.2.2]; simp)).mono ?_
  rintro e w5 ⟨rfl, hb⟩
  have B := Lib.hid (below_next B.out hb)
  have K := Lib.hid (K.out.below hb)
  have S := Lib.hid (S.out.below hb)
  clear hb
  clear k0 k1 s0 s1 s2 s3 s4
  have k0 := K.out.cell 0
  have k1 := K.out.cell 1
  simp at k0 k1
  have s0 := S.out.cell 0; have s1 := S.out.cell 1; have s2 := S.out.cell 2; have s3 := S.out.cell 3; have s4 := S.out.cell 4
  simp at s0 s1 s2 s3 s4
  go_wp2_with fail
  refine (rtime OK.out (s := s) (some := false) _ a HM.out FS.out.1 A0.out.1 A0.out.2 TF.out).mono ?_
  rintro e w6 ⟨rfl, hb⟩
  have B := Lib.hid (below_next B.out hb)
  have K := Lib.hid (K.out.below hb)
  have S := Lib.hid (S.out.below hb)
  clear hb
  clear k0 k1 s0 s1 s2 s3 s4
  have k0 := K.out.cell 0
  have k1 := K.out.cell 1
  simp at k0 k1
  have s0 := S.out.cell 0; have s1 := S.out.cell 1; have s2 := S.out.cell 2; have s3 := S.out.cell 3; have s4 := S.out.cell 4
  simp at s0 s1 s2 s3 s4
  go_wp2_with fail
  refine (rwait OK.out (s := s) (some := false) _ 0 HM.out FS.out.1 A0.out.1 A0.out.2 (by rw [TF.out]; omega)).mono ?_
  rintro e w7 ⟨rfl, hb⟩
  have B := Lib.hid (below_next B.out hb)
  have K := Lib.hid (K.out.below hb)
  have S := Lib.hid (S.out.below hb)
  clear hb
  clear k0 k1 s0 s1 s2 s3 s4
  go_wp2
  go_ret
  exact ⟨rfl, B.out⟩
theorem next_of {E P i : Int} {s : Sb} (hM : MayBe E P) (hi : Nth i) (hs : ofV E P i 0 = s) : wR E P (i + 1) ≤ timeV E P s true 0 ∧ (¬ P ≤ 2 * E → timeV E P s true 0 = wR E P (i + 1) + 2 * s.B) := by
  obtain ⟨_, hR, hD, hB, hG, _⟩ := fit_of hM hi hs
  have n := next_release (P := P) (i := i) (show 0 < E from hM.1)
  have wb := wB_bd E P i
  unfold timeV
  rw [if_neg (by simp)]
  constructor
  · (repeat' split) <;> omega
  · intro h
    rw [if_neg h]
    split <;> omega
set_option maxHeartbeats 4000000 in
theorem rnext_walk (ok : RuleOk) (qa qb n : Int) (w : World) : Calls Try.prog 5 #[.agg #[.int .i64 qa, .int .i64 qb], .int .i64 n] w fun e w' => e = .returned (.bool true) ∧ Below w.heap.size w w' := by
  obtain ⟨kn, hkn⟩ : ∃ k, bits .and .i64 n 549755813887 = k := ⟨_, rfl⟩
  have mkn := mask_le n 549755813887 (by omega) (by omega)
  rw [hkn] at mkn
  obtain ⟨i, hi⟩ : ∃ i, 1 + kn = i := ⟨_, rfl⟩
  have wi : IntKind.i64.wrap (1 + kn) = i := by rw [← hi]; exact IntWalk.i64_in _ (by omega)
  have NI := Lib.hid (show Nth i from ⟨by omega, by omega⟩)
  have I39 := Lib.hid (show 1 ≤ i ∧ i ≤ 549755813887+1 by omega)
  clear mkn hi
  have OK := Lib.hid ok
  clear ok
  have Q := Lib.hid (Blk.new w 22 #[Value.int .i64 qa, Value.int .i64 qb])
  go_enter Try.func5, Try.ntmps5
  go_wp2_with fail
  refine (r11awake OK.out _).mono ?_
  rintro e w1 ⟨rfl, hb⟩
  have B := Lib.hid (below_next (wbox _ _) hb)
  have q0 := (Q.out.below hb).cell 0; have q1 := (Q.out.below hb).cell 1
  simp at q0 q1
  clear hb Q
  go_wp2_with fail
  refine (wmade_any qa qb _).mono ?_
  rintro e w2 ⟨E, P, rfl, hM, hb⟩
  have B := Lib.hid (below_next (below_next B.out hb) (wbox w2 (.cells #[.int .i64 E, .int .i64 P] 25)))
  have K := Lib.hid (Blk.new w2 25 #[.int .i64 E, .int .i64 P])
  have HM := Lib.hid hM
  clear hb hM q0 q1
  obtain ⟨n2, hn2⟩ : ∃ n, w2.heap.size = n := ⟨_, rfl⟩
  rw [hn2] at K
  obtain ⟨s, hs⟩ : ∃ s, ofV E P i 0 = s := ⟨_, rfl⟩
  have HS := Lib.hid hs
  have FS := Lib.hid (fit_of HM.out NI.out hs)
  clear hs
  have k0 := K.out.cell 0
  have k1 := K.out.cell 1
  simp at k0 k1
  go_wp2_with fail
  clear hn2
  refine (ofV_at E P i 0 _ HM.out NI.out (by omega) (by omega) s HS.out).mono ?_
  rintro e w3 ⟨rfl, hb⟩
  have B := Lib.hid (below_next B.out hb)
  have K := Lib.hid (K.out.below hb)
  clear hb k0 k1
  go_upto_region 5 with fail
  obtain ⟨n3, hn3⟩ : ∃ n, w3.heap.size = n := ⟨_, rfl⟩
  obtain ⟨W3, hW3⟩ : ∃ W3, w3.alloc (.cells #[.int .i64 s.I, .int .i64 s.R, .int .i64 s.D, .int .i64 s.B, .int .i64 s.G] 28) = W3 := ⟨_, rfl⟩
  have S := Lib.hid (show Blk W3 28 n3 #[.int .i64 s.I, .int .i64 s.R, .int .i64 s.D, .int .i64 s.B, .int .i64 s.G] by rw [← hW3, ← hn3]; exact Blk.new _ _ _)
  have K := Lib.hid (show Blk W3 25 n2 #[.int .i64 E, .int .i64 P] by rw [← hW3]; exact K.out.alloc _)
  have B := Lib.hid (show Below w.heap.size w W3 by rw [← hW3]; exact below_next B.out (wbox _ _))
  rw [hW3, hn3]
  clear hW3 hn3 
  have NX := Lib.hid (next_of HM.out NI.out HS.out)
  have NR := Lib.hid (show Nth (i + 1) from ⟨by have := I39.out; omega, by have := I39.out; omega⟩)
  obtain ⟨r, hr⟩ : ∃ r, wR E P (i + 1) = r := ⟨_, rfl⟩
  have HR := Lib.hid hr
  have RB := Lib.hid (show 0 ≤ r ∧ r ≤ 1152921504606846976 by rw [← hr]; exact wR_fit HM.out NR.out.1 NR.out.2)
  obtain ⟨v, hv⟩ : ∃ v, timeV E P s true 0 = v := ⟨_, rfl⟩
  have HV := Lib.hid hv
  rw [hr, hv] at NX
  have w1i : IntKind.i64.wrap (i + 1) = i + 1 := IntWalk.i64_in _ (by have := I39.out; omega)
  have v0 : decide (r ≤ v) = true := decide_eq_true NX.out.1
  have sb := Lib.hid (show 0 ≤ s.B ∧ s.B ≤ 1 from ⟨FS.out.1.b0, FS.out.1.b1⟩)
  have w2b : IntKind.i64.wrap (2 * s.B) = 2 * s.B := IntWalk.i64_in _ (by have := sb.out; omega)
  have w3b : IntKind.i64.wrap (r + 2 * s.B) = r + 2 * s.B := IntWalk.i64_in _ (by have := sb.out; have := RB.out; omega)
  clear hr hv
  have k0 := K.out.cell 0
  have k1 := K.out.cell 1
  simp at k0 k1
  go_wp2_with fail
  refine (r4release_yes E P (i + 1) r _ HM.out NR.out HR.out).mono ?_
  rintro e w4 ⟨rfl, hb⟩
  have B := Lib.hid (below_next B.out hb)
  have K := Lib.hid (K.out.below hb)
  have S := Lib.hid (S.out.below hb)
  clear hb
  clear k0 k1
  have k0 := K.out.cell 0
  have k1 := K.out.cell 1
  simp at k0 k1
  have s0 := S.out.cell 0; have s1 := S.out.cell 1; have s2 := S.out.cell 2; have s3 := S.out.cell 3; have s4 := S.out.cell 4
  simp at s0 s1 s2 s3 s4
  go_wp2_with fail
  refine (rtime OK.out (s := s) _ v HM.out FS.out.1 (by omega) (by omega) HV.out).mono ?_
  rintro e w5 ⟨rfl, hb⟩
  have B := Lib.hid (below_next B.out hb)
  have K := Lib.hid (K.out.below hb)
  have S := Lib.hid (S.out.below hb)
  clear hb
  clear k0 k1 s0 s1 s2 s3 s4
  have k0 := K.out.cell 0
  have k1 := K.out.cell 1
  simp at k0 k1
  have s0 := S.out.cell 0; have s1 := S.out.cell 1; have s2 := S.out.cell 2; have s3 := S.out.cell 3; have s4 := S.out.cell 4
  simp at s0 s1 s2 s3 s4
  by_cases hv : P ≤ 2 * E
  · have d : decide (P ≤ 2 * E) = true := decide_eq_true hv
    go_wp2_with fail
    refine (r4heavy_yes E P _ HM.out true d.symm).mono ?_
    rintro e w6 ⟨rfl, hb⟩
    have B := Lib.hid (below_next B.out hb)
    have K := Lib.hid (K.out.below hb)
    have S := Lib.hid (S.out.below hb)
    clear hb
    clear k0 k1 s0 s1 s2 s3 s4
    have k0 := K.out.cell 0
    have k1 := K.out.cell 1
    simp at k0 k1
    have s0 := S.out.cell 0; have s1 := S.out.cell 1; have s2 := S.out.cell 2; have s3 := S.out.cell 3; have s4 := S.out.cell 4
    simp at s0 s1 s2 s3 s4
    go_wp2
    go_ret
    exact ⟨rfl, B.out⟩
  · have d : decide (P ≤ 2 * E) = false := decide_eq_false hv
    have e1 : (v == r + 2 * s.B) = true := by simp; exact NX.out.2 (by omega)
    go_wp2_with fail
    refine (r4heavy_yes E P _ HM.out false d.symm).mono ?_
    rintro e w6 ⟨rfl, hb⟩
    have B := Lib.hid (below_next B.out hb)
    have K := Lib.hid (K.out.below hb)
    have S := Lib.hid (S.out.below hb)
    clear hb
    clear k0 k1 s0 s1 s2 s3 s4
    have k0 := K.out.cell 0
    have k1 := K.out.cell 1
    simp at k0 k1
    have s0 := S.out.cell 0; have s1 := S.out.cell 1; have s2 := S.out.cell 2; have s3 := S.out.cell 3; have s4 := S.out.cell 4
    simp at s0 s1 s2 s3 s4
    go_wp2
    go_ret
    exact ⟨rfl, B.out⟩
end Go.Proofs.Ytidfldngiagpdaa
