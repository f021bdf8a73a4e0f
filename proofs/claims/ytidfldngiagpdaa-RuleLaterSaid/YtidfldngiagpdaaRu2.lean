/-
  The walk of RuleGroup, for a package rule that is as P11.1 says.
-/
import Derived.Test.YtidfldngiagpdaaRu1
namespace Go.Proofs.Ytidfldngiagpdaa
open Go.RowKit

set_option maxHeartbeats 4000000 in
theorem rgroup_walk (ok : RuleOk) (qa qb n k : Int) (w : World) : Calls Try.prog 6 #[.agg #[.int .i64 qa, .int .i64 qb], .int .i64 n, .int .i64 k] w fun e w' => e = .returned (.bool true) ∧ Below w.heap.size w w' := by
  have OK := Lib.hid ok
  clear ok
  obtain ⟨kp, hkp⟩ : ∃ k, bits .and .i64 qb 1023 = k := ⟨_, rfl⟩
  have mp := mask_le qb 1023 (by omega) (by omega)
  rw [hkp] at mp
  obtain ⟨P, hP⟩ : ∃ P, 2 + kp = P := ⟨_, rfl⟩
  have wP : IntKind.i64.wrap (2 + kp) = P := by rw [← hP]; exact IntWalk.i64_in _ (by omega)
  obtain ⟨h, hh⟩ : ∃ h, (P + 1) / 2 = h := ⟨_, rfl⟩
  have wP1 : IntKind.i64.wrap (P + 1) = P + 1 := IntWalk.i64_in _ (by omega)
  have th : (P + 1).tdiv 2 = h := by rw [Int.tdiv_eq_ediv_of_nonneg (by omega)]; exact hh
  have wh : IntKind.i64.wrap h = h := IntWalk.i64_in _ (by omega)
  obtain ⟨d, hd⟩ : ∃ d, P - h = d := ⟨_, rfl⟩
  have wd : IntKind.i64.wrap (P - h) = d := by rw [← hd]; exact IntWalk.i64_in _ (by omega)
  have d0 : 0 < d := by omega
  have dn : ¬ d = 0 := by omega
  have r1 := Int.lt_tmod_of_pos qa d0
  have r2 := Int.tmod_lt_of_pos qa d0
  obtain ⟨r, hr⟩ : ∃ r, qa.tmod d = r := ⟨_, rfl⟩
  rw [hr] at r1 r2
  have wr_ : IntKind.i64.wrap r = r := IntWalk.i64_in _ (by omega)
  have wrP : IntKind.i64.wrap (r + P) = r + P := IntWalk.i64_in _ (by omega)
  obtain ⟨x, hx⟩ : ∃ x, r + P - h = x := ⟨_, rfl⟩
  have wx : IntKind.i64.wrap (r + P - h) = x := by rw [← hx]; exact IntWalk.i64_in _ (by omega)
  have x0 : 0 ≤ x := by omega
  have tx : x.tmod d = x % d := Int.tmod_eq_emod_of_nonneg x0
  have e0 := Int.emod_nonneg x dn
  have e1 := Int.emod_lt_of_pos x d0
  obtain ⟨y, hy⟩ : ∃ y, x % d = y := ⟨_, rfl⟩
  rw [hy] at tx e0 e1
  have wy : IntKind.i64.wrap y = y := IntWalk.i64_in _ (by omega)
  obtain ⟨E, hE⟩ : ∃ E, h + y = E := ⟨_, rfl⟩
  have wE : IntKind.i64.wrap (h + y) = E := by rw [← hE]; exact IntWalk.i64_in _ (by omega)
  have HM := Lib.hid (show MayBe E P from ⟨by omega, by omega, by omega⟩)
  have HH := Lib.hid (show P ≤ 2 * E ∧ E < P by omega)
  obtain ⟨kn, hkn⟩ : ∃ k, bits .and .i64 n 1073741823 = k := ⟨_, rfl⟩
  have mn := mask_le n 1073741823 (by omega) (by omega)
  rw [hkn] at mn
  obtain ⟨i, hi⟩ : ∃ i, 1 + kn = i := ⟨_, rfl⟩
  have wi : IntKind.i64.wrap (1 + kn) = i := by rw [← hi]; exact IntWalk.i64_in _ (by omega)
  have NI := Lib.hid (show Nth i from ⟨by omega, by omega⟩)
  have kr1 := Int.lt_tmod_of_pos k (show (0 : Int) < 40 by omega)
  have kr2 := Int.tmod_lt_of_pos k (show (0 : Int) < 40 by omega)
  obtain ⟨kr, hkr⟩ : ∃ r, k.tmod 40 = r := ⟨_, rfl⟩
  rw [hkr] at kr1 kr2
  have wkr : IntKind.i64.wrap kr = kr := IntWalk.i64_in _ (by omega)
  have wk4 : IntKind.i64.wrap (kr + 40) = kr + 40 := IntWalk.i64_in _ (by omega)
  have tk : (kr + 40).tmod 40 = (kr + 40) % 40 := Int.tmod_eq_emod_of_nonneg (by omega)
  obtain ⟨km, hkm⟩ : ∃ r, kr % 40 = r := ⟨_, rfl⟩
  have km2 : (kr + 40) % 40 = km := by omega
  have wkm : IntKind.i64.wrap km = km := IntWalk.i64_in _ (by omega)
  obtain ⟨j, hj⟩ : ∃ j, i + km = j := ⟨_, rfl⟩
  have wj : IntKind.i64.wrap (i + km) = j := by rw [← hj]; exact IntWalk.i64_in _ (by omega)
  have NJ := Lib.hid (show Nth j from ⟨by omega, by omega⟩)
  clear mp hP hh hd r1 r2 hx e0 e1 hE mn hi kr1 kr2 hj hy
  have Q := Lib.hid (Blk.new w 22 #[Value.int .i64 qa, Value.int .i64 qb])
  go_enter Try.func6, Try.ntmps6
  go_wp2_with fail
  refine (r11awake OK.out _).mono ?_
  rintro e w1 ⟨rfl, hb⟩
  have B := Lib.hid (below_next (wbox _ _) hb)
  have q0 := (Q.out.below hb).cell 0; have q1 := (Q.out.below hb).cell 1
  simp at q0 q1
  clear hb Q
  go_upto_region 6 with fail
  clear hkp wP wP1 th wh wd hr wr_ wrP wx tx wy wE hkn q0 q1 d0 dn x0
  obtain ⟨n2, hn2⟩ : ∃ n, w1.heap.size = n := ⟨_, rfl⟩
  obtain ⟨W2, hW2⟩ : ∃ W2, w1.alloc (.cells #[.int .i64 E, .int .i64 P] 25) = W2 := ⟨_, rfl⟩
  have K := Lib.hid (show Blk W2 25 n2 #[.int .i64 E, .int .i64 P] by rw [← hW2, ← hn2]; exact Blk.new _ _ _)
  have B := Lib.hid (show Below w.heap.size w W2 by rw [← hW2]; exact below_next B.out (wbox _ _))
  rw [hW2, hn2]
  clear hW2 hn2
  obtain ⟨s, hs⟩ : ∃ s, ofV E P i 0 = s := ⟨_, rfl⟩
  obtain ⟨u, hu⟩ : ∃ s, ofV E P j 0 = s := ⟨_, rfl⟩
  have HS := Lib.hid hs
  have HU := Lib.hid hu
  have FS := Lib.hid (fit_of HM.out NI.out hs)
  have FU := Lib.hid (fit_of HM.out NJ.out hu)
  have TG := Lib.hid (show timeV E P s true 0 = s.G by
    have f := FS.out
    have g := (group_bd (i := i) HM.out.1 HM.out.2.1 (show ¬ 2 * E < P by have := HH.out; omega)).1
    unfold timeV
    rw [if_neg (by simp), if_pos HH.out.1]
    split
    · omega
    · split <;> omega)
  have UG := Lib.hid (show u.D ≤ u.G by
    have f := FU.out
    have g := (group_bd (i := j) HM.out.1 HM.out.2.1 (show ¬ 2 * E < P by have := HH.out; omega)).1
    omega)
  clear hs hu
  have k0' := K.out.cell 0; have k1' := K.out.cell 1
  simp at k0' k1'
  go_wp2_with fail
  refine (ofV_at E P i 0 _ HM.out NI.out (by omega) (by omega) s HS.out).mono ?_
  rintro e w3 ⟨rfl, hb⟩
  have B := Lib.hid (below_next B.out hb)
  have K := Lib.hid (K.out.below hb)
  clear hb k0' k1'
  go_upto_region 7 with fail
  obtain ⟨n3, hn3⟩ : ∃ n, w3.heap.size = n := ⟨_, rfl⟩
  obtain ⟨W3, hW3⟩ : ∃ W3, w3.alloc (.cells #[.int .i64 s.I, .int .i64 s.R, .int .i64 s.D, .int .i64 s.B, .int .i64 s.G] 28) = W3 := ⟨_, rfl⟩
  have S := Lib.hid (show Blk W3 28 n3 #[.int .i64 s.I, .int .i64 s.R, .int .i64 s.D, .int .i64 s.B, .int .i64 s.G] by rw [← hW3, ← hn3]; exact Blk.new _ _ _)
  have K := Lib.hid (show Blk W3 25 n2 #[.int .i64 E, .int .i64 P] by rw [← hW3]; exact K.out.alloc _)
  have B := Lib.hid (show Below w.heap.size w W3 by rw [← hW3]; exact below_next B.out (wbox _ _))
  rw [hW3, hn3]
  clear hW3 hn3
  have k0' := K.out.cell 0; have k1' := K.out.cell 1
  have s0 := S.out.cell 0; have s1 := S.out.cell 1; have s2 := S.out.cell 2; have s3 := S.out.cell 3; have s4 := S.out.cell 4
  simp at k0' k1' s0 s1 s2 s3 s4
  go_wp2_with fail
  refine (rtime OK.out (s := s) _ s.G HM.out FS.out.1 (by omega) (by omega) TG.out).mono ?_
  rintro e w4 ⟨rfl, hb⟩
  have B := Lib.hid (below_next B.out hb)
  have K := Lib.hid (K.out.below hb)
  have S := Lib.hid (S.out.below hb)
  clear hb k0' k1' s0 s1 s2 s3 s4
  have k0' := K.out.cell 0; have k1' := K.out.cell 1
  simp at k0' k1'
  go_wp2_with fail
  refine (ofV_at E P j 0 _ HM.out NJ.out (by omega) (by omega) u HU.out).mono ?_
  rintro e w5 ⟨rfl, hb⟩
  have B := Lib.hid (below_next B.out hb)
  have S := Lib.hid (S.out.below hb)
  clear hb k0' k1'
  go_upto_region 9 with fail
  obtain ⟨n5, hn5⟩ : ∃ n, w5.heap.size = n := ⟨_, rfl⟩
  obtain ⟨W5, hW5⟩ : ∃ W5, w5.alloc (.cells #[.int .i64 u.I, .int .i64 u.R, .int .i64 u.D, .int .i64 u.B, .int .i64 u.G] 28) = W5 := ⟨_, rfl⟩
  have U := Lib.hid (show Blk W5 28 n5 #[.int .i64 u.I, .int .i64 u.R, .int .i64 u.D, .int .i64 u.B, .int .i64 u.G] by rw [← hW5, ← hn5]; exact Blk.new _ _ _)
  have S := Lib.hid (show Blk W5 28 n3 #[.int .i64 s.I, .int .i64 s.R, .int .i64 s.D, .int .i64 s.B, .int .i64 s.G] by rw [← hW5]; exact S.out.alloc _)
  have B := Lib.hid (show Below w.heap.size w W5 by rw [← hW5]; exact below_next B.out (wbox _ _))
  rw [hW5, hn5]
  clear hW5 hn5
  have s4 := S.out.cell 4
  have u2 := U.out.cell 2; have u4 := U.out.cell 4
  simp at s4 u2 u4
  by_cases ge : u.G = s.G
  · have g1 : (u.G != s.G) = false := by simp [ge]
    have g2 : decide (u.D ≤ s.G) = true := decide_eq_true (by have := UG.out; omega)
    clear ge
    go_wp2
    go_ret
    exact ⟨rfl, B.out⟩
  · have g1 : (u.G != s.G) = true := by simp [ge]
    clear ge
    go_wp2
    go_ret
    exact ⟨rfl, B.out⟩
end Go.Proofs.Ytidfldngiagpdaa
