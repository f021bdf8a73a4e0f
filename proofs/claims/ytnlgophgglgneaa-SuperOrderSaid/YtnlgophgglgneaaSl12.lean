/-
  Who is first is the first of the jobs; how many of each part's jobs are done: plain.
-/
import Derived.Test.YtnlgophgglgneaaSl10
import Derived.Test.YtnlgophgglgneaaSzD
namespace Go.Proofs.Ytnlgophgglgneaa
open Go.RowKit

theorem jobs_none {s : SS} (h : GoodU s) {t : Int} (hb : bestS s t = none) : jobsV s t = [] := by
  unfold jobsV
  split
  · have e : jobsN s t s.n = [] := by
      refine List.eq_nil_iff_forall_not_mem.mpr fun x hx => ?_
      obtain ⟨j, k, hj, hk, _⟩ := jobsN_mem hx
      have h1 : k < 1000 := Nat.lt_of_lt_of_le hk (cnt_le s t j)
      have h2 := (cnt_is h hj (k := 0) (by omega) (t := t)).mpr (by omega)
      exact best_none s.E s.P s.D s.A t hb j hj ((pend_job h hj).mpr h2)
    rw [e]; rfl
  · rfl
theorem job_dl (s : SS) (i k : Nat) : (jobS s i k).dl = (jobS s i 0).dl + k * s.P i := by
  show s.A + (ixS s i + (k : Int)) * s.P i + s.P i = s.A + (ixS s i + ((0 : Nat) : Int)) * s.P i + s.P i + k * s.P i
  rw [Int.add_mul, Int.add_mul]
  simp
  omega
theorem jobs_some {s : SS} (h : GoodU s) {t : Int} (hm : mayS s t = true) {b : Nat} (hb : bestS s t = some b) : ∃ r, jobsV s t = jobS s b 0 :: r := by
  rw [jobsV_yes hm]
  obtain ⟨bn, pb, hle, hlt⟩ := best_some s.E s.P s.D s.A t hb
  have c0 : 0 < cntS s t b := (cnt_is h bn (by omega)).mp ((pend_job h bn).mp pb)
  have mb := mem_jobsN (i := s.n) bn c0
  obtain ⟨x, r, hx⟩ := sort_some (List.ne_nil_of_mem mb)
  obtain ⟨hx1, hx2⟩ := sort_head hx
  refine ⟨r, ?_⟩
  rw [hx]
  obtain ⟨j, k, hj, hk, rfl⟩ := jobsN_mem hx1
  have n1 := less_no.mp (hx2 _ mb)
  have h1 : k < 1000 := Nat.lt_of_lt_of_le hk (cnt_le s t j)
  have h2 := (cnt_is h hj (k := 0) (by omega) (t := t)).mpr (by omega)
  have pj := (pend_job h hj).mpr h2
  have d1 := hle j hj pj
  rw [dl_is, dl_is] at d1
  have d2 := job_dl s j k
  have mp : 1 ≤ s.P j := by have q := h.mb hj; have q1 := q.1; have q2 := q.2.1; omega
  have d3 : 0 ≤ (k : Int) * s.P j := Int.mul_nonneg (by omega) (by omega)
  have p1 : (jobS s b 0).part = b := rfl
  have p2 : (jobS s j k).part = j := rfl
  rw [p1, p2] at n1
  have ej : j = b := by
    rcases Nat.lt_trichotomy j b with q | q | q
    · have d4 := hlt j q pj
      rw [dl_is, dl_is] at d4
      omega
    · exact q
    · exfalso
      exact n1 (by omega)
  subst ej
  have k0 : k = 0 := by
    rcases Nat.eq_zero_or_pos k with q | q
    · exact q
    · have := Int.mul_le_mul_of_nonneg_right (show (1 : Int) ≤ k by omega) (show 0 ≤ s.P j by omega)
      omega
  rw [k0]
/-- how many jobs of each part are whole, as the law's array has it -/
def nxA (s : SS) : Array Value := #[.int .i64 (ixS s 0), .int .i64 (ixS s 1), .int .i64 (ixS s 2), .int .i64 (ixS s 3), .int .i64 (ixS s 4), .int .i64 (ixS s 5), .int .i64 (ixS s 6), .int .i64 (ixS s 7)]
theorem nxA_zero (qs : List (Int × Int)) (A : Int) : nxA (ss0 qs A) = #[.int .i64 0, .int .i64 0, .int .i64 0, .int .i64 0, .int .i64 0, .int .i64 0, .int .i64 0, .int .i64 0] := by
  unfold nxA ixS ss0
  simp
theorem nxA_get (s : SS) {i : Nat} (hi : i < 8) : (nxA s)[i]? = some (.int .i64 (ixS s i)) := by
  rcases i with _ | _ | _ | _ | _ | _ | _ | _ | i <;> first | rfl | omega
theorem nxA_set {s s' : SS} {b : Nat} (hb : b < 8) (h : ∀ i, i ≠ b → ixS s' i = ixS s i) : (nxA s).setIfInBounds b (.int .i64 (ixS s' b)) = nxA s' := by
  have h0 := h 0; have h1 := h 1; have h2 := h 2; have h3 := h 3; have h4 := h 4; have h5 := h 5; have h6 := h 6; have h7 := h 7
  rcases b with _ | _ | _ | _ | _ | _ | _ | _ | b <;> first | omega | (unfold nxA; simp at h0 h1 h2 h3 h4 h5 h6 h7 ⊢; simp [*])
theorem nxA_same {s s' : SS} (h : ∀ i, ixS s' i = ixS s i) : nxA s' = nxA s := by unfold nxA; simp only [h]
theorem ix_other {s : SS} {t : Int} {b : Nat} (hm : mayS s t = true) (hb : bestS s t = some b) : ∀ i, i ≠ b → ixS (grantS s t) i = ixS s i := by
  intro i hi
  rw [(grant_some hm hb).2.2]
  unfold ixS
  simp only [if_neg hi]
  rfl
theorem ix_none {s : SS} {t : Int} (hm : mayS s t = true) (hb : bestS s t = none) : ∀ i, ixS (grantS s t) i = ixS s i := by
  intro i
  rw [(grant_none hm hb).2.2]
  rfl
theorem ix_best {s : SS} (h : GoodU s) {t : Int} {b : Nat} (hm : mayS s t = true) (hb : bestS s t = some b) : ixS (grantS s t) b = if lfS s b - 1 = 0 then ixS s b + 1 else ixS s b := by
  have bn := (best_some s.E s.P s.D s.A t hb).1
  have hn := ix_next h bn (s' := grantS s t) (grant_ps s t).1 (by rw [(grant_some hm hb).2.2]; simp)
  split
  · exact (hn.1 (by omega)).1
  · exact (hn.2 (by omega)).1
end Go.Proofs.Ytnlgophgglgneaa
