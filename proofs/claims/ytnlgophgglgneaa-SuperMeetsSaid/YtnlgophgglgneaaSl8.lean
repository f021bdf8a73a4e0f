/-
  A supertask that has its weight's quanta within their windows: plain.
-/
import Derived.Test.YtnlgophgglgneaaSl6
import Derived.Test.YtnlgophgglgneaaWinA
namespace Go.Proofs.Ytnlgophgglgneaa
open Go.RowKit

theorem enough_sum {E P : Nat → Int} {n : Nat} {we p : Int} (h : Enough E P n we p) : sumN n (fun i => E i * (p / P i)) ≤ we := by
  rcases h.much with e | ⟨l, l0, ⟨c, hc⟩, _, e⟩
  · rw [e]; exact h.fits
  · rw [e]
    have : 0 ≤ p / l := Int.ediv_nonneg (by have := h.pos; omega) (by omega)
    omega
/-- i quanta were granted, the last one at l -/
structure MeetS (qs : List (Int × Int)) (E P : Int) (i : Nat) (l : Int) (s : SS) : Prop where
  ps : s.ps = qs
  a0 : s.A = 0
  last : s.last = max 0 l
  lo : -1 ≤ l
  dead : l + 1 ≤ wD E P i
  cnt : s.served + s.idle = i
  idle : 0 ≤ s.idle
  inv : InvN (eP qs) (pP qs) qs.length E P i (l + 1) s.D
  past : missedV s l = 0
  good : GoodU s
section
variable {qs : List (Int × Int)} {E P : Int} {i : Nat} {l : Int} {s : SS}
theorem meet_zero (hM : MayP qs) (h : Enough (eP qs) (pP qs) qs.length E P) (e0 : 0 < E) : MeetS qs E P 0 (-1) (ss0 qs 0) := by
  refine ⟨rfl, rfl, rfl, Int.le_refl _, ?_, rfl, Int.le_refl _, inv_zero h (enough_sum h), missed_no (may_no.mpr (.inl ?_)), goodu_ss0 hM (Int.le_refl _) (by decide)⟩
  · have := cdv_exact (n := 0) e0
    unfold wD
    rw [Int.zero_mul] at this
    simp only [Int.natCast_zero, Int.zero_mul]
    omega
  · show (-1 : Int) < 0
    omega
theorem MeetS.e (h : MeetS qs E P i l s) : s.E = eP qs ∧ s.P = pP qs ∧ s.n = qs.length := by unfold SS.E SS.P SS.n; rw [h.ps]; exact ⟨rfl, rfl, rfl⟩
theorem MeetS.bd (h : MeetS qs E P i l s) : 0 ≤ s.served ∧ s.served ≤ i ∧ 0 ≤ s.idle ∧ s.idle ≤ i := by
  have := h.cnt; have := h.idle; have := h.good.s0; omega
theorem MeetS.left (h : MeetS qs E P i l s) (hE : Enough (eP qs) (pP qs) qs.length E P) (e0 : 0 < E) {T : Int} (h1 : l + 1 ≤ T) (h2 : T < wD E P (i + 1 : Nat)) : leftN s.E s.P s.D s.A s.n T = 0 := by
  obtain ⟨e1, e2, e3⟩ := h.e
  rw [e1, e2, e3, h.a0]
  refine inv_none hE h.inv h1 ?_
  have h3 := (wD_bd (P := P) (i := ((i + 1 : Nat) : Int)) e0).2
  have h4 := Int.mul_le_mul_of_nonneg_right (show T ≤ wD E P (i + 1 : Nat) - 1 by omega) (show 0 ≤ E by omega)
  rw [show ((i : Int) + 1) = ((i + 1 : Nat) : Int) by omega]
  omega
theorem MeetS.miss (h : MeetS qs E P i l s) (hE : Enough (eP qs) (pP qs) qs.length E P) (e0 : 0 < E) {T : Int} (h1 : l + 1 ≤ T) (h2 : T < wD E P (i + 1 : Nat)) : missedV s T = 0 := by
  unfold missedV
  split
  · exact h.left hE e0 h1 h2
  · rfl
theorem MeetS.step (h : MeetS qs E P i l s) (hE : Enough (eP qs) (pP qs) qs.length E P) (e0 : 0 < E) {u : Int} (h1 : l + 1 ≤ u) (h2 : u < wD E P (i + 1 : Nat)) (h3 : wR E P (i + 1 : Nat) ≤ u) (h4 : u ≤ 1000) : MeetS qs E P (i + 1) u (grantS s u) := by
  obtain ⟨e1, e2, e3⟩ := h.e
  have lo := h.lo
  have hm : mayS s u = true := may_is.mpr ⟨by rw [h.last]; omega, by omega⟩
  have gc := grant_count s u
  rw [if_pos hm, h.cnt] at gc
  have gi := (grant_idle (s := s) u).1
  have hl := grant_last hm
  have eps := (grant_ps s u).1
  have eA := (grant_ps s u).2
  have e1' : (grantS s u).E = eP qs := by unfold SS.E; rw [eps, h.ps]
  have e2' : (grantS s u).P = pP qs := by unfold SS.P; rw [eps, h.ps]
  have e3' : (grantS s u).n = qs.length := by unfold SS.n; rw [eps, h.ps]
  have dn := grant_done hm
  rw [e1, e2, e3, h.a0] at dn
  refine ⟨eps.trans h.ps, eA.trans h.a0, by rw [hl]; omega, by omega, by omega, by rw [gc]; rfl, Int.le_trans h.idle gi, ?_, ?_, good_grant h.good u⟩
  · rw [dn]
    refine inv_step hE h.inv h1 ?_
    have q1 := (wR_bd (P := P) (i := ((i + 1 : Nat) : Int)) e0).2
    have q2 := Int.mul_le_mul_of_nonneg_right (show wR E P (i + 1 : Nat) + 1 ≤ u + 1 by omega) (show 0 ≤ E by omega)
    rw [show (((i + 1 : Nat) : Int) - 1) = (i : Int) by omega] at q1
    rw [Int.mul_comm E (u + 1)]
    omega
  · unfold missedV
    split
    · rw [e1', e2', e3', eA, h.a0, dn]
      have h0 := h.left hE e0 h1 h2
      rw [e1, e2, e3, h.a0] at h0
      refine Int.le_antisymm (Int.le_trans ?_ (Int.le_of_eq h0)) (left_nonneg _ _ _)
      exact left_mono (fun j _ => done_ge s.D 0 u j) 0 u
    · rfl
/-- there is room in the window -/
theorem MeetS.room (h : MeetS qs E P i l s) (e0 : 0 < E) (ep : E ≤ P) : l + 1 < wD E P (i + 1 : Nat) ∧ wR E P (i + 1 : Nat) < wD E P (i + 1 : Nat) ∧ 0 ≤ wR E P (i + 1 : Nat) := by
  have h1 := h.dead
  have h2 := next_later (i := (i : Int)) e0 ep
  have h3 := next_some (i := ((i + 1 : Nat) : Int)) e0 (show 0 < P by omega)
  have h4 := wR_nonneg (i := ((i + 1 : Nat) : Int)) e0 (show 0 ≤ P by omega) (by omega)
  rw [show (i : Int) + 1 = ((i + 1 : Nat) : Int) by omega] at h2
  omega
end
end Go.Proofs.Ytnlgophgglgneaa
