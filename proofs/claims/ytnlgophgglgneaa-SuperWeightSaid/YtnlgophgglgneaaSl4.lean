/-
  What SuperWeight compares: the weight by the document's sums.
-/
import Derived.Test.YtnlgophgglgneaaSl3
import Derived.Test.YtnlgophgglgneaaRpA
namespace Go.Proofs.Ytnlgophgglgneaa
open Go.RowKit

theorem use_sum {ps : List (Int × Int)} (h : ∀ p ∈ ps, MayBe p.1 p.2) {q : Int} (hd : ∀ i, i < ps.length → pP ps i ∣ q) : ∀ i : Nat, i ≤ ps.length → useV ps q i * (sumR (ps.take i)).2 = (sumR (ps.take i)).1 * q := by
  intro i
  induction i with
  | zero => intro _; simp [useV, sumN, sumR]
  | succ i ih =>
    intro hi
    have h1 := ih (by omega)
    obtain ⟨m1, m2, _⟩ := MayP.at_ h (i := i) (by omega)
    obtain ⟨c, hc⟩ := hd i (by omega)
    rw [take_pair (by omega), sumR_snoc, use_succ]
    have e : q / pP ps i = c := by rw [hc, Int.mul_ediv_cancel_left _ (by omega)]
    rw [e]
    obtain ⟨U, hU⟩ : ∃ U, useV ps q i = U := ⟨_, rfl⟩
    obtain ⟨N, hN⟩ : ∃ N, (sumR (ps.take i)).1 = N := ⟨_, rfl⟩
    obtain ⟨D, hD⟩ : ∃ D, (sumR (ps.take i)).2 = D := ⟨_, rfl⟩
    obtain ⟨p, hp⟩ : ∃ p, pP ps i = p := ⟨_, rfl⟩
    obtain ⟨x, hx⟩ : ∃ x, eP ps i = x := ⟨_, rfl⟩
    rw [hU, hN, hD] at h1
    rw [hp] at hc
    rw [hU, hN, hD, hp, hx]
    show (U + x * c) * (D * p) = (N * p + x * D) * q
    have e1 : (U + x * c) * (D * p) = U * D * p + x * D * (p * c) := by grind
    rw [e1, h1, ← hc]
    grind
theorem sum_pos {ps : List (Int × Int)} (h : ∀ p ∈ ps, MayBe p.1 p.2) : 0 ≤ (sumR ps).1 ∧ 0 < (sumR ps).2 := by
  have := sum_bd ps (fun p hp => by obtain ⟨h1, h2, h3⟩ := h p hp; exact ⟨by omega, by omega, by omega, h3⟩)
  omega
/-- how the weight and the sum of what parts use go together -/
structure WgtUse (E P er N D L : Int) : Prop where
  over : D < N → er ≠ 0
  bad : ¬ D < N → er ≠ 0 → er = 16
  may : er = 0 → MayBe E P
  one : er = 0 → D * L < N * L + D → E = P
  more : er = 0 → ¬ D * L < N * L + D → E * (D * L) = (N * L + D) * P
theorem wgt_use {ps : List (Int × Int)} (hM : MayP ps) {E P er N D : Int} (hv : wgtV ps = (E, P, er)) (hs : useR ps = (N, D)) : 0 ≤ N ∧ 0 < D ∧ WgtUse E P er N D (leastV ps) := by
  have hs' : sumR ps = (N, D) := by unfold useR at hs; rwa [if_pos hM] at hs
  have sp := sum_pos hM.each
  have us : ∀ q : Int, (∀ i, i < ps.length → pP ps i ∣ q) → useV ps q ps.length * D = N * q := fun q hd => by
    have := use_sum hM.each hd ps.length (Nat.le_refl _)
    rw [List.take_of_length_le (Nat.le_refl _), hs'] at this
    exact this
  rw [hs'] at sp
  obtain ⟨n0, d0⟩ := sp
  replace n0 : 0 ≤ N := n0
  replace d0 : 0 < D := d0
  refine ⟨n0, d0, ?_⟩
  rcases wgt_cases ps with ⟨q, _⟩ | ⟨_, _, q⟩ | ⟨_, hl, hu, q⟩ | ⟨_, hl, hu, q⟩
  · exact absurd hM q
  · rw [q] at hv
    simp only [Prod.mk.injEq] at hv
    obtain ⟨rfl, rfl, rfl⟩ := hv
    exact ⟨fun _ => by omega, fun _ _ => rfl, fun h => by omega, fun h => by omega, fun h => by omega⟩
  · rw [q] at hv
    simp only [Prod.mk.injEq] at hv
    obtain ⟨rfl, rfl, rfl⟩ := hv
    have le0 : lcmE ps = 0 := Classical.byContradiction fun e => hl (.inl e)
    obtain ⟨hd, hp⟩ := lcm_facts le0
    have e := us _ hd
    obtain ⟨U, hU⟩ : ∃ U, useV ps (lcmV ps) ps.length = U := ⟨_, rfl⟩
    obtain ⟨Q, hQ⟩ : ∃ Q, lcmV ps = Q := ⟨_, rfl⟩
    rw [hQ] at hU hu e hp
    rw [hU] at hu e
    have lt : D < N := by
      refine Int.not_le.mp fun g => ?_
      have h1 := Int.mul_le_mul_of_nonneg_right g (show 0 ≤ Q by omega)
      have h2 := Int.mul_lt_mul_of_pos_right hu d0
      rw [Int.mul_comm Q D] at h2
      omega
    exact ⟨fun _ => by omega, fun h => absurd lt h, fun h => by omega, fun h => by omega, fun h => by omega⟩
  · obtain ⟨_, _, hMay, _, _, _⟩ := wgt_enough (ps := ps) (we := E) (p := P) (by rw [hv] at q ⊢; simp only [Prod.mk.injEq] at q; rw [q.2.2])
    rw [q] at hv
    simp only [Prod.mk.injEq] at hv
    obtain ⟨e1, rfl, rfl⟩ := hv
    have le0 : lcmE ps = 0 := Classical.byContradiction fun e => hl (.inl e)
    obtain ⟨hd, hp⟩ := lcm_facts le0
    have e := us _ hd
    obtain ⟨k, hk, ek⟩ := lst_is ps (ps.length - 1)
    have h8 := hM.some_
    have lp := MayP.at_ hM.each (i := k) (by omega)
    have ll : leastV ps = pP ps k := ek
    have ld : leastV ps ∣ lcmV ps := by rw [ll]; exact hd k (by omega)
    have l0 : 0 < leastV ps := by rw [ll]; have q1 := lp.1; have q2 := lp.2.1; omega
    have lm : lcmV ps / leastV ps * leastV ps = lcmV ps := Int.ediv_mul_cancel ld
    obtain ⟨U, hU⟩ : ∃ U, useV ps (lcmV ps) ps.length = U := ⟨_, rfl⟩
    obtain ⟨Q, hQ⟩ : ∃ Q, lcmV ps = Q := ⟨_, rfl⟩
    obtain ⟨L, hL⟩ : ∃ L, leastV ps = L := ⟨_, rfl⟩
    rw [hU, hQ] at e1 e hu
    rw [hQ] at lm hp hMay ⊢
    rw [hL] at e1 lm l0 ⊢
    obtain ⟨M, hm⟩ : ∃ M, Q / L = M := ⟨_, rfl⟩
    rw [hm] at e1 lm
    have dl : 0 < D * L := Int.mul_pos d0 l0
    have key : (U + M) * (D * L) = (N * L + D) * Q := by
      have : (U + M) * (D * L) = U * D * L + M * L * D := by grind
      rw [this, e, lm]
      grind
    have nd : ¬ D < N := by
      intro g
      have h1 := Int.mul_lt_mul_of_pos_right g hp
      have h2 := Int.mul_le_mul_of_nonneg_right (show U ≤ Q by omega) (show 0 ≤ D by omega)
      rw [Int.mul_comm Q D] at h2
      omega
    refine ⟨fun g => absurd g nd, fun _ g => absurd rfl g, fun _ => hMay, fun _ g => ?_, fun _ g => ?_⟩
    · rw [← e1]
      refine Int.min_eq_right (Int.not_lt.mp fun lt => ?_)
      have h1 := Int.mul_lt_mul_of_pos_right lt dl
      have h2 := Int.mul_lt_mul_of_pos_right g hp
      rw [key, Int.mul_comm Q] at h1
      omega
    · have le : U + M ≤ Q := by
        refine Int.not_lt.mp fun lt => ?_
        have h1 := Int.mul_lt_mul_of_pos_right lt dl
        have h2 := Int.mul_le_mul_of_nonneg_right (Int.not_lt.mp g) (show 0 ≤ Q by omega)
        rw [key, Int.mul_comm Q] at h1
        omega
      rw [← e1, Int.min_eq_left le]
      exact key
end Go.Proofs.Ytnlgophgglgneaa
