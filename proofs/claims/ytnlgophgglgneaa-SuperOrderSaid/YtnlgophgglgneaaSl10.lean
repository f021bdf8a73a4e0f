/-
  A supertask that begins later: all of it is later by as much: plain; and two supertasks in memory.
-/
import Derived.Test.YtnlgophgglgneaaSl6
namespace Go.Proofs.Ytnlgophgglgneaa
open Go.RowKit

theorem best_shift (E P D : Nat → Int) (k t : Int) : ∀ n, bestN E P D k (t + k) n = bestN E P D 0 t n := by
  intro n
  induction n with
  | zero => rfl
  | succ n ih =>
    have hp : PendN E P D k (t + k) n ↔ PendN E P D 0 t n := by
      unfold PendN relN
      rw [show t + k - k = t - 0 by omega]
    have hd : ∀ i, dlN E P D k i = dlN E P D 0 i + k := fun i => by unfold dlN; omega
    simp only [bestN]
    rw [ih]
    by_cases q : PendN E P D 0 t n
    · rw [if_pos q, if_pos (hp.mpr q)]
      cases bestN E P D 0 t n with
      | none => rfl
      | some b =>
        simp only [hd]
        by_cases l : dlN E P D 0 n < dlN E P D 0 b
        · rw [if_pos l, if_pos (by omega)]
        · rw [if_neg l, if_neg (by omega)]
    · rw [if_neg q, if_neg (fun z => q (hp.mp z))]
/-- all is later by k -/
structure Shf (k : Int) (a b : SS) : Prop where
  ps : b.ps = a.ps
  D : b.D = a.D
  a0 : a.A = 0
  ak : b.A = k
  last : b.last = a.last + k
  served : b.served = a.served
  idle : b.idle = a.idle
section
variable {k : Int} {a b : SS}
theorem Shf.e (h : Shf k a b) : b.E = a.E ∧ b.P = a.P ∧ b.n = a.n := by unfold SS.E SS.P SS.n; rw [h.ps]; exact ⟨rfl, rfl, rfl⟩
theorem shf_zero (qs : List (Int × Int)) (k : Int) : Shf k (ss0 qs 0) (ss0 qs k) := ⟨rfl, rfl, rfl, rfl, by show k = 0 + k; omega, rfl, rfl⟩
theorem Shf.may (h : Shf k a b) {t : Int} (h1 : t ≤ 1000) (h2 : k ≤ 1000) : mayS b (t + k) = mayS a t := by
  have h3 := h.last
  cases m : mayS a t with
  | true => have := may_is.mp m; exact may_is.mpr (by omega)
  | false => have := may_no.mp m; exact may_no.mpr (by omega)
theorem Shf.best (h : Shf k a b) (t : Int) : bestS b (t + k) = bestS a t := by
  obtain ⟨e1, e2, e3⟩ := h.e
  unfold bestS
  rw [e1, e2, e3, h.D, h.ak, h.a0]
  exact best_shift _ _ _ _ _ _
theorem Shf.miss (h : Shf k a b) {t : Int} (h1 : t ≤ 1000) (h2 : k ≤ 1000) : missedV b (t + k) = missedV a t := by
  obtain ⟨e1, e2, e3⟩ := h.e
  unfold missedV
  rw [h.may h1 h2, e1, e2, e3, h.D, h.ak, h.a0]
  split
  · unfold leftN
    refine sumN_congr fun i _ => ?_
    rw [show t + k - k = t - 0 by omega]
  · rfl
theorem Shf.grant (h : Shf k a b) {t : Int} (h1 : t ≤ 1000) (h2 : k ≤ 1000) : Shf k (grantS a t) (grantS b (t + k)) ∧ grantB b (t + k) = grantB a t ∧
    (grantB a t = true → grantJ b (t + k) = { grantJ a t with rel := (grantJ a t).rel + k, dl := (grantJ a t).dl + k }) := by
  have hm := h.may h1 h2
  have hb := h.best t
  obtain ⟨e1, e2, e3⟩ := h.e
  cases m : mayS a t with
  | false =>
    rw [m] at hm
    obtain ⟨x1, x2, x3⟩ := grant_no m
    obtain ⟨y1, y2, y3⟩ := grant_no hm
    rw [x1, x2, x3, y2, y3]
    exact ⟨h, rfl, fun q => by cases q⟩
  | true =>
    rw [m] at hm
    cases e : bestS a t with
    | none =>
      rw [e] at hb
      obtain ⟨x1, x2, x3⟩ := grant_none m e
      obtain ⟨y1, y2, y3⟩ := grant_none hm hb
      rw [x1, x2, x3, y2, y3]
      exact ⟨⟨h.ps, h.D, h.a0, h.ak, rfl, h.served, by simp only; rw [h.idle]⟩, rfl, fun q => by cases q⟩
    | some i =>
      rw [e] at hb
      obtain ⟨x1, x2, x3⟩ := grant_some m e
      obtain ⟨y1, y2, y3⟩ := grant_some hm hb
      rw [x1, x2, x3, y1, y2, y3]
      refine ⟨⟨h.ps, by simp only; rw [h.D], h.a0, h.ak, rfl, by simp only; rw [h.served], h.idle⟩, rfl, fun _ => ?_⟩
      unfold jobS lfS ixS
      rw [e1, e2, h.D, h.ak, h.a0]
      simp only [Jb.mk.injEq, true_and, and_true]
      omega
/-- what a grant hands out was released -/
theorem grant_rel {s : SS} (h : GoodU s) {t : Int} (hB : grantB s t = true) : 0 ≤ (grantJ s t).rel ∧ (grantJ s t).rel ≤ t ∧ (grantJ s t).rel ≤ (grantJ s t).dl ∧ (grantJ s t).dl ≤ t + 1048576 := by
  cases m : mayS s t with
  | false => rw [(grant_no m).2.1] at hB; cases hB
  | true =>
    cases e : bestS s t with
    | none => rw [(grant_none m e).2.1] at hB; cases hB
    | some i =>
      rw [(grant_some m e).1]
      obtain ⟨bn, pb, _⟩ := best_some s.E s.P s.D s.A t e
      have hr := (pend_is h bn).mp pb
      have ⟨x1, _⟩ := ix_bd h bn
      have mb := h.mb bn
      have p1 : 1 ≤ s.P i := by have := mb.1; have := mb.2.1; omega
      have n0 : 0 ≤ ixS s i * s.P i := Int.mul_nonneg x1 (by omega)
      have a0 := h.a0
      have p2 := mb.2.2
      show 0 ≤ s.A + (ixS s i + ((0 : Nat) : Int)) * s.P i ∧ s.A + (ixS s i + ((0 : Nat) : Int)) * s.P i ≤ t ∧ s.A + (ixS s i + ((0 : Nat) : Int)) * s.P i ≤ s.A + (ixS s i + ((0 : Nat) : Int)) * s.P i + s.P i ∧ s.A + (ixS s i + ((0 : Nat) : Int)) * s.P i + s.P i ≤ t + 1048576
      rw [show ixS s i + ((0 : Nat) : Int) = ixS s i by simp]
      omega
end
/-- two of them in memory -/
structure Two14 (w : World) (ga ca pa gb cb pb : Nat) (a b : SS) (wr : World) : Prop where
  one : SAt wr ga ca pa a
  two : SAt wr gb cb pb b
  lo : w.heap.size ≤ ga ∧ w.heap.size ≤ ca ∧ w.heap.size ≤ gb ∧ w.heap.size ≤ cb
  ap : gb ≠ ga ∧ gb ≠ ca ∧ cb ≠ ga ∧ cb ≠ ca
  bel : Below w.heap.size w wr
section
variable {w wr w' : World} {ga ca pa gb cb pb : Nat} {a b s : SS}
theorem Two14.below (h : Two14 w ga ca pa gb cb pb a b wr) (hb : Below wr.heap.size wr w') : Two14 w ga ca pa gb cb pb a b w' := ⟨h.one.below hb, h.two.below hb, h.lo, h.ap, below_next h.bel hb⟩
theorem Two14.first (h : Two14 w ga ca pa gb cb pb a b wr) (k : Keeps (fun k => k = ga ∨ k = ca) wr w') (hs : SAt w' ga ca pa s) : Two14 w ga ca pa gb cb pb s b w' :=
  ⟨hs, h.two.keeps k (fun e => by have := h.ap; omega) (fun e => by have := h.ap; omega), h.lo, h.ap, k.below h.bel (fun x hx => by have := h.lo; omega) h.bel.size⟩
theorem Two14.second (h : Two14 w ga ca pa gb cb pb a b wr) (k : Keeps (fun k => k = gb ∨ k = cb) wr w') (hs : SAt w' gb cb pb s) : Two14 w ga ca pa gb cb pb a s w' :=
  ⟨h.one.keeps k (fun e => by have := h.ap; omega) (fun e => by have := h.ap; omega), hs, h.lo, h.ap, k.below h.bel (fun x hx => by have := h.lo; omega) h.bel.size⟩
theorem two_new {w3 w4 : World} (hB : Below w.heap.size w w3) (h1 : SAt w3 ga ca pa a) (l1 : w.heap.size ≤ ga ∧ w.heap.size ≤ ca) (h2 : SAt w4 gb cb pb b) (lg : w3.heap.size ≤ gb) (lc : w3.heap.size ≤ cb) (hb : Below w3.heap.size w3 w4) : Two14 w ga ca pa gb cb pb a b w4 := by
  have ⟨q1, q2⟩ := h1.lt
  have q3 := hB.size
  exact ⟨h1.below hb, h2, by omega, by omega, below_next hB hb⟩
end
end Go.Proofs.Ytnlgophgglgneaa
