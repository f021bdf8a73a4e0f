/-
  A supertask that is granted each slot: plain; and what the laws of supertasks carry along.
-/
import Derived.Test.YtnlgophgglgneaaSl1
import Derived.Test.YtnlgophgglgneaaSzF
import Derived.Test.YtnlgophgglgneaaSzC
import Derived.Test.YtnlgophgglgneaaSrA
import Derived.Test.YtnlgophgglgneaaWrA
namespace Go.Proofs.Ytnlgophgglgneaa
open Go.RowKit

theorem cell_on {w w2 : World} {p : Addr} {v : Value} (hb : Below w.heap.size w w2) (h : w.cell? p = some v) : w2.cell? p = some v := (hb.cell (World.block_lt_of_cell? _ _ h)).trans h
theorem sumN_zero (n : Nat) : sumN n (fun _ => 0) = 0 := by
  induction n with
  | zero => rfl
  | succ n ih => simp only [sumN]; rw [ih]; rfl
theorem grant_done {s : SS} {t : Int} (h : mayS s t = true) : (grantS s t).D = doneN s.E s.P s.D s.A t s.n := by
  unfold doneN
  cases e : bestS s t with
  | none =>
    rw [(grant_none h e).2.2]
    unfold bestS at e
    rw [e]
  | some b =>
    rw [(grant_some h e).2.2]
    unfold bestS at e
    rw [e]
theorem grant_last {s : SS} {t : Int} (h : mayS s t = true) : (grantS s t).last = t := by
  cases e : bestS s t with
  | none => rw [(grant_none h e).2.2]
  | some b => rw [(grant_some h e).2.2]
/-- the sum of what was handed on is what was served -/
theorem grant_sum {s : SS} (h : sumN s.n s.D = s.served) (t : Int) : sumN s.n (grantS s t).D = (grantS s t).served := by
  cases m : mayS s t with
  | false => rw [(grant_no m).2.2]; exact h
  | true =>
    cases e : bestS s t with
    | none => rw [(grant_none m e).2.2]; exact h
    | some b =>
      rw [(grant_some m e).2.2]
      have hb := (best_some s.E s.P s.D s.A t e).1
      simp only
      have := sumN_one (f := fun i => if i = b then s.D i + 1 else s.D i) (g := s.D) hb (fun i _ hne => if_neg hne) 1 (by simp)
      rw [this, h]
theorem grant_idle {s : SS} (t : Int) : s.idle ≤ (grantS s t).idle ∧ s.served ≤ (grantS s t).served := by
  cases m : mayS s t with
  | false => rw [(grant_no m).2.2]; omega
  | true =>
    cases e : bestS s t with
    | none => rw [(grant_none m e).2.2]; simp only; omega
    | some b => rw [(grant_some m e).2.2]; simp only; omega
/-- granted each slot to t -/
structure FolS (qs : List (Int × Int)) (p : Int) (t : Nat) (s : SS) : Prop where
  ps : s.ps = qs
  a0 : s.A = 0
  last : s.last = ((t - 1 : Nat) : Int)
  cnt : s.served + s.idle = t
  idle : 0 ≤ s.idle
  sum : sumN qs.length s.D = s.served
  inv : InvN (eP qs) (pP qs) qs.length p p t t s.D
  good : GoodU s
theorem enough_one {qs : List (Int × Int)} {we p : Int} (h : Enough (eP qs) (pP qs) qs.length we p) : Enough (eP qs) (pP qs) qs.length p p := ⟨h.e1, h.p1, h.pos, h.div, by have := h.pos; omega, Int.le_refl _, h.fits, .inl rfl⟩
theorem fol_zero {qs : List (Int × Int)} {p : Int} (hM : MayP qs) (h : Enough (eP qs) (pP qs) qs.length p p) : FolS qs p 0 (ss0 qs 0) :=
  ⟨rfl, rfl, rfl, rfl, Int.le_refl _, sumN_zero _, inv_zero h h.fits, goodu_ss0 hM (Int.le_refl _) (by decide)⟩
theorem FolS.bd {qs : List (Int × Int)} {p : Int} {t : Nat} {s : SS} (h : FolS qs p t s) : 0 ≤ s.served ∧ s.served ≤ t ∧ 0 ≤ s.idle ∧ s.idle ≤ t := by
  have := h.cnt; have := h.idle; have := h.good.s0; omega
theorem FolS.may {qs : List (Int × Int)} {p : Int} {t : Nat} {s : SS} (h : FolS qs p t s) {u : Int} (hu : ((t - 1 : Nat) : Int) ≤ u) (h2 : u ≤ 1000) : mayS s u = true := may_is.mpr ⟨by rw [h.last]; omega, by omega⟩
theorem FolS.e {qs : List (Int × Int)} {p : Int} {t : Nat} {s : SS} (h : FolS qs p t s) : s.E = eP qs ∧ s.P = pP qs ∧ s.n = qs.length := by unfold SS.E SS.P SS.n; rw [h.ps]; exact ⟨rfl, rfl, rfl⟩
theorem FolS.left {qs : List (Int × Int)} {p : Int} {t : Nat} {s : SS} (h : FolS qs p t s) (hE : Enough (eP qs) (pP qs) qs.length p p) {T : Int} (hT : T ≤ t) : leftN s.E s.P s.D s.A s.n T = 0 := by
  obtain ⟨e1, e2, e3⟩ := h.e
  rw [e1, e2, e3, h.a0]
  have h1 : leftN (eP qs) (pP qs) s.D 0 qs.length t = 0 := inv_none hE h.inv (Int.le_refl _) (Int.mul_lt_mul_of_pos_right (by omega) hE.pos)
  refine Int.le_antisymm (Int.le_trans ?_ (Int.le_of_eq h1)) (left_nonneg (E := eP qs) (P := pP qs) (n := qs.length) s.D 0 T)
  unfold leftN
  refine sumN_le fun i hi => ?_
  have p1 := hE.p1 i hi
  have e1 := hE.e1 i hi
  have d1 : (T - 0) / pP qs i ≤ ((t : Int) - 0) / pP qs i := Int.ediv_le_ediv (by omega) (by omega)
  have d2 := Int.mul_le_mul_of_nonneg_right d1 (show 0 ≤ eP qs i by omega)
  show max 0 ((T - 0) / pP qs i * eP qs i - s.D i) ≤ max 0 (((t : Int) - 0) / pP qs i * eP qs i - s.D i)
  omega
theorem FolS.miss {qs : List (Int × Int)} {p : Int} {t : Nat} {s : SS} (h : FolS qs p t s) (hE : Enough (eP qs) (pP qs) qs.length p p) {T : Int} (hT : T ≤ t) : missedV s T = 0 := by
  unfold missedV
  split
  · exact h.left hE hT
  · rfl
theorem FolS.step {qs : List (Int × Int)} {p : Int} {t : Nat} {s : SS} (h : FolS qs p t s) (hE : Enough (eP qs) (pP qs) qs.length p p) (ht : t ≤ 1000) : FolS qs p (t + 1) (grantS s t) := by
  obtain ⟨e1, e2, e3⟩ := h.e
  have hm : mayS s t = true := h.may (by omega) (by omega)
  have gc := grant_count s t
  rw [if_pos hm, h.cnt] at gc
  have gi := (grant_idle (s := s) t).1
  refine ⟨(grant_ps s t).1.trans h.ps, (grant_ps s t).2.trans h.a0, by rw [grant_last hm]; simp, by rw [gc]; rfl, Int.le_trans h.idle gi, ?_, ?_, good_grant h.good t⟩
  · have := grant_sum (s := s) (by rw [e3]; exact h.sum) t
    rwa [e3] at this
  · rw [grant_done hm, e1, e2, e3, h.a0]
    have := inv_step hE h.inv (u := t) (Int.le_refl _) (by rw [Int.mul_comm p]; exact Int.mul_lt_mul_of_pos_right (by omega) hE.pos)
    exact this
/-- what the parts use by k is served by then -/
def dueN (qs : List (Int × Int)) (k : Int) (i : Nat) : Int := sumN i fun j => k / pP qs j * eP qs j
theorem FolS.due {qs : List (Int × Int)} {p : Int} {t : Nat} {s : SS} (h : FolS qs p t s) (hE : Enough (eP qs) (pP qs) qs.length p p) : dueN qs t qs.length ≤ s.served := by
  obtain ⟨e1, e2, e3⟩ := h.e
  have h1 : leftN (eP qs) (pP qs) s.D 0 qs.length t = 0 := inv_none hE h.inv (Int.le_refl _) (Int.mul_lt_mul_of_pos_right (by omega) hE.pos)
  rw [← h.sum]
  unfold dueN
  refine sumN_le fun i hi => ?_
  refine Int.not_lt.mp fun lt => ?_
  have : 0 < leftN (eP qs) (pP qs) s.D 0 qs.length t := by
    unfold leftN
    have h2 : ∀ n, (∀ j, j < n → 0 ≤ max 0 (((t : Int) - 0) / pP qs j * eP qs j - s.D j)) → i < n → 0 < sumN n fun j => max 0 (((t : Int) - 0) / pP qs j * eP qs j - s.D j) := by
      intro n
      induction n with
      | zero => intro _ h; omega
      | succ n ih =>
        intro h3 h4
        simp only [sumN]
        have h5 := h3 n (by omega)
        by_cases e : i = n
        · subst e
          have h6 := sumN_nonneg (n := i) (f := fun j => max 0 (((t : Int) - 0) / pP qs j * eP qs j - s.D j)) fun j hj => Int.le_max_left _ _
          rw [Int.sub_zero] at h6 ⊢
          omega
        · have h6 := ih (fun j hj => h3 j (by omega)) (by omega)
          omega
    exact h2 _ (fun _ _ => Int.le_max_left _ _) hi
  omega
theorem due_bd {qs : List (Int × Int)} (h : ∀ p ∈ qs, MayBe p.1 p.2) {k : Int} (k0 : 0 ≤ k) : ∀ i : Nat, i ≤ qs.length → 0 ≤ dueN qs k i ∧ dueN qs k i ≤ i * k := by
  intro i
  induction i with
  | zero => intro _; unfold dueN; simp [sumN]
  | succ i ih =>
    intro hi
    have h1 := ih (by omega)
    obtain ⟨e1, e2, e3⟩ := MayP.at_ h (i := i) (by omega)
    have q0 : 0 ≤ k / pP qs i := Int.ediv_nonneg k0 (by omega)
    have q2 : pP qs i * (k / pP qs i) ≤ k := Int.mul_ediv_self_le (by omega)
    have q3 := Int.mul_le_mul_of_nonneg_right e2 q0
    have q4 : k / pP qs i * eP qs i = eP qs i * (k / pP qs i) := Int.mul_comm _ _
    have q5 : 0 ≤ eP qs i * (k / pP qs i) := Int.mul_nonneg (by omega) q0
    have e : dueN qs k (i + 1) = dueN qs k i + k / pP qs i * eP qs i := rfl
    have e' : ((i + 1 : Nat) : Int) * k = i * k + k := by rw [Int.natCast_add, Int.add_mul]; simp
    omega
/-- a supertask's state in memory, and the row of its parts that the law holds -/
structure Has14 (w : World) (am : Option Addr) (lm cm : Nat) (qs : List (Int × Int)) (g gc cp : Nat) (s : SS) (wr : World) : Prop where
  at_ : SAt wr g gc cp s
  row : RowP wr am lm cm qs
  ne : ∀ ad : Addr, am = some ad → ¬ (ad.block = g ∨ ad.block = gc)
  lo : w.heap.size ≤ g ∧ w.heap.size ≤ gc
  bel : Below w.heap.size w wr
theorem Has14.below {w wr w' : World} {am : Option Addr} {lm cm : Nat} {qs : List (Int × Int)} {g gc cp : Nat} {s : SS} (h : Has14 w am lm cm qs g gc cp s wr) (hb : Below wr.heap.size wr w') : Has14 w am lm cm qs g gc cp s w' :=
  ⟨h.at_.below hb, h.row.below hb, h.ne, h.lo, below_next h.bel hb⟩
theorem Has14.keeps {w wr w' : World} {am : Option Addr} {lm cm : Nat} {qs : List (Int × Int)} {g gc cp : Nat} {s s' : SS} (h : Has14 w am lm cm qs g gc cp s wr) (k : Keeps (fun k => k = g ∨ k = gc) wr w') (ha : SAt w' g gc cp s') : Has14 w am lm cm qs g gc cp s' w' :=
  ⟨ha, h.row.keepsP k h.ne, h.ne, h.lo, k.below h.bel (fun x hx => by rcases hx with e | e; rw [e]; exact h.lo.1; rw [e]; exact h.lo.2) h.bel.size⟩
theorem has_new {w w2 w3 : World} {am : Option Addr} {lm cm : Nat} {qs : List (Int × Int)} {g gc cp : Nat} {s : SS} (hb : Below w.heap.size w w2) (hr : RowP w2 am lm cm qs) (h1 : 0 < lm) (ha : SAt w3 g gc cp s) (lg : w2.heap.size ≤ g) (lc : w2.heap.size ≤ gc) (hb3 : Below w2.heap.size w2 w3) : Has14 w am lm cm qs g gc cp s w3 := by
  refine ⟨ha, hr.below hb3, fun ad e => ?_, ⟨Nat.le_trans hb.size lg, Nat.le_trans hb.size lc⟩, below_next hb hb3⟩
  obtain ⟨b, off, e2, hc, _⟩ := hr.cell h1
  have lt := World.block_lt_of_cell? _ _ hc
  rw [e2] at e
  cases e
  have lt : b < w2.heap.size := lt
  show ¬ (b = g ∨ b = gc)
  omega
/-- the document's Low of a weight 1 by P -/
theorem low14_any (P t v : Int) (w : World) (hM : MayBe 1 P) (t0 : 0 ≤ t) (t1 : t ≤ 1000) (hv : t / P = v) :
    Calls Try.prog 32 #[.agg #[.int .i64 1, .int .i64 P], .int .i64 t] w fun e w' => e = .returned (.int .i64 v) ∧ Below w.heap.size w w' := by
  have HC := Lib.hid hM
  have K := Lib.hid (Blk.new w 32 #[Value.int .i64 1, Value.int .i64 P])
  have right : ∀ wx, Calls Try.prog 59 #[.agg #[.int .i64 1, .int .i64 P], .int .i64 t, .int .i64 0] wx fun e w' => e = .returned (.bool true) ∧ Below wx.heap.size wx w' := by
    intro wx
    have b0 : decide (0 ≤ t) = true := by simp; omega
    have b1 : decide (t ≤ 1099511627776) = true := by simp; omega
    clear hM hv K
    go_enter Try.func59, Try.ntmps59
    go_wp2_with fail
    refine (r4check_yes 1 P _ HC.out).mono ?_
    rintro e w1 ⟨rfl, hb⟩
    have B := Lib.hid (below_next (wbox _ _) hb)
    clear hb
    go_wp2
    go_ret
    exact ⟨rfl, B.out⟩
  have P1 : 1 ≤ P := by have := hM.1; have := hM.2.1; omega
  have d0 : 0 ≤ t / P := Int.ediv_nonneg t0 (by omega)
  have d1 : t / P ≤ t := Int.ediv_le_self _ t0
  have hd : t.tdiv P = v := by rw [Int.tdiv_eq_ediv_of_nonneg t0]; exact hv
  have nP : ¬ P = 0 := by omega
  rw [hv] at d0 d1
  clear hM hv
  go_enter Try.func32, Try.ntmps32
  go_wp2_with fail
  refine (right _).mono ?_
  rintro e w1 ⟨rfl, hb⟩
  have B := Lib.hid (below_next (wbox _ _) hb)
  have k0 := (K.out.below hb).cell 0
  have k1 := (K.out.below hb).cell 1
  simp at k0 k1
  clear hb
  go_wp2
  go_ret
  exact ⟨rfl, B.out⟩
end Go.Proofs.Ytnlgophgglgneaa
