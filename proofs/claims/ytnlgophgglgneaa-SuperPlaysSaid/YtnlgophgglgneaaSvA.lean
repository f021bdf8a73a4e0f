/-
  Parts, what their weight is, a supertask's state, its jobs in their order: plain data. No function of the program in sight.
  A supertask's state: what is granted, what waits, what is missed: plain data. No function of the program in sight.
-/
import Derived.Test.YtnlgophgglgneaaSuA
import Derived.Test.YtnlgophgglgneaaExA
import Derived.Test.YtnlgophgglgneaaWinA
namespace Go.Proofs.Ytnlgophgglgneaa

/-! ### parts -/
def eP (ps : List (Int × Int)) (i : Nat) : Int := (ps.getD i (0, 0)).1
def pP (ps : List (Int × Int)) (i : Nat) : Int := (ps.getD i (0, 0)).2
structure MayP (ps : List (Int × Int)) : Prop where
  some_ : 1 ≤ ps.length
  few : ps.length ≤ 8
  each : ∀ p ∈ ps, MayBe p.1 p.2
theorem MayP.at_ {ps : List (Int × Int)} (h : ∀ p ∈ ps, MayBe p.1 p.2) {i : Nat} (hi : i < ps.length) : MayBe (eP ps i) (pP ps i) := by
  unfold eP pP
  rw [List.getD_eq_getElem?_getD, List.getElem?_eq_getElem hi]
  exact h _ (List.getElem_mem hi)
theorem getD_mem {ps : List (Int × Int)} {p : Int × Int} (h : p ∈ ps) : ∃ i, i < ps.length ∧ p = (eP ps i, pP ps i) := by
  obtain ⟨i, hi, rfl⟩ := List.getElem_of_mem h
  refine ⟨i, hi, ?_⟩
  unfold eP pP
  rw [List.getD_eq_getElem?_getD, List.getElem?_eq_getElem hi]
  rfl
/-- the least common period, and what is wrong with it -/
def lcmV (ps : List (Int × Int)) : Int := (Ex.rowL 1 (ps.map Prod.snd)).1
def lcmE (ps : List (Int × Int)) : Int := (Ex.rowL 1 (ps.map Prod.snd)).2
/-- what the first i use, in quanta of q -/
def useV (ps : List (Int × Int)) (q : Int) (i : Nat) : Int := sumN i fun k => eP ps k * (q / pP ps k)
/-- the least period of the first i + 1 -/
def lstV (ps : List (Int × Int)) : Nat → Int
  | 0 => pP ps 0
  | i + 1 => min (lstV ps i) (pP ps (i + 1))
def leastV (ps : List (Int × Int)) : Int := lstV ps (ps.length - 1)
open Classical in
/-- P14.1: E, P, what is wrong -/
noncomputable def wgtV (ps : List (Int × Int)) : Int × Int × Int :=
  if ¬ MayP ps then (0, 0, 1) else if lcmE ps ≠ 0 ∨ 1048576 < lcmV ps then (0, 0, 16) else if lcmV ps < useV ps (lcmV ps) ps.length then (0, 0, 18)
  else (min (useV ps (lcmV ps) ps.length + lcmV ps / leastV ps) (lcmV ps), lcmV ps, 0)
theorem wgt_arg {ps : List (Int × Int)} (h : ¬ MayP ps) : wgtV ps = (0, 0, 1) := if_pos h
theorem wgt_over {ps : List (Int × Int)} (h : MayP ps) (g : lcmE ps ≠ 0 ∨ 1048576 < lcmV ps) : wgtV ps = (0, 0, 16) := by unfold wgtV; rw [if_neg (fun q => q h), if_pos g]
theorem wgt_quota {ps : List (Int × Int)} (h : MayP ps) (g : ¬ (lcmE ps ≠ 0 ∨ 1048576 < lcmV ps)) (k : lcmV ps < useV ps (lcmV ps) ps.length) : wgtV ps = (0, 0, 18) := by unfold wgtV; rw [if_neg (fun q => q h), if_neg g, if_pos k]
theorem wgt_ok {ps : List (Int × Int)} (h : MayP ps) (g : ¬ (lcmE ps ≠ 0 ∨ 1048576 < lcmV ps)) (k : ¬ lcmV ps < useV ps (lcmV ps) ps.length) : wgtV ps = (min (useV ps (lcmV ps) ps.length + lcmV ps / leastV ps) (lcmV ps), lcmV ps, 0) := by unfold wgtV; rw [if_neg (fun q => q h), if_neg g, if_neg k]
/-- which of them it is -/
theorem wgt_cases (ps : List (Int × Int)) : (¬ MayP ps ∧ wgtV ps = (0, 0, 1)) ∨ (MayP ps ∧ (lcmE ps ≠ 0 ∨ 1048576 < lcmV ps) ∧ wgtV ps = (0, 0, 16)) ∨ (MayP ps ∧ ¬ (lcmE ps ≠ 0 ∨ 1048576 < lcmV ps) ∧ lcmV ps < useV ps (lcmV ps) ps.length ∧ wgtV ps = (0, 0, 18)) ∨
    (MayP ps ∧ ¬ (lcmE ps ≠ 0 ∨ 1048576 < lcmV ps) ∧ ¬ lcmV ps < useV ps (lcmV ps) ps.length ∧ wgtV ps = (min (useV ps (lcmV ps) ps.length + lcmV ps / leastV ps) (lcmV ps), lcmV ps, 0)) := by
  by_cases h : MayP ps
  · by_cases g : lcmE ps ≠ 0 ∨ 1048576 < lcmV ps
    · exact .inr (.inl ⟨h, g, wgt_over h g⟩)
    · by_cases k : lcmV ps < useV ps (lcmV ps) ps.length
      · exact .inr (.inr (.inl ⟨h, g, k, wgt_quota h g k⟩))
      · exact .inr (.inr (.inr ⟨h, g, k, wgt_ok h g k⟩))
  · exact .inl ⟨h, wgt_arg h⟩
/-! ### the least common number -/
theorem lc_dvd {a b : Int} (ha : 0 < a) : a ∣ Ex.lc a b ∧ b ∣ Ex.lc a b := by
  unfold Ex.lc
  obtain ⟨c, hc⟩ := Ex.gc_dvd (a := a) (b := b)
  obtain ⟨d, hd⟩ := Ex.gc_dvd' (a := a) (b := b)
  have g1 := Ex.gc_pos (b := b) ha
  obtain ⟨g, hg⟩ : ∃ g, Ex.gc a b = g := ⟨_, rfl⟩
  rw [hg] at hc hd g1 ⊢
  have e : a / g = c := by rw [hc, Int.mul_ediv_cancel_left _ (by omega)]
  rw [e]
  exact ⟨⟨d, by rw [hd, hc]; grind⟩, ⟨c, by grind⟩⟩
theorem row_dvd (l : List Int) : ∀ m, 0 < m → m ≤ 9223372036854775807 → (Ex.rowL m l).2 = 0 → m ∣ (Ex.rowL m l).1 ∧ (∀ z ∈ l, z ∣ (Ex.rowL m l).1) ∧ 0 < (Ex.rowL m l).1 ∧ (Ex.rowL m l).1 ≤ 9223372036854775807 := by
  induction l with
  | nil => intro m h1 h2 _; exact ⟨Int.dvd_refl m, (fun _ h => by cases h), h1, h2⟩
  | cons n r ih =>
    intro m h1 h2 h3
    by_cases h : Ex.le m n = 0
    · obtain ⟨q1, q2, q3, q4, q5⟩ := Ex.le_zero h1 h
      rw [Ex.rowL_step h] at h3 ⊢
      obtain ⟨i1, i2, i3⟩ := ih _ (by omega) q5 h3
      obtain ⟨d1, d2⟩ := lc_dvd (b := n) h1
      rw [q3] at i1 i2 i3 ⊢
      refine ⟨Int.dvd_trans d1 i1, fun z hz => ?_, i3⟩
      rcases List.mem_cons.mp hz with e | e
      · rw [e]; exact Int.dvd_trans d2 i1
      · exact i2 z e
    · rw [Ex.rowL_stop h] at h3
      exact absurd h3 h
theorem lcm_facts {ps : List (Int × Int)} (h : lcmE ps = 0) : (∀ i, i < ps.length → pP ps i ∣ lcmV ps) ∧ 0 < lcmV ps := by
  obtain ⟨_, h2, h3, _⟩ := row_dvd (ps.map Prod.snd) 1 (by omega) (by omega) h
  refine ⟨fun i hi => h2 _ ?_, h3⟩
  unfold pP
  rw [List.getD_eq_getElem?_getD, List.getElem?_eq_getElem hi]
  exact List.mem_map.mpr ⟨_, List.getElem_mem hi, rfl⟩
theorem lst_le (ps : List (Int × Int)) : ∀ n i, i ≤ n → lstV ps n ≤ pP ps i := by
  intro n
  induction n with
  | zero => intro i hi; obtain rfl : i = 0 := by omega
            exact Int.le_refl _
  | succ n ih =>
    intro i hi
    simp only [lstV]
    by_cases e : i = n + 1
    · subst e; omega
    · have := ih i (by omega); omega
theorem lst_is (ps : List (Int × Int)) : ∀ n, ∃ i, i ≤ n ∧ lstV ps n = pP ps i := by
  intro n
  induction n with
  | zero => exact ⟨0, Nat.le_refl _, rfl⟩
  | succ n ih =>
    obtain ⟨i, hi, e⟩ := ih
    simp only [lstV]
    rcases Int.le_total (lstV ps n) (pP ps (n + 1)) with q | q
    · exact ⟨i, by omega, by rw [Int.min_eq_left q, e]⟩
    · exact ⟨n + 1, by omega, Int.min_eq_right q⟩
theorem lst_succ {ps : List (Int × Int)} {i : Nat} : lstV ps (i + 1) = min (lstV ps i) (pP ps (i + 1)) := rfl
theorem use_succ {ps : List (Int × Int)} {q : Int} {i : Nat} : useV ps q (i + 1) = useV ps q i + eP ps i * (q / pP ps i) := rfl
/-- a part uses at most all -/
theorem use_term {ps : List (Int × Int)} (h : ∀ p ∈ ps, MayBe p.1 p.2) {q : Int} (h0 : 0 ≤ q) {i : Nat} (hi : i < ps.length) : 0 ≤ q / pP ps i ∧ q / pP ps i ≤ q ∧ 0 ≤ eP ps i * (q / pP ps i) ∧ eP ps i * (q / pP ps i) ≤ q := by
  obtain ⟨e1, e2, e3⟩ := MayP.at_ h hi
  have q0 : 0 ≤ q / pP ps i := Int.ediv_nonneg h0 (by omega)
  have q1 := Int.ediv_le_self (pP ps i) h0
  have q2 : pP ps i * (q / pP ps i) ≤ q := Int.mul_ediv_self_le (by omega)
  have q3 := Int.mul_le_mul_of_nonneg_right e2 q0
  exact ⟨q0, q1, Int.mul_nonneg (by omega) q0, by omega⟩
theorem use_bd {ps : List (Int × Int)} (h : ∀ p ∈ ps, MayBe p.1 p.2) {q : Int} (h0 : 0 ≤ q) : ∀ i : Nat, i ≤ ps.length → 0 ≤ useV ps q i ∧ useV ps q i ≤ i * q := by
  intro i
  induction i with
  | zero => intro _; unfold useV; simp [sumN]
  | succ i ih =>
    intro hi
    have h1 := ih (by omega)
    have h2 := use_term h h0 (i := i) (by omega)
    rw [use_succ]
    have e : ((i + 1 : Nat) : Int) * q = i * q + q := by rw [Int.natCast_add, Int.add_mul]; simp
    omega
/-- what a weight that may be is -/
theorem wgt_enough {ps : List (Int × Int)} {we p : Int} (h : wgtV ps = (we, p, 0)) : MayP ps ∧ Enough (eP ps) (pP ps) ps.length we p ∧ MayBe we p ∧ lcmE ps = 0 ∧ p = lcmV ps ∧ we = min (useV ps (lcmV ps) ps.length + lcmV ps / leastV ps) (lcmV ps) := by
  rcases wgt_cases ps with ⟨_, q⟩ | ⟨_, _, q⟩ | ⟨_, _, _, q⟩ | ⟨hM, hl, hu, q⟩
  · rw [q] at h; simp at h
  · rw [q] at h; simp at h
  · rw [q] at h; simp at h
  · rw [q] at h
    simp only [Prod.mk.injEq, and_true] at h
    obtain ⟨rfl, rfl⟩ := h
    have le0 : lcmE ps = 0 := Classical.byContradiction fun e => hl (.inl e)
    have l1 : lcmV ps ≤ 1048576 := Classical.byContradiction fun e => hl (.inr (by omega))
    obtain ⟨hd, hp⟩ := lcm_facts le0
    obtain ⟨k, hk, ek⟩ := lst_is ps (ps.length - 1)
    have h8 := hM.some_
    have lp := MayP.at_ hM.each (i := k) (by omega)
    have ll : leastV ps = pP ps k := ek
    have ld : leastV ps ∣ lcmV ps := by rw [ll]; exact hd k (by omega)
    have l0 : 0 < leastV ps := by rw [ll]; have q1 := lp.1; have q2 := lp.2.1; omega
    have m0 : 1 ≤ lcmV ps / leastV ps := by
      obtain ⟨c, hc⟩ := ld
      have hp2 := hp
      rw [hc] at hp2 ⊢
      rw [Int.mul_ediv_cancel_left _ (by omega)]
      rcases Int.lt_or_le 0 c with q | q
      · omega
      · have := Int.mul_le_mul_of_nonneg_left q (show 0 ≤ leastV ps by omega); omega
    have ub := use_bd hM.each (q := lcmV ps) (by omega) ps.length (Nat.le_refl _)
    refine ⟨hM, ⟨fun i hi => (MayP.at_ hM.each hi).1, fun i hi => by obtain ⟨q1, q2, _⟩ := MayP.at_ hM.each hi; omega, hp, hd, by omega, by omega, ?_, ?_⟩, ⟨by omega, by omega, l1⟩, le0, rfl, rfl⟩
    · show useV ps (lcmV ps) ps.length ≤ _
      omega
    · rcases Int.le_total (lcmV ps) (useV ps (lcmV ps) ps.length + lcmV ps / leastV ps) with g | g
      · exact .inl (Int.min_eq_right g)
      · refine .inr ⟨leastV ps, l0, ld, fun i hi => lst_le ps _ i (by omega), ?_⟩
        rw [Int.min_eq_left g]
        rfl
end Go.Proofs.Ytnlgophgglgneaa
namespace Go.Proofs.Ytnlgophgglgneaa

/-- parts; how many quanta of each one's jobs were handed on; where it begins, and was granted last; counts -/
structure SS where
  ps : List (Int × Int)
  D : Nat → Int
  A : Int
  last : Int
  served : Int
  idle : Int
/-- a job -/
structure Jb where
  part : Int
  idx : Int
  rel : Int
  dl : Int
  left : Int
instance : Inhabited Jb := ⟨⟨0, 0, 0, 0, 0⟩⟩
def Jb.cs (j : Jb) : List Value := [.int .i64 j.part, .int .i64 j.idx, .int .i64 j.rel, .int .i64 j.dl, .int .i64 j.left]
def Jb.v (j : Jb) : Value := .agg #[.int .i64 j.part, .int .i64 j.idx, .int .i64 j.rel, .int .i64 j.dl, .int .i64 j.left]
def jb0 : Jb := ⟨0, 0, 0, 0, 0⟩
def SS.n (s : SS) : Nat := s.ps.length
def SS.E (s : SS) : Nat → Int := eP s.ps
def SS.P (s : SS) : Nat → Int := pP s.ps
/-- what holds of all that are reached -/
structure GoodU (s : SS) : Prop where
  may : MayP s.ps
  d0 : ∀ i, 0 ≤ s.D i
  d1 : ∀ i, s.D i ≤ s.served
  a0 : 0 ≤ s.A
  al : s.A ≤ s.last
  l1 : s.last ≤ 1099511627776
  i0 : 0 ≤ s.idle
theorem GoodU.s0 {s : SS} (h : GoodU s) : 0 ≤ s.served := Int.le_trans (h.d0 0) (h.d1 0)
theorem GoodU.mb {s : SS} (h : GoodU s) {i : Nat} (hi : i < s.n) : MayBe (s.E i) (s.P i) := MayP.at_ h.may.each hi
/-- at its beginning -/
def ss0 (ps : List (Int × Int)) (A : Int) : SS := ⟨ps, fun _ => 0, A, A, 0, 0⟩
theorem goodu_ss0 {ps : List (Int × Int)} {A : Int} (h : MayP ps) (h0 : 0 ≤ A) (h1 : A ≤ 1099511627776) : GoodU (ss0 ps A) := ⟨h, fun _ => Int.le_refl _, fun _ => Int.le_refl _, h0, Int.le_refl _, h1, Int.le_refl _⟩
/-- may it be asked for that slot? -/
def mayS (s : SS) (t : Int) : Bool := decide (s.last ≤ t) && decide (t ≤ 1099511627776)
theorem may_is {s : SS} {t : Int} : mayS s t = true ↔ s.last ≤ t ∧ t ≤ 1099511627776 := by unfold mayS; simp
theorem may_no {s : SS} {t : Int} : mayS s t = false ↔ t < s.last ∨ 1099511627776 < t := by
  rw [← Bool.not_eq_true, may_is]; omega
/-- a part's first job with quanta left, and the k-th behind it -/
def ixS (s : SS) (i : Nat) : Int := s.D i / s.E i
def lfS (s : SS) (i : Nat) : Int := (ixS s i + 1) * s.E i - s.D i
def jobS (s : SS) (i k : Nat) : Jb := ⟨i, ixS s i + k, s.A + (ixS s i + k) * s.P i, s.A + (ixS s i + k) * s.P i + s.P i, if k = 0 then lfS s i else s.E i⟩
/-- which part is granted -/
def bestS (s : SS) (t : Int) : Option Nat := bestN s.E s.P s.D s.A t s.n
def grantJ (s : SS) (t : Int) : Jb := if mayS s t then match bestS s t with | none => jb0 | some b => { jobS s b 0 with left := lfS s b - 1 } else jb0
def grantB (s : SS) (t : Int) : Bool := mayS s t && (bestS s t).isSome
def grantS (s : SS) (t : Int) : SS := if mayS s t then match bestS s t with
    | none => { s with last := t, idle := s.idle + 1 }
    | some b => { s with last := t, D := fun i => if i = b then s.D i + 1 else s.D i, served := s.served + 1 } else s
def missedV (s : SS) (t : Int) : Int := if mayS s t then leftN s.E s.P s.D s.A s.n t else 0
theorem grant_no {s : SS} {t : Int} (h : mayS s t = false) : grantJ s t = jb0 ∧ grantB s t = false ∧ grantS s t = s := by
  unfold grantJ grantB grantS; simp [h]
theorem grant_none {s : SS} {t : Int} (h : mayS s t = true) (b : bestS s t = none) : grantJ s t = jb0 ∧ grantB s t = false ∧ grantS s t = { s with last := t, idle := s.idle + 1 } := by
  unfold grantJ grantB grantS; simp [h, b]
theorem grant_some {s : SS} {t : Int} {b : Nat} (h : mayS s t = true) (e : bestS s t = some b) : grantJ s t = { jobS s b 0 with left := lfS s b - 1 } ∧ grantB s t = true ∧ grantS s t = { s with last := t, D := fun i => if i = b then s.D i + 1 else s.D i, served := s.served + 1 } := by
  unfold grantJ grantB grantS; simp [h, e]
theorem grant_ps (s : SS) (t : Int) : (grantS s t).ps = s.ps ∧ (grantS s t).A = s.A := by
  unfold grantS
  by_cases h : mayS s t = true
  · simp only [h, if_true]; cases bestS s t <;> exact ⟨rfl, rfl⟩
  · rw [if_neg (by simpa using h)]; exact ⟨rfl, rfl⟩
theorem grant_count (s : SS) (t : Int) : (grantS s t).served + (grantS s t).idle = s.served + s.idle + if mayS s t then 1 else 0 := by
  unfold grantS
  by_cases h : mayS s t = true
  · simp only [h, if_true]
    cases bestS s t <;> simp only <;> omega
  · rw [if_neg (by simpa using h), if_neg (by simpa using h)]; omega
theorem good_grant {s : SS} (h : GoodU s) (t : Int) : GoodU (grantS s t) := by
  by_cases m : mayS s t = true
  · have ⟨m1, m2⟩ := may_is.mp m
    cases eb : bestS s t with
    | none =>
      rw [(grant_none m eb).2.2]
      exact ⟨h.may, h.d0, h.d1, h.a0, Int.le_trans h.al m1, m2, by have := h.i0; show 0 ≤ s.idle + 1; omega⟩
    | some b =>
      rw [(grant_some m eb).2.2]
      refine ⟨h.may, fun i => ?_, fun i => ?_, h.a0, Int.le_trans h.al m1, m2, h.i0⟩
      · have := h.d0 i; show 0 ≤ (if i = b then s.D i + 1 else s.D i); split <;> omega
      · have := h.d1 i; show (if i = b then s.D i + 1 else s.D i) ≤ s.served + 1; split <;> omega
  · rw [(grant_no (by simpa using m)).2.2]; exact h
/-- a component's numbers -/
theorem ix_bd {s : SS} (h : GoodU s) {i : Nat} (hi : i < s.n) : 0 ≤ ixS s i ∧ ixS s i ≤ s.D i ∧ 1 ≤ lfS s i ∧ lfS s i ≤ s.E i := by
  have hm := h.mb hi
  have ⟨j1, j2⟩ := job_bd (D := s.D i) hm.1
  have h0 := h.d0 i
  have e : (s.D i / s.E i + 1) * s.E i = s.D i / s.E i * s.E i + s.E i := by rw [Int.add_mul, Int.one_mul]
  refine ⟨Int.ediv_nonneg h0 (by have := hm.1; omega), Int.ediv_le_self _ h0, ?_, ?_⟩ <;> unfold lfS ixS <;> omega
theorem div_is {a e q : Int} (he : 1 ≤ e) (h1 : q * e ≤ a) (h2 : a < q * e + e) : a / e = q := by
  have h3 : a / e < q + 1 := Int.ediv_lt_of_lt_mul (by omega) (by rw [Int.add_mul, Int.one_mul]; omega)
  have h4 : q ≤ a / e := Int.le_ediv_of_mul_le (by omega) h1
  omega
/-- a quantum that is served: the component's numbers behind it -/
theorem ix_next {s : SS} (h : GoodU s) {i : Nat} (hi : i < s.n) {s' : SS} (ep : s'.ps = s.ps) (ed : s'.D i = s.D i + 1) :
    (lfS s i = 1 → ixS s' i = ixS s i + 1 ∧ lfS s' i = s.E i) ∧ (lfS s i ≠ 1 → ixS s' i = ixS s i ∧ lfS s' i = lfS s i - 1) := by
  have hm := h.mb hi
  have ⟨j1, j2⟩ := job_bd (D := s.D i) hm.1
  have eE : s'.E i = s.E i := by unfold SS.E; rw [ep]
  have e : (s.D i / s.E i + 1) * s.E i = s.D i / s.E i * s.E i + s.E i := by rw [Int.add_mul, Int.one_mul]
  have l1 : lfS s i = s.D i / s.E i * s.E i + s.E i - s.D i := by unfold lfS ixS; omega
  have hE := hm.1
  constructor
  · intro q
    have e2 : (s.D i / s.E i + 1 + 1) * s.E i = s.D i / s.E i * s.E i + s.E i + s.E i := by rw [Int.add_mul, Int.one_mul, e]
    have k : (s.D i + 1) / s.E i = s.D i / s.E i + 1 := div_is hE (by rw [e]; omega) (by rw [e]; omega)
    refine ⟨by unfold ixS; rw [ed, eE, k], ?_⟩
    unfold lfS ixS
    rw [ed, eE, k, e2]
    omega
  · intro q
    have k : (s.D i + 1) / s.E i = s.D i / s.E i := div_is hE (by omega) (by omega)
    refine ⟨by unfold ixS; rw [ed, eE, k], ?_⟩
    unfold lfS ixS
    rw [ed, eE, k]
    omega
/-- who waits, by the component's numbers -/
theorem pend_is {s : SS} (h : GoodU s) {i : Nat} (hi : i < s.n) {t : Int} : PendN s.E s.P s.D s.A t i ↔ s.A + ixS s i * s.P i ≤ t := by
  have hm := h.mb hi
  have hP : 0 < s.P i := by have q1 := hm.1; have q2 := hm.2.1; omega
  show s.D i / s.E i < (t - s.A) / s.P i + 1 ↔ _
  constructor
  · intro q
    have : ixS s i ≤ (t - s.A) / s.P i := by unfold ixS; omega
    have := Int.mul_le_of_le_ediv hP this
    omega
  · intro q
    have : ixS s i ≤ (t - s.A) / s.P i := Int.le_ediv_of_mul_le hP (by omega)
    unfold ixS at this
    omega
theorem dl_is (s : SS) (i : Nat) : dlN s.E s.P s.D s.A i = (jobS s i 0).dl := by
  unfold dlN jobN jobS ixS
  simp only
  have : (s.D i / s.E i + 1) * s.P i = (s.D i / s.E i + (0 : Nat)) * s.P i + s.P i := by rw [Int.add_mul, Int.one_mul]; simp
  omega
/-- what is missed of one part -/
def missI (s : SS) (t : Int) (i : Nat) : Int := max 0 ((t - s.A) / s.P i * s.E i - s.D i)
theorem missed_sum {s : SS} {t : Int} (h : mayS s t = true) : missedV s t = sumN s.n (missI s t) := by unfold missedV; rw [if_pos h]; rfl
theorem missed_no {s : SS} {t : Int} (h : mayS s t = false) : missedV s t = 0 := by unfold missedV; rw [if_neg (by simp [h])]
/-- .. as the components tell it -/
theorem miss_due {s : SS} (h : GoodU s) {i : Nat} (hi : i < s.n) (t : Int) : missI s t i = if (t - s.A) / s.P i - ixS s i < 1 then 0 else lfS s i + ((t - s.A) / s.P i - ixS s i - 1) * s.E i := by
  have hm := h.mb hi
  have ⟨j1, j2⟩ := job_bd (D := s.D i) hm.1
  have hE := hm.1
  obtain ⟨T, hT⟩ : ∃ T, (t - s.A) / s.P i = T := ⟨_, rfl⟩
  unfold missI
  rw [hT]
  have e : (ixS s i + 1) * s.E i = ixS s i * s.E i + s.E i := by rw [Int.add_mul, Int.one_mul]
  have e1 : ixS s i * s.E i ≤ s.D i := j1
  have e2 : s.D i < ixS s i * s.E i + s.E i := by rw [← e]; exact j2
  have l : lfS s i = ixS s i * s.E i + s.E i - s.D i := by unfold lfS; omega
  have e4 : (T - ixS s i - 1) * s.E i = T * s.E i - ixS s i * s.E i - s.E i := by grind
  rcases Int.lt_or_le (T - ixS s i) 1 with q | q
  · rw [if_pos q]
    have := Int.mul_le_mul_of_nonneg_right (show T ≤ ixS s i by omega) (show 0 ≤ s.E i by omega)
    omega
  · rw [if_neg (by omega), e4, l]
    have := Int.mul_le_mul_of_nonneg_right (show ixS s i + 1 ≤ T by omega) (show 0 ≤ s.E i by omega)
    rw [e] at this
    omega
theorem miss_bd {s : SS} (h : GoodU s) {i : Nat} (hi : i < s.n) {t : Int} (h0 : s.A ≤ t) (h1 : t ≤ 1099511627776) : 0 ≤ missI s t i ∧ missI s t i ≤ 1099511627776 := by
  have hm := h.mb hi
  have hP : 0 < s.P i := by have q1 := hm.1; have q2 := hm.2.1; omega
  have a0 := h.a0
  have q1 : s.P i * ((t - s.A) / s.P i) ≤ t - s.A := Int.mul_ediv_self_le (by omega)
  have q0 : 0 ≤ (t - s.A) / s.P i := Int.ediv_nonneg (by omega) (by omega)
  have q2 := Int.mul_le_mul_of_nonneg_left hm.2.1 q0
  have q3 : (t - s.A) / s.P i * s.P i = s.P i * ((t - s.A) / s.P i) := Int.mul_comm _ _
  have := h.d0 i
  unfold missI
  omega
end Go.Proofs.Ytnlgophgglgneaa
