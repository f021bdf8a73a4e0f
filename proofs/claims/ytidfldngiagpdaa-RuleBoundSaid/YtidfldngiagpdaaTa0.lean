/-
  A task, as plain data: what waits, what comes, what runs. No function of the program in sight.
-/
import Derived.Test.YtidfldngiagpdaaFr
import Derived.Test.YtidfldngiagpdaaWr3
namespace Go.Proofs.Ytidfldngiagpdaa
open Go.RowKit

/-- a subtask -/
structure Sb where
  I : Int
  R : Int
  D : Int
  B : Int
  G : Int
def Sb.cs (s : Sb) : List Value := [.int .i64 s.I, .int .i64 s.R, .int .i64 s.D, .int .i64 s.B, .int .i64 s.G]
def Sb.v (s : Sb) : Value := .agg #[.int .i64 s.I, .int .i64 s.R, .int .i64 s.D, .int .i64 s.B, .int .i64 s.G]
def sub0 : Sb := ⟨0, 0, 0, 0, 0⟩
/-- subtask i of a weight, at an offset -/
def ofV (E P i O : Int) : Sb := ⟨i, wR E P i + O, wD E P i + O, wB E P i, if wG E P i = 0 then 0 else wG E P i + O⟩
theorem ofV_v (E P i O : Int) : (ofV E P i O).v = subV i (wR E P i + O) (wD E P i + O) (wB E P i) (if wG E P i = 0 then 0 else wG E P i + O) := rfl
/-- how a task stands -/
structure TS where
  E : Int
  P : Int
  O : Int
  came : Int
  early : Bool
  cut : Bool
  l : List Sb
  ran : Sb
  done : Int
def ts0 (E P at_ : Int) (early : Bool) : TS := ⟨E, P, at_, 0, early, false, [], sub0, 0⟩
/-- one quantum arrives at a slot -/
def lateO (t : TS) (at_ : Int) : Int := if wR t.E t.P (t.came + 1) + t.O < at_ then at_ - wR t.E t.P (t.came + 1) else t.O
def come1 (t : TS) (at_ : Int) : TS := { t with O := lateO t at_, came := t.came + 1, l := t.l ++ [ofV t.E t.P (t.came + 1) (lateO t at_)] }
def comeN (at_ : Int) : Nat → TS → TS
  | 0, t => t
  | k + 1, t => comeN at_ k (come1 t at_)
theorem comeN_succ (at_ : Int) (k : Nat) (t : TS) : comeN at_ (k + 1) t = come1 (comeN at_ k t) at_ := by
  induction k generalizing t with
  | zero => rfl
  | succ k ih => exact ih (come1 t at_)
/-- a slot, a number of quanta -/
def ArrOk (at_ n : Int) : Prop := 0 ≤ at_ ∧ at_ ≤ 1099511627776 ∧ 1 ≤ n ∧ n ≤ 64
instance (at_ n : Int) : Decidable (ArrOk at_ n) := by unfold ArrOk; infer_instance
def arriveE (t : TS) (at_ n : Int) : Int := if ¬ ArrOk at_ n then 1 else if t.cut = true then 13 else if 64 < (t.l.length : Int) + n then 15 else 0
def arriveT (t : TS) (at_ n : Int) : TS := if arriveE t at_ n = 0 then comeN at_ n.toNat t else t
def headS (t : TS) : Sb := t.l.headD sub0
def someB (t : TS) : Bool := decide (0 < t.l.length)
def readyB (t : TS) (at_ : Int) : Bool := someB t && (t.early || decide ((headS t).R ≤ at_))
def readyS (t : TS) (at_ : Int) : Sb := if readyB t at_ = true then headS t else sub0
def whenV (t : TS) : Int := if t.early = true then 0 else (headS t).R
def runT (t : TS) : TS := if 0 < t.l.length then { t with l := t.l.drop 1, ran := headS t, done := t.done + 1 } else t
def lastS (t : TS) : Sb := if 0 < t.l.length then t.l.getLastD sub0 else t.ran
def lastB (t : TS) : Bool := decide (0 < t.l.length) || decide (0 < t.done)
def leftL (t : TS) (at_ : Int) : List Sb := t.l.filter (fun s => decide (s.R ≤ at_))
def cutT (t : TS) (at_ : Int) : TS := { t with cut := true, l := leftL t at_ }
def cutN (t : TS) (at_ : Int) : Int := (t.l.length : Int) - ((leftL t at_).length : Int)

/-- a task that may be -/
structure GoodT (t : TS) : Prop where
  may : MayBe t.E t.P
  O0 : 0 ≤ t.O
  O1 : t.O ≤ 1099511627776
  came0 : 0 ≤ t.came
  few : t.l.length ≤ 64
  long : (t.l.length : Int) ≤ t.came
  done0 : 0 ≤ t.done
  rel : ∀ s ∈ t.l, 0 ≤ s.R ∧ s.R ≤ wR t.E t.P t.came + t.O
  sorted : t.l.Pairwise (fun a b => a.R ≤ b.R)
  ran0 : t.done = 0 → t.ran = sub0

theorem good0 {E P at_ : Int} {early : Bool} (hM : MayBe E P) (h0 : 0 ≤ at_) (h1 : at_ ≤ 1099511627776) : GoodT (ts0 E P at_ early) where
  may := hM
  O0 := h0
  O1 := h1
  came0 := Int.le_refl _
  few := by simp [ts0]
  long := by simp [ts0]
  done0 := Int.le_refl _
  rel := fun s hs => by cases hs
  sorted := List.Pairwise.nil
  ran0 := fun _ => rfl
theorem wR_mono {E P i : Int} (hE : 0 < E) (hP : 0 ≤ P) : wR E P i ≤ wR E P (i + 1) := by
  unfold wR
  refine Int.ediv_le_ediv hE ?_
  rw [show i + 1 - 1 = (i - 1) + 1 by omega, Int.add_mul, Int.one_mul]
  omega
theorem lateO_ge (t : TS) (at_ : Int) : t.O ≤ lateO t at_ := by unfold lateO; split <;> omega
theorem lateO_le {t : TS} {at_ : Int} (h : GoodT t) (h1 : at_ ≤ 1099511627776) : lateO t at_ ≤ 1099511627776 := by
  have := h.O1
  have hr := wR_nonneg (E := t.E) (P := t.P) (i := t.came + 1) h.may.1 (by have := h.may.1; have := h.may.2.1; omega) (by have := h.came0; omega)
  unfold lateO; split <;> omega
theorem lateO_rel (t : TS) (at_ : Int) : at_ ≤ wR t.E t.P (t.came + 1) + lateO t at_ := by unfold lateO; split <;> omega
theorem good_come {t : TS} {at_ : Int} (h : GoodT t) (h1 : at_ ≤ 1099511627776) (hl : t.l.length < 64) : GoodT (come1 t at_) := by
  have hE : 0 < t.E := h.may.1
  have hP : 0 ≤ t.P := by have := h.may.1; have := h.may.2.1; omega
  have hm := wR_mono (E := t.E) (P := t.P) (i := t.came) hE hP
  have ho := lateO_ge t at_
  have hr := wR_nonneg (E := t.E) (P := t.P) (i := t.came + 1) hE hP (by have := h.came0; omega)
  have h0 := h.O0
  refine ⟨h.may, by show 0 ≤ lateO t at_; omega, lateO_le h h1, by show 0 ≤ t.came + 1; have := h.came0; omega, by simp [come1]; omega, ?_, h.done0, ?_, ?_, h.ran0⟩
  · show ((t.l ++ [ofV t.E t.P (t.came + 1) (lateO t at_)]).length : Int) ≤ t.came + 1
    have := h.long
    simp
    omega
  · intro s hs
    show 0 ≤ s.R ∧ s.R ≤ wR t.E t.P (t.came + 1) + lateO t at_
    rcases List.mem_append.1 hs with g | g
    · have := h.rel s g; omega
    · simp at g; subst g
      show 0 ≤ wR t.E t.P (t.came + 1) + lateO t at_ ∧ wR t.E t.P (t.came + 1) + lateO t at_ ≤ _
      omega
  · show (t.l ++ [ofV t.E t.P (t.came + 1) (lateO t at_)]).Pairwise (fun a b => a.R ≤ b.R)
    rw [List.pairwise_append]
    refine ⟨h.sorted, by simp, fun a ha b hb => ?_⟩
    simp at hb; subst hb
    have := h.rel a ha
    show a.R ≤ wR t.E t.P (t.came + 1) + lateO t at_
    omega
theorem comeN_len (at_ : Int) (k : Nat) (t : TS) : (comeN at_ k t).l.length = t.l.length + k := by
  induction k with
  | zero => rfl
  | succ k ih => rw [comeN_succ]; simp [come1, ih]; omega
theorem comeN_came (at_ : Int) (k : Nat) (t : TS) : (comeN at_ k t).came = t.came + k := by
  induction k with
  | zero => simp [comeN]
  | succ k ih => rw [comeN_succ]; simp [come1, ih]; omega
theorem comeN_EP (at_ : Int) (k : Nat) (t : TS) : (comeN at_ k t).E = t.E ∧ (comeN at_ k t).P = t.P ∧ (comeN at_ k t).early = t.early ∧ (comeN at_ k t).cut = t.cut ∧ (comeN at_ k t).ran = t.ran ∧ (comeN at_ k t).done = t.done := by
  induction k with
  | zero => exact ⟨rfl, rfl, rfl, rfl, rfl, rfl⟩
  | succ k ih => rw [comeN_succ]; exact ih
theorem good_comeN {t : TS} {at_ : Int} (h : GoodT t) (h1 : at_ ≤ 1099511627776) (k : Nat) (hl : t.l.length + k ≤ 64) : GoodT (comeN at_ k t) := by
  induction k with
  | zero => exact h
  | succ k ih =>
    rw [comeN_succ]
    exact good_come (ih (by omega)) h1 (by rw [comeN_len]; omega)
theorem arrive_zero {t : TS} {at_ n : Int} (h : arriveE t at_ n = 0) : ArrOk at_ n ∧ t.cut = false ∧ (t.l.length : Int) + n ≤ 64 := by
  unfold arriveE at h
  by_cases h1 : ArrOk at_ n
  · rw [if_neg (by simpa using h1)] at h
    by_cases h2 : t.cut = true
    · rw [if_pos h2] at h; omega
    · rw [if_neg h2] at h
      by_cases h3 : 64 < (t.l.length : Int) + n
      · rw [if_pos h3] at h; omega
      · exact ⟨h1, by simpa using h2, by omega⟩
  · rw [if_pos h1] at h; omega
theorem good_arrive {t : TS} {at_ n : Int} (h : GoodT t) : GoodT (arriveT t at_ n) := by
  unfold arriveT
  split
  · rename_i h0
    obtain ⟨⟨_, h1, h2, h3⟩, _, h4⟩ := arrive_zero h0
    exact good_comeN h h1 _ (by omega)
  · exact h
theorem good_run {t : TS} (h : GoodT t) : GoodT (runT t) := by
  unfold runT
  split
  · rename_i h0
    refine ⟨h.may, h.O0, h.O1, h.came0, by show (t.l.drop 1).length ≤ 64; have := h.few; simp; omega, by show ((t.l.drop 1).length : Int) ≤ t.came; have := h.long; simp; omega, by show 0 ≤ t.done + 1; have := h.done0; omega, fun s hs => h.rel s (List.mem_of_mem_drop hs), h.sorted.drop, fun hd => ?_⟩
    have : t.done + 1 = 0 := hd
    have := h.done0
    omega
  · exact h
theorem good_cut {t : TS} {at_ : Int} (h : GoodT t) : GoodT (cutT t at_) := by
  have hl : (leftL t at_).length ≤ t.l.length := List.length_filter_le _ _
  exact ⟨h.may, h.O0, h.O1, h.came0, Nat.le_trans hl h.few, by show ((leftL t at_).length : Int) ≤ t.came; have := h.long; omega, h.done0, fun s hs => h.rel s (List.mem_filter.1 hs).1, h.sorted.filter _, h.ran0⟩
end Go.Proofs.Ytidfldngiagpdaa
