/-
  When a share is given back, as plain data; what the laws ask of package rule; their awake.
-/
import Derived.Test.YtidfldngiagpdaaTa0
import Derived.Test.YtidfldngiagpdaaCr1
import Derived.Test.YtidfldngiagpdaaWin7
namespace Go.Proofs.Ytidfldngiagpdaa
open Go.RowKit

/-- a subtask whose numbers may be -/
structure SbFit (s : Sb) : Prop where
  d0 : 0 ≤ s.D
  d1 : s.D ≤ 4611686018427387903
  b0 : 0 ≤ s.B
  b1 : s.B ≤ 1
  g0 : 0 ≤ s.G
  g1 : s.G ≤ 4611686018427387903
def timeV (E P : Int) (s : Sb) (some : Bool) (at_ : Int) : Int :=
  if some = false then at_ else if P ≤ 2 * E then (if at_ ≤ s.D ∧ s.G ≤ s.D then s.D else if at_ ≤ s.G ∧ s.D ≤ s.G then s.G else at_) else if at_ ≤ s.D + s.B then s.D + s.B else at_
/-- the last one of some events -/
def LastV (es : List Ev) (e : Ev) (is : Bool) : Prop := (es = [] ∧ e = ev0 ∧ is = false) ∨ (is = true ∧ e ∈ es ∧ ∀ x ∈ es, x.d ≤ e.d)
/-- package rule is as P11.1 and P11.2 say, of weights that may be -/
structure RuleOk : Prop where
  time : ∀ (E P : Int) (s : Sb) (some : Bool) (at_ : Int) w, MayBe E P → SbFit s → 0 ≤ at_ → at_ ≤ 4611686018427387903 → Calls Try.prog 14 #[.agg #[.int .i64 E, .int .i64 P], .agg #[.int .i64 s.I, .int .i64 s.R, .int .i64 s.D, .int .i64 s.B, .int .i64 s.G], .bool some, .int .i64 at_] w fun z w' => z = .returned (.int .i64 (timeV E P s some at_)) ∧ Below w.heap.size w w'
  wait : ∀ (E P : Int) (s : Sb) (some : Bool) (at_ : Int) w, MayBe E P → SbFit s → 0 ≤ at_ → at_ ≤ 4611686018427387903 → Calls Try.prog 11 #[.agg #[.int .i64 E, .int .i64 P], .agg #[.int .i64 s.I, .int .i64 s.R, .int .i64 s.D, .int .i64 s.B, .int .i64 s.G], .bool some, .int .i64 at_] w fun z w' => z = .returned (.int .i64 (timeV E P s some at_ - at_)) ∧ Below w.heap.size w w'
  free : ∀ (E P : Int) (s : Sb) (some : Bool) (at_ : Int) w, MayBe E P → SbFit s → 0 ≤ at_ → at_ ≤ 4611686018427387903 → Calls Try.prog 13 #[.agg #[.int .i64 E, .int .i64 P], .agg #[.int .i64 s.I, .int .i64 s.R, .int .i64 s.D, .int .i64 s.B, .int .i64 s.G], .bool some, .int .i64 at_] w fun z w' => z = .returned (.bool (decide (timeV E P s some at_ = at_))) ∧ Below w.heap.size w w'
  bound : ∀ (E P : Int) w, MayBe E P → Calls Try.prog 12 #[.agg #[.int .i64 E, .int .i64 P]] w fun z w' => z = .returned (.int .i64 P) ∧ Below w.heap.size w w'
  latest : ∀ (a : Option Addr) (len cap : Nat) (es : List Ev) w, RowV w a len cap es → len ≤ 12 → Calls Try.prog 17 #[.slice a len cap] w fun z w' => ∃ e is, z = .returned (.tuple #[e.v, .bool is]) ∧ Below w.heap.size w w' ∧ LastV es e is

/-- a call that tells just this -/
theorem rtime (ok : RuleOk) {E P : Int} {s : Sb} {some : Bool} {at_ : Int} (w : World) (v : Int) (hM : MayBe E P) (hs : SbFit s) (h0 : 0 ≤ at_) (h1 : at_ ≤ 4611686018427387903) (hv : timeV E P s some at_ = v) : Calls Try.prog 14 #[.agg #[.int .i64 E, .int .i64 P], .agg #[.int .i64 s.I, .int .i64 s.R, .int .i64 s.D, .int .i64 s.B, .int .i64 s.G], .bool some, .int .i64 at_] w fun z w' => z = .returned (.int .i64 v) ∧ Below w.heap.size w w' := hv ▸ ok.time E P s some at_ w hM hs h0 h1
theorem rwait (ok : RuleOk) {E P : Int} {s : Sb} {some : Bool} {at_ : Int} (w : World) (v : Int) (hM : MayBe E P) (hs : SbFit s) (h0 : 0 ≤ at_) (h1 : at_ ≤ 4611686018427387903) (hv : timeV E P s some at_ - at_ = v) : Calls Try.prog 11 #[.agg #[.int .i64 E, .int .i64 P], .agg #[.int .i64 s.I, .int .i64 s.R, .int .i64 s.D, .int .i64 s.B, .int .i64 s.G], .bool some, .int .i64 at_] w fun z w' => z = .returned (.int .i64 v) ∧ Below w.heap.size w w' := hv ▸ ok.wait E P s some at_ w hM hs h0 h1
theorem rfree (ok : RuleOk) {E P : Int} {s : Sb} {some : Bool} {at_ : Int} (w : World) (v : Bool) (hM : MayBe E P) (hs : SbFit s) (h0 : 0 ≤ at_) (h1 : at_ ≤ 4611686018427387903) (hv : decide (timeV E P s some at_ = at_) = v) : Calls Try.prog 13 #[.agg #[.int .i64 E, .int .i64 P], .agg #[.int .i64 s.I, .int .i64 s.R, .int .i64 s.D, .int .i64 s.B, .int .i64 s.G], .bool some, .int .i64 at_] w fun z w' => z = .returned (.bool v) ∧ Below w.heap.size w w' := hv ▸ ok.free E P s some at_ w hM hs h0 h1
theorem ofV_at (E P i O : Int) (w : World) (hM : MayBe E P) (hi : Nth i) (o0 : 0 ≤ O) (o1 : O ≤ 2305843009213693952) (s : Sb) (hs : ofV E P i O = s) :
    Calls Try.prog 10 #[.agg #[.int .i64 E, .int .i64 P], .int .i64 i, .int .i64 O] w fun e w' => e = .returned (.tuple #[.agg #[.int .i64 s.I, .int .i64 s.R, .int .i64 s.D, .int .i64 s.B, .int .i64 s.G], .int .i64 0]) ∧ Below w.heap.size w w' := by
  subst hs
  exact r4of_yes E P i O w hM hi o0 o1 _ rfl

/-! ### what windows are -/
theorem fit_of {E P i : Int} {s : Sb} (hM : MayBe E P) (hi : Nth i) (hs : ofV E P i 0 = s) : SbFit s ∧ s.R = wR E P i ∧ s.D = wD E P i ∧ s.B = wB E P i ∧ s.G = wG E P i ∧ 0 ≤ s.R ∧ s.R ≤ 1152921504606846976 ∧ 1 ≤ s.D ∧ s.D ≤ 1152921504606846976 ∧ s.G ≤ 1152921504607895552 := by
  obtain ⟨r0, r1⟩ := wR_fit hM hi.1 hi.2
  obtain ⟨d0, d1⟩ := wD_fit hM hi.1 hi.2
  have b := wB_bd E P i
  have hG : s.G = wG E P i := by subst hs; show (if wG E P i = 0 then 0 else wG E P i + 0) = _; split <;> omega
  have hR : s.R = wR E P i := by subst hs; show wR E P i + 0 = _; omega
  have hD : s.D = wD E P i := by subst hs; show wD E P i + 0 = _; omega
  have hB : s.B = wB E P i := by subst hs; rfl
  have g : 0 ≤ wG E P i ∧ wG E P i ≤ wD E P i + P := by
    by_cases hh : 2 * E < P
    · rw [group_light hh]; have := hM.1; have := hM.2.1; omega
    · have := group_bd (i := i) hM.1 hM.2.1 hh; omega
  have := hM.2.2
  refine ⟨⟨by omega, by omega, by omega, by omega, by omega, by omega⟩, hR, hD, hB, hG, by omega, by omega, by omega, by omega, by omega⟩
/-- a window's deadline and bit, or its group, are at most P behind its release -/
theorem wait_light {E P i : Int} (hE : 1 ≤ E) (hh : 2 * E < P) : wD E P i + wB E P i - wR E P i ≤ P := by
  have hl := long_bd (P := P) (i := i) (show 0 < E by omega)
  have hb := wB_bd E P i
  by_cases h1 : E = 1
  · subst h1
    have b0 : wB 1 P i = 0 := by unfold wB; rw [if_pos (by omega)]
    have d0 : wD 1 P i = i * P := by unfold wD; have := cdv_exact (n := i * P) (b := 1) (by omega); simpa using this
    have r0 : wR 1 P i = i * P - P := by unfold wR; rw [Int.ediv_one, Int.sub_mul, Int.one_mul]
    omega
  · refine Int.not_lt.mp (fun hn => ?_)
    have h2 : P ≤ wD E P i - wR E P i := by omega
    have h3 : P * E ≤ (wD E P i - wR E P i) * E := Int.mul_le_mul_of_nonneg_right h2 (by omega)
    have h4 : P * 2 ≤ P * E := Int.mul_le_mul_of_nonneg_left (by omega) (by omega)
    omega
theorem wait_heavy {E P i : Int} (hE : 1 ≤ E) (hEP : E ≤ P) (hh : ¬ 2 * E < P) : wG E P i - wR E P i ≤ P := by
  by_cases he : E = P
  · subst he
    rw [group_one (by omega)]
    have := long_one (i := i) (show 0 < E by omega)
    omega
  · have hEP' : E < P := by omega
    have hq : 0 < P - E := by omega
    have hG : wG E P i = cdv (wK E P i * P) (P - E) := by unfold wG; rw [if_neg hh, if_neg he]
    have hP : 0 < P := by omega
    obtain ⟨m, hm⟩ : ∃ m, (wD E P i - 1) * (P - E) / P = m := ⟨_, rfl⟩
    have hK : wK E P i = m + 1 := by unfold wK; rw [hm]
    have hm1 : m * P ≤ (wD E P i - 1) * (P - E) := by rw [← hm]; exact Int.ediv_mul_le _ (by omega)
    rw [hG, hK]
    suffices h : cdv ((m + 1) * P) (P - E) ≤ wR E P i + P by omega
    refine cdv_min hq ?_
    rcases long_heavy (i := i) (show 0 < E by omega) hEP' (by omega) with hl | hl
    all_goals
      by_cases q1 : P - E = 1
      · rw [q1] at hm1 ⊢
        have d := (wD_bd (P := P) (i := i) (show 0 < E by omega)).2
        have h1 : m * P * E ≤ (wD E P i - 1) * E := Int.mul_le_mul_of_nonneg_right (by omega) (by omega)
        have h2 : m * E * P < i * P := by
          have : m * P * E = m * E * P := by rw [Int.mul_assoc, Int.mul_comm P E, ← Int.mul_assoc]
          omega
        have h3 : m * E < i := Int.lt_of_mul_lt_mul_right h2 (by omega)
        have h4 : m * E * P ≤ (i - 1) * P := Int.mul_le_mul_of_nonneg_right (by omega) (by omega)
        have h5 : m * P ≤ wR E P i := by
          unfold wR
          refine (Int.le_ediv_iff_mul_le (by omega)).mpr ?_
          have : m * P * E = m * E * P := by rw [Int.mul_assoc, Int.mul_comm P E, ← Int.mul_assoc]
          omega
        rw [Int.add_mul]
        omega
      · have h1 : (m + 1) * P ≤ (wD E P i - 1) * (P - E) + P := by rw [Int.add_mul]; omega
        have h2 : (wR E P i + P) * (P - E) = (wD E P i - 1) * (P - E) + (wR E P i + P - wD E P i + 1) * (P - E) := by rw [← Int.add_mul]; congr 1; omega
        have h3 : P ≤ (wR E P i + P - wD E P i + 1) * (P - E) := by
          have h4 : (wR E P i + P - wD E P i + 1) * 2 ≤ (wR E P i + P - wD E P i + 1) * (P - E) := Int.mul_le_mul_of_nonneg_left (by omega) (by omega)
          omega
        omega
theorem time_real {E P i : Int} {s : Sb} {at_ : Int} (hM : MayBe E P) (hi : Nth i) (hs : ofV E P i 0 = s) (h : s.R ≤ at_) : at_ ≤ timeV E P s true at_ ∧ timeV E P s true at_ - at_ ≤ P := by
  obtain ⟨_, hR, hD, hB, hG, _⟩ := fit_of hM hi hs
  have hE := hM.1
  have hEP := hM.2.1
  have wb := wB_bd E P i
  unfold timeV
  rw [if_neg (by simp)]
  by_cases hh : 2 * E < P
  · have := wait_light (i := i) hE hh
    rw [if_neg (by omega)]
    split <;> omega
  · have h1 := wait_heavy (i := i) hE hEP hh
    have h2 := (group_bd (i := i) (by omega) hEP hh).1
    rw [if_pos (by omega)]
    split
    · omega
    · split <;> omega
theorem time_behind {E P : Int} {s : Sb} {some : Bool} {at_ : Int} (hs : SbFit s) : at_ ≤ timeV E P s some at_ ∧ (some = true → s.D ≤ timeV E P s some at_) ∧ timeV E P s some (timeV E P s some at_) = timeV E P s some at_ ∧ (some = false → timeV E P s some at_ = at_) := by
  have h1 := hs.b0
  cases some with
  | false => simp [timeV]
  | true =>
    refine ⟨?_, fun _ => ?_, ?_, fun h => by cases h⟩ <;> unfold timeV <;> (repeat' split) <;> first | omega | (simp_all; done) | (exfalso; simp_all; omega)
end Go.Proofs.Ytidfldngiagpdaa
