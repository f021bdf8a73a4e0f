/-
  The reader's number at a place; plain facts: what is read, and not bad, are those bytes.
-/
import Derived.Test.YtndhpihgeacdfaaSw7
import Derived.Test.YtndhpihgeacdfaaSs9
import Derived.Test.YtndhpihgeacdfaaSt0
namespace Go.Proofs.Ytndhpihgeacdfaa
open Go.RowKit

/-- the next number of the bytes l, from p on -/
def NumP (l : List UInt8) (p : Nat) (most : Int) (g : Nat) (w : World) (e : Ending) (w' : World) : Prop :=
  ((nextV l p false most).2.2 = false ∧ e = .returned (.int .i64 (nextV l p false most).1) ∧ Blk w' 53 g #[.string (BS (l.drop (nextV l p false most).2.1))] ∧ Keeps (fun k => k = g) w w') ∨
  ((nextV l p false most).2.2 = true ∧ e = PE ∧ Keeps (fun k => k = g) w w')
theorem BS_data (l : List UInt8) : (BS l).data.toList = l := by unfold BS; simp
theorem pnum_at (l : List UInt8) (p : Nat) (most : Int) (g : Nat) (w : World) (hs : l.length ≤ 1000000000) (h : Blk w 53 g #[.string (BS (l.drop p))]) :
    Calls Try.prog 35 #[.pointer (some ⟨g, 0, none⟩), .int .i64 most] w (NumP l p most g w) := by
  refine (pnumber_any (BS (l.drop p)) most g w (by rw [BS_size, List.length_drop]; omega) h).mono ?_
  rw [BS_data]
  rintro e w' (⟨n, k, hr, hn, rfl, hx, hk⟩ | ⟨hr, rfl, hk⟩)
  · have e : nextV l p false most = ((n : Int), p + k, false) := by
      unfold nextV
      rw [hr]
      simp only
      rw [if_neg]
      rintro (q | q)
      · cases q
      · omega
    left
    rw [e]
    refine ⟨rfl, rfl, ?_, hk⟩
    rw [List.drop_drop] at hx
    exact hx
  · have e : nextV l p false most = (0, p, true) := by
      unfold nextV
      cases hv : rdV (l.drop p) with
      | none => rfl
      | some v =>
        obtain ⟨n, k⟩ := v
        simp only
        rw [if_pos (.inr (hr n k hv))]
    right
    rw [e]
    exact ⟨rfl, rfl, hk⟩
theorem next_bad (l : List UInt8) (p : Nat) (most : Int) : nextV l p true most = (0, p, true) := by
  unfold nextV
  split
  · rw [if_pos (.inl rfl)]
  · rfl
/-- what is read is taken off the bytes -/
theorem next_took {l : List UInt8} {p p2 : Nat} {b : Bool} {most x : Int} (h : nextV l p b most = (x, p2, false)) : b = false ∧ 0 ≤ x ∧ x ≤ most ∧ l.drop p = numI x ++ l.drop p2 ∧ p ≤ p2 := by
  unfold nextV at h
  cases hv : rdV (l.drop p) with
  | none => rw [hv] at h; simp at h
  | some v =>
    obtain ⟨n, k⟩ := v
    rw [hv] at h
    simp only at h
    split at h
    · simp at h
    · rename_i q
      simp only [Prod.mk.injEq] at h
      obtain ⟨rfl, rfl, -⟩ := h
      have hr := rd_some hv
      refine ⟨by cases b <;> simp_all, by omega, by rcases Int.lt_or_le most n with g | g; exact absurd (.inr g) q; exact g, ?_, by omega⟩
      unfold numI
      rw [Int.toNat_natCast, hr.2.2.2.1, ← List.drop_drop, List.take_append_drop]
theorem runs_took {l : List UInt8} : ∀ (k : Nat) (R : List Ru) (c : Int) (p : Nat) (b : Bool) (st : RS), itU l ⟨R, c, p, b⟩ k = st → st.bad = false →
    b = false ∧ ∃ X : List Ru, st.runs = R ++ X ∧ X.length = k ∧ l.drop p = runsB c X ++ l.drop st.p
  | 0, R, c, p, b, st, h, hb => by
    rw [itU] at h
    subst h
    exact ⟨hb, [], by simp, rfl, by simp [runsB]⟩
  | k + 1, R, c, p, b, st, h, hb => by
    rw [itU] at h
    have hbf : b = false := by
      cases b with
      | false => rfl
      | true =>
        exfalso
        have e : stepU l ⟨R, c, p, true⟩ = ⟨R, c, p, true⟩ := by unfold stepU; rw [if_pos rfl]
        rw [e] at h
        exact absurd (runs_took k R c p true st h hb).1 (by simp)
    subst hbf
    obtain ⟨x1, p1, b1, h1⟩ : ∃ x1 p1 b1, n1 l p = (x1, p1, b1) := ⟨_, _, _, rfl⟩
    obtain ⟨x2, p2, b2, h2⟩ : ∃ x2 p2 b2, n2 l p = (x2, p2, b2) := ⟨_, _, _, rfl⟩
    obtain ⟨x3, p3, b3, h3⟩ : ∃ x3 p3 b3, n3 l p = (x3, p3, b3) := ⟨_, _, _, rfl⟩
    have e : stepU l ⟨R, c, p, false⟩ = ⟨R ++ [⟨x2, c + x1, x3⟩], c + x1, p3, b3⟩ := by
      unfold stepU
      rw [if_neg (by simp)]
      simp only [h1, h2, h3]
    rw [e] at h
    obtain ⟨hb3, X, hX, hl, hd⟩ := runs_took k _ _ _ _ st h hb
    subst hb3
    have g3 : nextV l p2 b2 1099511627776 = (x3, p3, false) := by have := h3; unfold n3 at this; rw [h2] at this; exact this
    obtain ⟨hb2, _, _, d3, _⟩ := next_took g3
    subst hb2
    have g2 : nextV l p1 b1 1023 = (x2, p2, false) := by have := h2; unfold n2 at this; rw [h1] at this; exact this
    obtain ⟨hb1, _, _, d2, _⟩ := next_took g2
    subst hb1
    have g1 : nextV l p false 1023 = (x1, p1, false) := h1
    obtain ⟨_, _, _, d1, _⟩ := next_took g1
    refine ⟨rfl, ⟨x2, c + x1, x3⟩ :: X, by rw [hX]; simp, by rw [List.length_cons, hl], ?_⟩
    rw [d1, d2, d3, hd]
    simp only [runsB]
    rw [show c + x1 - c = x1 by omega]
    simp
theorem slots_took {l : List UInt8} {a : Int} : ∀ (k i : Nat) (S : List Sk) (p : Nat) (b : Bool) (st : KS), itK l a i ⟨S, p, b⟩ k = st → st.bad = false →
    b = false ∧ ∃ X : List Sk, st.slots = S ++ X ∧ X.length = k ∧ l.drop p = slotsB X ++ l.drop st.p ∧ (∀ (s : Sk), X[0]? = some s → s.tm = a + i)
  | 0, i, S, p, b, st, h, hb => by
    rw [itK] at h
    subst h
    exact ⟨hb, [], by simp, rfl, by simp [slotsB], by simp⟩
  | k + 1, i, S, p, b, st, h, hb => by
    rw [itK] at h
    have hbf : b = false := by
      cases b with
      | false => rfl
      | true =>
        exfalso
        have e : stepK l a i ⟨S, p, true⟩ = ⟨S, p, true⟩ := by unfold stepK; rw [if_pos rfl]
        rw [e] at h
        exact absurd (slots_took k (i + 1) S p true st h hb).1 (by simp)
    subst hbf
    have e : stepK l a i ⟨S, p, false⟩ = ⟨S ++ [⟨a + i, (slotU l p).runs⟩], (slotU l p).p, (slotU l p).bad⟩ := by
      unfold stepK
      rw [if_neg (by simp)]
    rw [e] at h
    obtain ⟨hb3, X, hX, hl, hd, _⟩ := slots_took k _ _ _ _ st h hb
    obtain ⟨x1, p1, b1, h1⟩ : ∃ x1 p1 b1, many l p = (x1, p1, b1) := ⟨_, _, _, rfl⟩
    have hs : slotU l p = itU l ⟨[], 0, p1, b1⟩ x1.toNat := by unfold slotU; rw [h1]
    obtain ⟨hb1, U, hU, hn, hd1⟩ := runs_took _ _ _ _ _ _ hs.symm hb3
    subst hb1
    have g1 : nextV l p false 1024 = (x1, p1, false) := h1
    obtain ⟨_, z0, _, d1, _⟩ := next_took g1
    refine ⟨rfl, ⟨a + i, (slotU l p).runs⟩ :: X, by rw [hX]; simp, by rw [List.length_cons, hl], ?_, fun s hs => by simp at hs; rw [← hs]⟩
    have hr : (slotU l p).runs = U := by rw [hU]; simp
    rw [d1, hd1, hd]
    unfold slotsB
    rw [List.flatMap_cons, slotB]
    simp only [hr]
    rw [show num U.length = numI x1 by unfold numI; rw [← hn]]
    simp
/-- read to the end, a row that may be: these are its bytes -/
theorem read_is {l : List UInt8} (h : (readM l).bad = false) (hp : (readM l).p = l.length) (hr : rowB (readM l).slots 1024 = true) (hz : (headN l).1 = 0 → (headA l).1 = 0) : readV l = some (readM l).slots := by
  refine readM_yes h ?_
  obtain ⟨x1, p1, b1, h1⟩ : ∃ x1 p1 b1, headN l = (x1, p1, b1) := ⟨_, _, _, rfl⟩
  obtain ⟨x2, p2, b2, h2⟩ : ∃ x2 p2 b2, headA l = (x2, p2, b2) := ⟨_, _, _, rfl⟩
  have hs : itK l x2 0 ⟨[], p2, b2⟩ x1.toNat = readM l := by unfold readM; rw [h2, h1]
  obtain ⟨hb2, X, hX, hn, hd, h0⟩ := slots_took _ _ _ _ _ _ hs h
  subst hb2
  have g2 : nextV l p1 b1 1099511627776 = (x2, p2, false) := by have := h2; unfold headA at this; rw [h1] at this; exact this
  obtain ⟨hb1, _, _, d2, _⟩ := next_took g2
  subst hb1
  have g1 : nextV l 0 false 4096 = (x1, p1, false) := h1
  obtain ⟨_, z0, _, d1, _⟩ := next_took g1
  have hX' : (readM l).slots = X := by rw [hX]; simp
  unfold bytesK
  rw [hr, if_pos rfl, hX']
  have d0 : l = numI x1 ++ (numI x2 ++ (slotsB X ++ l.drop l.length)) := by
    have := d1
    rw [List.drop_zero, d2, hd, hp] at this
    exact this
  rw [List.drop_length] at d0
  have ha : headAt X = x2 := by
    cases X with
    | nil =>
      have : x1 = 0 := by simp at hn; omega
      rw [h1, h2] at hz
      exact (hz this).symm
    | cons s X => have := h0 s rfl; simp at this; exact this
  have hl : num X.length = numI x1 := by unfold numI; rw [← hn]
  unfold bytesL
  rw [ha, hl]
  conv => rhs; rw [d0]
  simp
/-- .. and nothing else is a row's -/
theorem read_not {l : List UInt8} {x : List Sk} (h : readV l = some x) : (readM l).bad = false ∧ (readM l).p = l.length ∧ rowB (readM l).slots 1024 = true ∧ ((headN l).1 = 0 → (headA l).1 = 0) := by
  obtain ⟨h1, h2, h3⟩ := readV_is h
  have hr := read_bytes h1 h2
  rw [h3] at hr
  rw [hr]
  refine ⟨rfl, rfl, rowB_yes h1, fun hz => ?_⟩
  have e1 : headN l = ((x.length : Int), ([] ++ numI x.length).length, false) := next_numI (pre := []) (t := numI (headAt x) ++ slotsB x) (by rw [← h3]; unfold bytesL numI; simp) (by omega) (by omega) (by omega)
  have e2 : headA l = (headAt x, ([] ++ numI x.length ++ numI (headAt x)).length, false) := by
    have hh : 0 ≤ headAt x ∧ headAt x ≤ 1099511627776 := by
      cases x with
      | nil => simp [headAt]
      | cons s x => have := (h1 0 s (by simp) rfl).1; exact ⟨this.t0, this.t1⟩
    unfold headA
    rw [e1]
    exact next_numI (t := slotsB x) (by rw [← h3]; unfold bytesL numI; simp) (by omega) (by omega) (by omega)
  rw [e1] at hz
  have hz2 : (x.length : Int) = 0 := hz
  rw [e2]
  show headAt x = 0
  have hx : x = [] := List.length_eq_zero_iff.mp (by omega)
  rw [hx]
  rfl
theorem read_none {l : List UInt8} (h : ¬ ((readM l).bad = false ∧ (readM l).p = l.length ∧ rowB (readM l).slots 1024 = true ∧ ((headN l).1 = 0 → (headA l).1 = 0))) : readV l = none := by
  cases hv : readV l with
  | none => rfl
  | some x => exact absurd (read_not hv) h
end Go.Proofs.Ytndhpihgeacdfaa
