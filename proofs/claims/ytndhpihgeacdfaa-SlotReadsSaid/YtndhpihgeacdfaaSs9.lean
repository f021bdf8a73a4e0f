/-
  What the document's Read reads, as a plain function; a row's bytes are read as that row.
-/
import Derived.Test.YtndhpihgeacdfaaSs8
namespace Go.Proofs.Ytndhpihgeacdfaa
open Go.RowKit

theorem nextV_bd (l : List UInt8) (p : Nat) (bad : Bool) (most : Int) (h : 0 ≤ most) (hp : p ≤ l.length) : 0 ≤ (nextV l p bad most).1 ∧ (nextV l p bad most).1 ≤ most ∧ (nextV l p bad most).2.1 ≤ l.length := by
  unfold nextV
  split
  · rename_i n k e
    have hr := rd_some e
    rw [List.length_drop] at hr
    split
    · exact ⟨Int.le_refl _, h, hp⟩
    · rename_i q
      simp only
      refine ⟨by omega, ?_, by omega⟩
      rcases Int.lt_or_le most n with g | g
      · exact absurd (.inr g) q
      · exact g
  · exact ⟨Int.le_refl _, h, hp⟩
/-- a run's three numbers -/
def n1 (l : List UInt8) (p : Nat) := nextV l p false 1023
def n2 (l : List UInt8) (p : Nat) := nextV l (n1 l p).2.1 (n1 l p).2.2 1023
def n3 (l : List UInt8) (p : Nat) := nextV l (n2 l p).2.1 (n2 l p).2.2 1099511627776
structure RS where
  runs : List Ru
  core : Int
  p : Nat
  bad : Bool
def stepU (l : List UInt8) (st : RS) : RS := if st.bad = true then st else ⟨st.runs ++ [⟨(n2 l st.p).1, st.core + (n1 l st.p).1, (n3 l st.p).1⟩], st.core + (n1 l st.p).1, (n3 l st.p).2.1, (n3 l st.p).2.2⟩
def itU (l : List UInt8) : RS → Nat → RS
  | st, 0 => st
  | st, k + 1 => itU l (stepU l st) k
theorem itU_succ (l : List UInt8) : ∀ (k : Nat) (st : RS), itU l st (k + 1) = stepU l (itU l st k)
  | 0, _ => rfl
  | k + 1, st => by rw [itU, itU_succ l k (stepU l st)]; rfl
theorem itU_bad (l : List UInt8) {st : RS} {k : Nat} (h : (itU l st k).bad = true) : ∀ j, itU l st (k + j) = itU l st k
  | 0 => rfl
  | j + 1 => by
    rw [← Nat.add_assoc, itU_succ, itU_bad l h j]
    unfold stepU
    rw [if_pos h]
theorem itU_bd (l : List UInt8) : ∀ (k : Nat) (st : RS), st.p ≤ l.length → 0 ≤ st.core → (itU l st k).p ≤ l.length ∧ (itU l st k).runs.length ≤ st.runs.length + k ∧ 0 ≤ (itU l st k).core ∧ (itU l st k).core ≤ st.core + 1023 * k
  | 0, st, h, hc => ⟨h, Nat.le_refl _, hc, by simp [itU]⟩
  | k + 1, st, h, hc => by
    have ih := itU_bd l k st h hc
    rw [itU_succ]
    unfold stepU
    split
    · refine ⟨ih.1, by omega, ih.2.2.1, by omega⟩
    · have a := nextV_bd l (itU l st k).p false 1023 (by omega) ih.1
      have b := nextV_bd l (n1 l (itU l st k).p).2.1 (n1 l (itU l st k).p).2.2 1023 (by omega) a.2.2
      have c := nextV_bd l (n2 l (itU l st k).p).2.1 (n2 l (itU l st k).p).2.2 1099511627776 (by omega) b.2.2
      simp only [List.length_append, List.length_singleton]
      refine ⟨c.2.2, by omega, ?_, ?_⟩
      · have : 0 ≤ (n1 l (itU l st k).p).1 := a.1
        omega
      · have : (n1 l (itU l st k).p).1 ≤ 1023 := a.2.1
        omega
structure KS where
  slots : List Sk
  p : Nat
  bad : Bool
def many (l : List UInt8) (p : Nat) := nextV l p false 1024
def slotU (l : List UInt8) (p : Nat) : RS := itU l ⟨[], 0, (many l p).2.1, (many l p).2.2⟩ (many l p).1.toNat
def stepK (l : List UInt8) (a : Int) (i : Nat) (st : KS) : KS := if st.bad = true then st else ⟨st.slots ++ [⟨a + i, (slotU l st.p).runs⟩], (slotU l st.p).p, (slotU l st.p).bad⟩
def itK (l : List UInt8) (a : Int) : Nat → KS → Nat → KS
  | _, st, 0 => st
  | i, st, k + 1 => itK l a (i + 1) (stepK l a i st) k
theorem itK_succ (l : List UInt8) (a : Int) : ∀ (k i : Nat) (st : KS), itK l a i st (k + 1) = stepK l a (i + k) (itK l a i st k)
  | 0, _, _ => rfl
  | k + 1, i, st => by rw [itK, itK_succ l a k (i + 1) (stepK l a i st), show i + 1 + k = i + (k + 1) by omega]; rfl
theorem itK_bad (l : List UInt8) (a : Int) {st : KS} {i k : Nat} (h : (itK l a i st k).bad = true) : ∀ j, itK l a i st (k + j) = itK l a i st k
  | 0 => rfl
  | j + 1 => by
    rw [← Nat.add_assoc, itK_succ, itK_bad l a h j]
    unfold stepK
    rw [if_pos h]
def headN (l : List UInt8) := nextV l 0 false 4096
def headA (l : List UInt8) := nextV l (headN l).2.1 (headN l).2.2 1099511627776
def readM (l : List UInt8) : KS := itK l (headA l).1 0 ⟨[], (headA l).2.1, (headA l).2.2⟩ (headN l).1.toNat
/-! ### what was written is read -/
theorem next_numI {l pre t : List UInt8} {x : Int} {most : Int} (e : l = pre ++ (numI x ++ t)) (h0 : 0 ≤ x) (h : x < 4398046511104) (hm : x ≤ most) : nextV l pre.length false most = (x, (pre ++ numI x).length, false) := by
  have := next_num (most := most) (n := x.toNat) (by exact e) (by omega) (by omega)
  rw [this, List.length_append]
  unfold numI
  rw [Int.toNat_of_nonneg h0]
theorem runs_read {l : List UInt8} : ∀ (x : List Ru) (c : Int) (R : List Ru) (pre t : List UInt8), GoodU c x → (∀ r ∈ x, r.core ≤ 1023) → l = pre ++ (runsB c x ++ t) →
    itU l ⟨R, c, pre.length, false⟩ x.length = ⟨R ++ x, lastC c x, (pre ++ runsB c x).length, false⟩
  | [], c, R, pre, t, _, _, _ => by simp [itU, lastC, runsB]
  | r :: x, c, R, pre, t, hg, hc, e => by
    have g := hg.2.1 r List.mem_cons_self
    have g0 := hg.1
    have gc := hc r List.mem_cons_self
    rw [runsB] at e
    have a1 : n1 l pre.length = (r.core - c, (pre ++ numI (r.core - c)).length, false) := next_numI (t := numI r.id ++ (numI r.idx ++ (runsB r.core x ++ t))) (by rw [e]; simp) (by omega) (by omega) (by omega)
    have a2 : n2 l pre.length = (r.id, (pre ++ numI (r.core - c) ++ numI r.id).length, false) := by
      unfold n2
      rw [a1]
      exact next_numI (t := numI r.idx ++ (runsB r.core x ++ t)) (by rw [e]; simp) (by omega) (by omega) (by omega)
    have a3 : n3 l pre.length = (r.idx, (pre ++ numI (r.core - c) ++ numI r.id ++ numI r.idx).length, false) := by
      unfold n3
      rw [a2]
      exact next_numI (t := runsB r.core x ++ t) (by rw [e]; simp) (by omega) (by omega) (by omega)
    have st : stepU l ⟨R, c, pre.length, false⟩ = ⟨R ++ [r], r.core, (pre ++ numI (r.core - c) ++ numI r.id ++ numI r.idx).length, false⟩ := by
      unfold stepU
      rw [if_neg (by simp)]
      simp only [a1, a2, a3]
      rw [show c + (r.core - c) = r.core by omega]
    rw [List.length_cons, itU, st, runs_read x r.core (R ++ [r]) (pre ++ numI (r.core - c) ++ numI r.id ++ numI r.idx) t hg.tail (fun y hy => hc y (List.mem_cons_of_mem _ hy)) (by rw [e]; simp)]
    rw [runsB, lastC]
    simp
/-- a slot that may be, as bytes -/
structure GoodS (s : Sk) : Prop where
  runs : GoodU 0 s.runs
  core : ∀ r ∈ s.runs, r.core ≤ 1023
  few : s.runs.length ≤ 1024
theorem slots_read {l : List UInt8} {a : Int} : ∀ (x : List Sk) (i : Nat) (S : List Sk) (pre t : List UInt8), (∀ s ∈ x, GoodS s) → (∀ (j : Nat) (s : Sk), x[j]? = some s → s.tm = a + (i + j : Nat)) → l = pre ++ (slotsB x ++ t) →
    itK l a i ⟨S, pre.length, false⟩ x.length = ⟨S ++ x, (pre ++ slotsB x).length, false⟩
  | [], i, S, pre, t, _, _, _ => by simp [itK, slotsB]
  | s :: x, i, S, pre, t, hg, ht, e => by
    have g := hg s List.mem_cons_self
    have e2 : slotsB (s :: x) = numI s.runs.length ++ (runsB 0 s.runs ++ slotsB x) := by
      unfold slotsB numI
      rw [List.flatMap_cons, slotB, Int.toNat_natCast, List.append_assoc]
    rw [e2] at e
    have gf := g.few
    have m1 : many l pre.length = ((s.runs.length : Int), (pre ++ numI s.runs.length).length, false) := next_numI (t := runsB 0 s.runs ++ (slotsB x ++ t)) (by rw [e]; simp) (by omega) (by omega) (by omega)
    have m2 : slotU l pre.length = ⟨s.runs, lastC 0 s.runs, (pre ++ numI s.runs.length ++ runsB 0 s.runs).length, false⟩ := by
      unfold slotU
      rw [m1]
      simp only [Int.toNat_natCast]
      rw [runs_read s.runs 0 [] (pre ++ numI s.runs.length) (slotsB x ++ t) g.runs g.core (by rw [e]; simp)]
      simp
    have tm := ht 0 s rfl
    have st : stepK l a i ⟨S, pre.length, false⟩ = ⟨S ++ [s], (pre ++ numI s.runs.length ++ runsB 0 s.runs).length, false⟩ := by
      unfold stepK
      rw [if_neg (by simp)]
      simp only [m2]
      rw [show a + (i : Int) = s.tm by rw [tm]; simp]
    rw [List.length_cons, itK, st, slots_read x (i + 1) (S ++ [s]) (pre ++ numI s.runs.length ++ runsB 0 s.runs) t (fun y hy => hg y (List.mem_cons_of_mem _ hy)) (fun j y hy => by rw [ht (j + 1) y (by simpa using hy)]; congr 1; omega) (by rw [e]; simp)]
    rw [e2]
    simp
theorem few_of_cores : ∀ (x : List Ru) (c : Int), (∀ r ∈ x, c ≤ r.core ∧ r.core ≤ 1023) → x.Pairwise (fun a b => a.core < b.core) → (x.length : Int) ≤ 1024 - c ∨ x = []
  | [], _, _, _ => .inr rfl
  | r :: x, c, h, hp => by
    have g := h r List.mem_cons_self
    rw [List.pairwise_cons] at hp
    have ih := few_of_cores x (r.core + 1) (fun y hy => by have := hp.1 y hy; have := (h y (List.mem_cons_of_mem _ hy)).2; omega) hp.2
    left
    rw [List.length_cons]
    rcases ih with q | q
    · omega
    · rw [q]; simp; omega
theorem good_of_may {s : Sk} (h : MayS s 1024) : GoodS s := by
  have e := h.runs.each
  have c := h.runs.cores
  rw [List.take_length] at e c
  refine ⟨⟨Int.le_refl _, fun r hr => by have := e r hr; omega, c⟩, fun r hr => by have := e r hr; omega, ?_⟩
  rcases few_of_cores s.runs 0 (fun r hr => by have := e r hr; omega) c with q | q
  · omega
  · rw [q]; simp
theorem row_tm {x : List Sk} (h : RowTo x 1024 x.length) : ∀ (j : Nat) (s : Sk), x[j]? = some s → s.tm = headAt x + (j : Nat)
  | 0, s, hs => by
    cases x with
    | nil => simp at hs
    | cons y x => simp at hs; rw [← hs]; simp [headAt]
  | j + 1, s, hs => by
    have hl := lt_of_get hs
    have ht : x[j]? = some x[j] := List.getElem?_eq_getElem (by omega)
    have := (h (j + 1) s hl hs).2 x[j] (by omega) (by simp)
    rw [this, row_tm h j x[j] ht]
    omega
/-- a row that may be, of at most 4096 slots, is what its bytes are read as -/
theorem read_bytes {x : List Sk} (h : RowTo x 1024 x.length) (hx : x.length ≤ 4096) : readM (bytesL x) = ⟨x, (bytesL x).length, false⟩ := by
  have hh : 0 ≤ headAt x ∧ headAt x ≤ 1099511627776 := by
    cases x with
    | nil => simp [headAt]
    | cons s x => have := (h 0 s (by simp) rfl).1; exact ⟨this.t0, this.t1⟩
  have e : bytesL x = [] ++ (numI x.length ++ (numI (headAt x) ++ (slotsB x ++ []))) := by unfold bytesL numI; simp
  have a1 : headN (bytesL x) = ((x.length : Int), ([] ++ numI x.length).length, false) := next_numI (pre := []) (t := numI (headAt x) ++ (slotsB x ++ [])) (by rw [e]) (by omega) (by omega) (by omega)
  have a2 : headA (bytesL x) = (headAt x, ([] ++ numI x.length ++ numI (headAt x)).length, false) := by
    unfold headA
    rw [a1]
    exact next_numI (t := slotsB x ++ []) (by rw [e]; simp) (by omega) (by omega) (by omega)
  unfold readM
  rw [a1, a2]
  simp only [Int.toNat_natCast]
  rw [slots_read (a := headAt x) x 0 [] ([] ++ numI x.length ++ numI (headAt x)) [] (fun s hs => by
    obtain ⟨j, hj, e⟩ := List.getElem_of_mem hs
    exact good_of_may (h j s hj (by rw [List.getElem?_eq_getElem hj, e])).1) (fun j s hs => by rw [row_tm h j s hs]; simp) (by rw [e]; simp)]
  rw [e]
  simp
theorem slotU_bd (l : List UInt8) (p : Nat) (h : p ≤ l.length) : (slotU l p).p ≤ l.length ∧ (slotU l p).runs.length ≤ 1024 := by
  have a := nextV_bd l p false 1024 (by omega) h
  have b := itU_bd l (many l p).1.toNat ⟨[], 0, (many l p).2.1, (many l p).2.2⟩ a.2.2 (Int.le_refl _)
  have c : (many l p).1 ≤ 1024 := a.2.1
  unfold slotU
  refine ⟨b.1, ?_⟩
  have := b.2.1
  simp only [List.length_nil] at this
  omega
theorem itK_bd (l : List UInt8) (a : Int) : ∀ (k i : Nat) (st : KS), st.p ≤ l.length → (∀ s ∈ st.slots, s.runs.length ≤ 1024) → (itK l a i st k).p ≤ l.length ∧ (itK l a i st k).slots.length ≤ st.slots.length + k ∧ ∀ s ∈ (itK l a i st k).slots, s.runs.length ≤ 1024
  | 0, i, st, h, hs => ⟨h, Nat.le_refl _, hs⟩
  | k + 1, i, st, h, hs => by
    have ih := itK_bd l a k i st h hs
    rw [itK_succ]
    unfold stepK
    split
    · exact ⟨ih.1, by omega, ih.2.2⟩
    · have b := slotU_bd l _ ih.1
      refine ⟨b.1, by simp only [List.length_append, List.length_singleton]; omega, fun s q => ?_⟩
      rcases List.mem_append.mp q with q | q
      · exact ih.2.2 s q
      · simp at q; rw [q]; exact b.2
theorem headN_bd (l : List UInt8) : 0 ≤ (headN l).1 ∧ (headN l).1 ≤ 4096 ∧ (headN l).2.1 ≤ l.length := nextV_bd l 0 false 4096 (by omega) (by omega)
theorem headA_bd (l : List UInt8) : 0 ≤ (headA l).1 ∧ (headA l).1 ≤ 1099511627776 ∧ (headA l).2.1 ≤ l.length := nextV_bd l _ _ 1099511627776 (by omega) (headN_bd l).2.2
theorem readM_bd (l : List UInt8) : (readM l).slots.length ≤ 4096 ∧ ∀ s ∈ (readM l).slots, s.runs.length ≤ 1024 := by
  have h := itK_bd l (headA l).1 (headN l).1.toNat 0 ⟨[], (headA l).2.1, (headA l).2.2⟩ (headA_bd l).2.2 (by simp)
  have b := (headN_bd l).2.1
  unfold readM
  refine ⟨?_, h.2.2⟩
  have := h.2.1
  simp only [List.length_nil] at this
  omega
theorem readM_small (l : List UInt8) : SmallK (readM l).slots := ⟨(readM_bd l).1, fun s hs => by have := (readM_bd l).2 s hs; omega⟩
theorem readM_nil : (readM []).bad = true := by
  have h : ∀ p bad most, (nextV [] p bad most).2.2 = true := fun p bad most => by
    unfold nextV
    rw [List.drop_nil]
    rfl
  have hz : (headN []).1 = 0 := rfl
  unfold readM
  rw [hz]
  exact h _ _ _
/-- the row that has these bytes -/
noncomputable def readV (l : List UInt8) : Option (List Sk) := open Classical in if h : ∃ x : List Sk, RowTo x 1024 x.length ∧ x.length ≤ 4096 ∧ bytesL x = l then some (Classical.choose h) else none
theorem readV_some {l : List UInt8} {x : List Sk} (h : RowTo x 1024 x.length) (hx : x.length ≤ 4096) (e : bytesL x = l) : readV l = some x := by
  have q : ∃ x : List Sk, RowTo x 1024 x.length ∧ x.length ≤ 4096 ∧ bytesL x = l := ⟨x, h, hx, e⟩
  have c := Classical.choose_spec q
  unfold readV
  rw [dif_pos q]
  obtain ⟨y, hy⟩ : ∃ y, Classical.choose q = y := ⟨_, rfl⟩
  rw [hy] at c ⊢
  have h1 := read_bytes c.1 c.2.1
  rw [c.2.2, ← e, read_bytes h hx] at h1
  simp only [KS.mk.injEq] at h1
  rw [h1.1]
theorem readV_is {l : List UInt8} {x : List Sk} (h : readV l = some x) : RowTo x 1024 x.length ∧ x.length ≤ 4096 ∧ bytesL x = l := by
  unfold readV at h
  split at h
  · rename_i q
    cases h
    exact Classical.choose_spec q
  · cases h
theorem readM_yes {l : List UInt8} (h : (readM l).bad = false) (e : bytesK (readM l).slots = l) : readV l = some (readM l).slots := by
  unfold bytesK at e
  split at e
  · rename_i q
    exact readV_some (rowB_true.mp q) (readM_bd l).1 e
  · rw [← e, readM_nil] at h
    cases h
theorem readM_no {l : List UInt8} (h : (readM l).bad = true ∨ bytesK (readM l).slots ≠ l) : readV l = none := by
  cases hv : readV l with
  | none => rfl
  | some x =>
    obtain ⟨h1, h2, h3⟩ := readV_is hv
    have hr := read_bytes h1 h2
    rw [h3] at hr
    rw [hr] at h
    rcases h with h | h
    · cases h
    · exact absurd (by show bytesK x = l; unfold bytesK; rw [rowB_yes h1]; exact h3) h
end Go.Proofs.Ytndhpihgeacdfaa
