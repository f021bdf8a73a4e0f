/-
  Plain facts: commands, their fields, what they are written as; what reading tells of any bytes.
-/
import Derived.Test.YtlcagjmppmajeaaSs8
namespace Go.Proofs.Ytlcagjmppmajeaa
open Go.RowKit

structure Cm where
  k : Int
  id : Int
  sv : Int
  n : Int
  co : Int
  e : Int
  p : Int
  early : Bool
  parts : List (Int × Int)
def cm0 (k : Int) : Cm := ⟨k, 0, 0, 0, 0, 0, 0, false, []⟩
def partsN (vs : Nat → Int) (m : Nat) : List (Int × Int) := (List.range m).map fun i => (vs (3 + 2 * i), vs (4 + 2 * i))
/-- the command of a Kind whose fields are these -/
def commandV (k : Int) (vs : Nat → Int) : Cm :=
  if k = 1 then ⟨k, 0, vs 0 - 1, 0, 0, vs 2, vs 3, vs 1 == 1, []⟩
  else if k = 2 ∨ k = 7 then ⟨k, vs 0, 0, 0, 0, 0, 0, false, []⟩
  else if k = 3 then ⟨k, vs 0, 0, 0, 0, vs 1, vs 2, false, []⟩
  else if k = 4 then ⟨k, vs 0, 0, vs 1, 0, 0, 0, false, []⟩
  else if k = 5 then ⟨k, 0, 0, vs 0, 0, 0, 0, false, []⟩
  else if k = 6 then ⟨k, 0, vs 0 - 1, 0, vs 1, 0, 0, false, partsN vs (vs 2).toNat⟩
  else cm0 k
/-- how many fields there are, and how great each is at most -/
def cntC (k : Int) (vs : Nat → Int) : Nat :=
  if k = 1 then 4 else if k = 2 ∨ k = 7 then 1 else if k = 3 then 3 else if k = 4 then 2 else if k = 5 then 1 else if k = 6 then 3 + 2 * (vs 2).toNat else 0
def mostC (k : Int) (i : Nat) : Int := if k = 1 ∧ i = 1 then 1 else if k = 6 ∧ i = 2 then 8 else 1073741824
theorem mostC_le (k : Int) (i : Nat) : mostC k i ≤ 1073741824 := by
  unfold mostC
  split
  · omega
  · split <;> omega
def fieldsV (c : Cm) : List Int :=
  if c.k = 1 then [c.sv + 1, if c.early then 1 else 0, c.e, c.p]
  else if c.k = 2 ∨ c.k = 7 then [c.id]
  else if c.k = 3 then [c.id, c.e, c.p]
  else if c.k = 4 then [c.id, c.n]
  else if c.k = 5 then [c.n]
  else if c.k = 6 then [c.sv + 1, c.co, (c.parts.length : Int)] ++ c.parts.flatMap fun x => [x.1, x.2]
  else []
/-- fields that may be -/
def FitC (k : Int) (vs : Nat → Int) : Prop := ∀ i, i < cntC k vs → 0 ≤ vs i ∧ vs i ≤ mostC k i
structure MayC (c : Cm) : Prop where
  lo : 1 ≤ c.k
  hi : c.k ≤ 7
  fit : ∃ vs, FitC c.k vs ∧ c = commandV c.k vs
theorem range_flat (vs : Nat → Int) : ∀ m, ((List.range m).map fun i => (vs (3 + 2 * i), vs (4 + 2 * i))).flatMap (fun x => [x.1, x.2]) = (List.range (2 * m)).map fun i => vs (3 + i)
  | 0 => rfl
  | m + 1 => by
    rw [List.range_succ, List.map_append, List.flatMap_append, range_flat vs m, show 2 * (m + 1) = 2 * m + 1 + 1 by omega, List.range_succ, List.range_succ]
    simp
    rw [show 3 + (2 * m + 1) = 4 + 2 * m by omega]
theorem command_k (k : Int) (vs : Nat → Int) : (commandV k vs).k = k := by
  unfold commandV cm0
  repeat' split
  all_goals rfl
theorem command_fields {k : Int} {vs : Nat → Int} (h : FitC k vs) : fieldsV (commandV k vs) = (List.range (cntC k vs)).map vs := by
  unfold fieldsV
  rw [command_k]
  unfold FitC at h
  unfold commandV cntC at *
  by_cases h1 : k = 1
  · subst h1
    have h2 := h 1 (by simp)
    unfold mostC at h2
    simp at h2
    simp only [if_true]
    have : vs 1 = 0 ∨ vs 1 = 1 := by omega
    rcases this with q | q <;> simp [List.range_succ, q]
  · by_cases h2 : k = 2 ∨ k = 7
    · rw [if_neg h1, if_pos h2, if_neg h1, if_neg h1, if_pos h2]
      simp [h2, List.range_succ]
    · by_cases h3 : k = 3
      · subst h3; simp [List.range_succ]
      · by_cases h4 : k = 4
        · subst h4; simp [List.range_succ]
        · by_cases h5 : k = 5
          · subst h5; simp [List.range_succ]
          · by_cases h6 : k = 6
            · subst h6
              simp at h
              have g := (h 2 (by omega)).1
              simp [partsN]
              rw [show max (vs 2) 0 = vs 2 by omega]
              have := range_flat vs (vs 2).toNat
              rw [this, show 3 + 2 * (vs 2).toNat = 2 * (vs 2).toNat + 1 + 1 + 1 by omega]
              rw [List.range_succ_eq_map, List.range_succ_eq_map, List.range_succ_eq_map]
              simp [Function.comp_def]
              intro a _
              rw [show 3 + a = a + 1 + 1 + 1 by omega]
            · simp [h1, h2, h3, h4, h5, h6]
def encs (l : List Cm) : List UInt8 := l.flatMap fun c => numI c.k ++ (fieldsV c).flatMap numI
def encC (c : Cm) : List UInt8 := numI c.k ++ (fieldsV c).flatMap numI
theorem encs_snoc (l : List Cm) (c : Cm) : encs (l ++ [c]) = encs l ++ encC c := by unfold encs encC; simp
theorem encs_one (c : Cm) : encs [c] = encC c := by unfold encs encC; simp

/-! ### reading -/
/-- the number that bytes begin with, of at most five, and how many these are -/
def n5 (l : List UInt8) : Nat × Nat := match rdV l with
  | some (n, k) => if k ≤ 5 then (n, k) else (0, 0)
  | none => (0, 0)
theorem n5_is {l : List UInt8} (h : (n5 l).2 ≠ 0) : num (n5 l).1 = l.take (n5 l).2 ∧ (n5 l).2 ≤ l.length ∧ (n5 l).1 < 4398046511104 ∧ 1 ≤ (n5 l).2 := by
  unfold n5 at *
  cases hr : rdV l with
  | none => rw [hr] at h; simp at h
  | some v =>
    obtain ⟨n, k⟩ := v
    rw [hr] at h
    simp only at h ⊢
    split
    · obtain ⟨h1, h2, h3, h4, h5⟩ := rd_some hr
      exact ⟨h4, h3, h5, h1⟩
    · rename_i q
      rw [if_neg q] at h
      simp at h
theorem n5_le (l : List UInt8) : (n5 l).2 ≤ 5 ∧ (n5 l).2 ≤ l.length ∧ (n5 l).1 < 4398046511104 := by
  by_cases h : (n5 l).2 = 0
  · refine ⟨by omega, by omega, ?_⟩
    unfold n5 at *
    cases hr : rdV l with
    | none => simp
    | some v =>
      obtain ⟨n, k⟩ := v
      rw [hr] at h
      simp only at h ⊢
      split
      · exact (rd_some hr).2.2.2.2
      · simp
  · have := n5_is h
    refine ⟨?_, this.2.1, this.2.2.1⟩
    unfold n5 at *
    cases hr : rdV l with
    | none => simp
    | some v =>
      obtain ⟨n, k⟩ := v
      simp only
      split
      · assumption
      · simp
theorem n5_num {n : Nat} (h : n < 34359738368) (t : List UInt8) : n5 (num n ++ t) = (n, (num n).length) := by
  unfold n5
  rw [rd_num (by omega) t]
  simp only
  rw [if_pos (num_short 4 (by omega))]
/-- what is left, and whether all was well -/
abbrev Rd := List UInt8 × Bool
def nx (s : Rd) (most : Int) : Int × Rd := if (n5 s.1).2 = 0 ∨ most < (n5 s.1).1 then (0, ([], false)) else ((n5 s.1).1, (s.1.drop (n5 s.1).2, s.2))
def stR (k : Int) (s : Rd) : Nat → Rd
  | 0 => s
  | i + 1 => (nx (stR k s i) (mostC k i)).2
def vsR (k : Int) (s : Rd) (i : Nat) : Int := (nx (stR k s i) (mostC k i)).1
theorem nx_len (s : Rd) (m : Int) : (nx s m).2.1.length ≤ s.1.length := by
  unfold nx
  split
  · simp
  · simp
theorem stR_len (k : Int) (s : Rd) : ∀ i, (stR k s i).1.length ≤ s.1.length
  | 0 => Nat.le_refl _
  | i + 1 => Nat.le_trans (nx_len _ _) (stR_len k s i)
theorem nx_bd (s : Rd) (m : Int) (hm : 0 ≤ m) : 0 ≤ (nx s m).1 ∧ (nx s m).1 ≤ m := by
  unfold nx
  split
  · exact ⟨Int.le_refl _, hm⟩
  · rename_i h
    exact ⟨by simp only; omega, by simp only; omega⟩
theorem mostC_nn (k : Int) (i : Nat) : 0 ≤ mostC k i := by
  unfold mostC
  split
  · omega
  · split <;> omega
theorem vsR_bd (k : Int) (s : Rd) (i : Nat) : 0 ≤ vsR k s i ∧ vsR k s i ≤ mostC k i := nx_bd _ _ (mostC_nn k i)
theorem nx_ok {s : Rd} {m : Int} (h : (nx s m).2.2 = true) : s.2 = true ∧ s.1 = numI (nx s m).1 ++ (nx s m).2.1 := by
  unfold nx at *
  split at h
  · simp at h
  · rename_i q
    rw [if_neg q]
    refine ⟨h, ?_⟩
    have := (n5_is (l := s.1) (by omega)).1
    simp only [numI, Int.toNat_natCast]
    rw [this, List.take_append_drop]
theorem stR_ok {k : Int} {s : Rd} : ∀ {j : Nat}, (stR k s j).2 = true → s.2 = true ∧ s.1 = ((List.range j).map (vsR k s)).flatMap numI ++ (stR k s j).1
  | 0, h => ⟨h, by simp [stR]⟩
  | j + 1, h => by
    obtain ⟨h1, h2⟩ := nx_ok (s := stR k s j) (m := mostC k j) h
    obtain ⟨h3, h4⟩ := stR_ok h1
    refine ⟨h3, ?_⟩
    rw [List.range_succ, List.map_append, List.flatMap_append]
    rw [h2] at h4
    simpa [stR, vsR] using h4
/-- the first command of bytes, if it is one, and how many bytes it has -/
def firstK (l : List UInt8) : Int × Rd := nx (l, true) 7
def firstS (l : List UInt8) : Rd := stR (firstK l).1 (firstK l).2 (cntC (firstK l).1 (vsR (firstK l).1 (firstK l).2))
def firstV (l : List UInt8) : Option (Cm × Nat) :=
  if (firstS l).2 = true ∧ 1 ≤ (firstK l).1 then some (commandV (firstK l).1 (vsR (firstK l).1 (firstK l).2), l.length - (firstS l).1.length) else none
theorem firstS_len (l : List UInt8) : (firstS l).1.length ≤ l.length := Nat.le_trans (stR_len _ _ _) (nx_len (l, true) 7)
theorem num_pos (n : Nat) : 1 ≤ (num n).length := by
  rw [num]
  split <;> simp
theorem first_is {l : List UInt8} {c : Cm} {m : Nat} (h : firstV l = some (c, m)) : MayC c ∧ encC c = l.take m ∧ 1 ≤ m ∧ m ≤ l.length ∧ l.drop m = (firstS l).1 := by
  unfold firstV at h
  split at h
  · rename_i q
    simp only [Option.some.injEq, Prod.mk.injEq] at h
    obtain ⟨rfl, rfl⟩ := h
    obtain ⟨q1, q2⟩ := q
    have hf : FitC (firstK l).1 (vsR (firstK l).1 (firstK l).2) := fun i _ => vsR_bd _ _ _
    have b7 := nx_bd (l, true) 7 (by omega)
    have hc := command_fields hf
    obtain ⟨h1, h2⟩ := stR_ok q1
    obtain ⟨_, h4⟩ := nx_ok (s := (l, true)) (m := 7) h1
    have h5 : l = encC (commandV (firstK l).1 (vsR (firstK l).1 (firstK l).2)) ++ (firstS l).1 := by
      unfold encC
      rw [hc, command_k, List.append_assoc]
      conv => lhs; rw [show l = numI (firstK l).1 ++ (firstK l).2.1 from h4]
      congr 1
    have hl : l.length = (encC (commandV (firstK l).1 (vsR (firstK l).1 (firstK l).2))).length + (firstS l).1.length := by
      have := congrArg List.length h5
      rwa [List.length_append] at this
    have hp : 1 ≤ (encC (commandV (firstK l).1 (vsR (firstK l).1 (firstK l).2))).length := by
      unfold encC numI
      rw [List.length_append]
      have := num_pos (commandV (firstK l).1 (vsR (firstK l).1 (firstK l).2)).k.toNat
      omega
    generalize encC (commandV (firstK l).1 (vsR (firstK l).1 (firstK l).2)) = E at *
    refine ⟨⟨by rw [command_k]; exact q2, by rw [command_k]; exact b7.2, _, by rw [command_k]; exact hf, by rw [command_k]⟩, ?_, by omega, by omega, ?_⟩
    · rw [show l.length - (firstS l).1.length = E.length by omega]
      conv => rhs; rw [h5]
      simp
    · rw [show l.length - (firstS l).1.length = E.length by omega]
      conv => lhs; rw [h5]
      simp
  · cases h
/-- what is read of bytes, one by one -/
inductive Took (s : List UInt8) : List Cm → Nat → Prop
  | nil : Took s [] 0
  | snoc {pre : List Cm} {at_ m : Nat} {c : Cm} (h : Took s pre at_) (ha : at_ < s.length) (hf : firstV (s.drop at_) = some (c, m)) (hl : pre.length < 4096) : Took s (pre ++ [c]) (at_ + m)
structure TookIs (s : List UInt8) (pre : List Cm) (at_ : Nat) : Prop where
  may : ∀ c ∈ pre, MayC c
  enc : encs pre = s.take at_
  le : at_ ≤ s.length
  few : pre.length ≤ 4096
theorem Took.is {s : List UInt8} {pre : List Cm} {at_ : Nat} (h : Took s pre at_) : TookIs s pre at_ := by
  induction h with
  | nil => exact ⟨by simp, by simp [encs], by omega, by simp⟩
  | snoc h ha hf hl ih =>
    obtain ⟨h1, h2, h3, h4, h5⟩ := first_is hf
    rw [List.length_drop] at h4
    refine ⟨fun c hc => ?_, ?_, by omega, by rw [List.length_append]; simp; omega⟩
    · rcases List.mem_append.mp hc with q | q
      · exact ih.may c q
      · rw [List.mem_singleton] at q
        rw [q]; exact h1
    · rw [encs_snoc, ih.enc, h2, List.take_add]
/-- how reading ends -/
def ReadO (s : List UInt8) (pre : List Cm) (at_ : Nat) (e : Int) : Prop :=
  Took s pre at_ ∧ ((s.length ≤ at_ ∧ e = 0) ∨ (at_ < s.length ∧ pre.length = 4096 ∧ e = 15) ∨ (at_ < s.length ∧ pre.length < 4096 ∧ firstV (s.drop at_) = none ∧ e = 10))
end Go.Proofs.Ytlcagjmppmajeaa
