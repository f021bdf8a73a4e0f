/-
  Plain facts on numbers by their digits, the lowest first; no Go in sight.
-/
import Derived.WalkKit
namespace Go.Proofs.Ytenibpnifnlfeaa
open Go.RowKit

def val (B : Int) : List Int → Int
  | [] => 0
  | d :: r => d + B * val B r
def Digs (B : Int) (zs : List Int) : Prop := ∀ z ∈ zs, 0 ≤ z ∧ z < B
def Top (zs : List Int) : Prop := zs.getLast? ≠ some 0
/-- zs is the number n, by digits below B, without noughts at the end -/
def Is (B : Int) (zs : List Int) (n : Int) : Prop := Digs B zs ∧ Top zs ∧ val B zs = n

theorem ipow_pos {B : Int} (h : 0 < B) (n : Nat) : 0 < B ^ n := by
  induction n with
  | zero => simp
  | succ n ih => rw [Int.pow_succ]; exact Int.mul_pos ih h
theorem val_append (B : Int) (x y : List Int) : val B (x ++ y) = val B x + B ^ x.length * val B y := by
  induction x with
  | nil => simp [val]
  | cons d r ih =>
    rw [List.cons_append, val, val, ih, List.length_cons, Int.pow_succ, Int.mul_add, Int.add_assoc, Int.mul_comm (B ^ r.length) B, Int.mul_assoc]
theorem Digs.tail {B d : Int} {r : List Int} (h : Digs B (d :: r)) : Digs B r := fun z hz => h z (List.mem_cons_of_mem _ hz)
theorem Digs.head {B d : Int} {r : List Int} (h : Digs B (d :: r)) : 0 ≤ d ∧ d < B := h d (List.mem_cons_self ..)
theorem Digs.snoc {B d : Int} {r : List Int} (h : Digs B r) (hd : 0 ≤ d ∧ d < B) : Digs B (r ++ [d]) := fun z hz => by
  rw [List.mem_append, List.mem_singleton] at hz
  rcases hz with hz | rfl
  · exact h z hz
  · exact hd
theorem Digs.nil {B : Int} : Digs B [] := fun z hz => by cases hz
theorem Digs.drop {B : Int} {r : List Int} (h : Digs B r) (n : Nat) : Digs B (r.drop n) := fun z hz => h z (List.mem_of_mem_drop hz)
theorem Digs.take {B : Int} {r : List Int} (h : Digs B r) (n : Nat) : Digs B (r.take n) := fun z hz => h z (List.mem_of_mem_take hz)
theorem Digs.getD {B : Int} {r : List Int} (h : Digs B r) (hB : 0 < B) (n : Nat) : 0 ≤ r.getD n 0 ∧ r.getD n 0 < B := by
  by_cases hn : n < r.length
  · rw [List.getD_eq_getElem?_getD, List.getElem?_eq_getElem hn]; exact h _ (List.getElem_mem hn)
  · rw [List.getD_eq_getElem?_getD, List.getElem?_eq_none (by omega)]; exact ⟨by simp, by simpa using hB⟩
theorem val_nonneg {B : Int} (hB : 0 < B) {zs : List Int} (h : Digs B zs) : 0 ≤ val B zs := by
  induction zs with
  | nil => simp [val]
  | cons d r ih =>
    have h1 := ih h.tail
    have h2 := h.head.1
    have := Int.mul_nonneg (Int.le_of_lt hB) h1
    rw [val]; omega
theorem val_lt {B : Int} (hB : 0 < B) {zs : List Int} (h : Digs B zs) : val B zs < B ^ zs.length := by
  induction zs with
  | nil => simp [val]
  | cons d r ih =>
    have h1 := ih h.tail
    have h2 := h.head.2
    have h3 : B * (val B r + 1) ≤ B * B ^ r.length := Int.mul_le_mul_of_nonneg_left (by omega) (by omega)
    rw [val, List.length_cons, Int.pow_succ, Int.mul_comm (B ^ r.length) B]
    rw [Int.mul_add] at h3
    omega
theorem Top.tail {d : Int} {r : List Int} (h : Top (d :: r)) : Top r := by
  cases r with
  | nil => simp [Top]
  | cons x l => simpa [Top, List.getLast?_cons_cons] using h
theorem top_zero {B : Int} (hB : 0 < B) {zs : List Int} (h : Digs B zs) (ht : Top zs) (hv : val B zs = 0) : zs = [] := by
  induction zs with
  | nil => rfl
  | cons d r ih =>
    exfalso
    have h1 := val_nonneg hB h.tail
    have h2 := h.head.1
    rw [val] at hv
    have h3 := Int.mul_nonneg (Int.le_of_lt hB) h1
    have h4 : B * val B r = 0 := by omega
    have h5 : val B r = 0 := by
      rcases Int.mul_eq_zero.mp h4 with h | h
      · omega
      · exact h
    have h6 := ih h.tail ht.tail h5
    subst h6
    apply ht
    simp; omega
theorem digit_unique {B d d' v v' : Int} (h1 : 0 ≤ d) (h2 : d < B) (h3 : 0 ≤ d') (h4 : d' < B) (h : d + B * v = d' + B * v') : d = d' ∧ v = v' := by
  have e1 : (d + B * v) % B = d := by rw [Int.add_mul_emod_self_left, Int.emod_eq_of_lt h1 h2]
  have e2 : (d' + B * v') % B = d' := by rw [Int.add_mul_emod_self_left, Int.emod_eq_of_lt h3 h4]
  have e3 : d = d' := by rw [← e1, ← e2, h]
  refine ⟨e3, ?_⟩
  subst e3
  exact Int.eq_of_mul_eq_mul_left (show B ≠ 0 by omega) (by omega)
theorem is_unique {B : Int} (hB : 0 < B) : ∀ {zs zs' : List Int} {n : Int}, Is B zs n → Is B zs' n → zs = zs'
  | [], zs', n, h, h' => by
    have : n = 0 := h.2.2.symm
    subst this
    exact (top_zero hB h'.1 h'.2.1 h'.2.2).symm
  | d :: r, [], n, h, h' => by
    have : n = 0 := h'.2.2.symm
    subst this
    exact top_zero hB h.1 h.2.1 h.2.2
  | d :: r, d' :: r', n, h, h' => by
    have e : d + B * val B r = d' + B * val B r' := h.2.2.trans h'.2.2.symm
    have u := digit_unique h.1.head.1 h.1.head.2 h'.1.head.1 h'.1.head.2 e
    have := is_unique hB (zs := r) (zs' := r') (n := val B r) ⟨h.1.tail, h.2.1.tail, rfl⟩ ⟨h'.1.tail, h'.2.1.tail, u.2.symm⟩
    rw [u.1, this]
theorem is_nil {B : Int} : Is B [] 0 := ⟨Digs.nil, by simp [Top], rfl⟩
theorem Is.nonneg {B n : Int} {zs : List Int} (hB : 0 < B) (h : Is B zs n) : 0 ≤ n := by rw [← h.2.2]; exact val_nonneg hB h.1
theorem ipow_le {B : Int} (hB : 1 ≤ B) {m n : Nat} (h : m ≤ n) : B ^ m ≤ B ^ n := by
  induction h with
  | refl => exact Int.le_refl _
  | step _ ih =>
    rename_i k _
    rw [Int.pow_succ]
    have h1 := ipow_pos (show 0 < B by omega) k
    have := Int.mul_le_mul_of_nonneg_left hB (Int.le_of_lt h1)
    omega
theorem Is.pow_le {B : Int} (hB : 0 < B) : ∀ {zs : List Int} {n : Int}, Is B zs n → zs ≠ [] → B ^ (zs.length - 1) ≤ n
  | [], _, _, h => absurd rfl h
  | [d], n, h, _ => by
    have h1 := h.1.head
    have h2 := h.2.1
    have h3 := h.2.2
    simp [Top] at h2
    simp [val] at h3
    simp; omega
  | d :: x :: l, n, h, _ => by
    have ih := Is.pow_le hB (zs := x :: l) (n := val B (x :: l)) ⟨h.1.tail, h.2.1.tail, rfl⟩ (by simp)
    have h1 := h.1.head.1
    have h3 := h.2.2
    rw [val] at h3
    have h4 := Int.mul_le_mul_of_nonneg_left ih (Int.le_of_lt hB)
    have e : B ^ ((d :: x :: l).length - 1) = B * B ^ ((x :: l).length - 1) := by
      simp only [List.length_cons, Nat.add_sub_cancel]
      rw [Int.pow_succ, Int.mul_comm]
    rw [e]; omega
/-- a number below B ^ L has at most L digits -/
theorem Is.len_le {B : Int} (hB : 1 < B) {zs : List Int} {n : Int} {L : Nat} (h : Is B zs n) (hn : n < B ^ L) : zs.length ≤ L := by
  by_cases e : zs = []
  · subst e; simp
  · have h1 := Is.pow_le (by omega) h e
    by_cases g : zs.length ≤ L
    · exact g
    · exfalso
      have := ipow_le (B := B) (by omega) (show L ≤ zs.length - 1 by omega)
      omega
theorem take_snoc {ms : List Int} {t : Nat} (h : t < ms.length) : ms.take (t + 1) = ms.take t ++ [ms.getD t 0] := by
  rw [List.take_succ_eq_append_getElem h, List.getD_eq_getElem?_getD, List.getElem?_eq_getElem h]; rfl
theorem drop_at {zs : List Int} {k : Nat} (h : k < zs.length) : zs.drop k = zs.getD k 0 :: zs.drop (k + 1) := by
  rw [List.drop_eq_getElem_cons h, List.getD_eq_getElem?_getD, List.getElem?_eq_getElem h]; rfl
theorem val_drop (B : Int) (zs : List Int) (k : Nat) : val B (zs.drop k) = zs.getD k 0 + B * val B (zs.drop (k + 1)) := by
  by_cases h : k < zs.length
  · rw [drop_at h, val]
  · rw [List.drop_eq_nil_of_le (by omega), List.drop_eq_nil_of_le (by omega), List.getD_eq_getElem?_getD, List.getElem?_eq_none (by omega)]
    simp [val]
theorem val_snoc_zero (B : Int) (zs : List Int) : val B (zs ++ [0]) = val B zs := by rw [val_append]; simp [val]
end Go.Proofs.Ytenibpnifnlfeaa
