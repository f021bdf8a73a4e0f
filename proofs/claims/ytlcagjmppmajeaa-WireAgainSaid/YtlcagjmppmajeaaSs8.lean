/-
  Plain facts on numbers as bytes: what is written is read; rows that are written the same are the same.
-/
import Derived.Test.YtlcagjmppmajeaaSs6
namespace Go.Proofs.Ytlcagjmppmajeaa
open Go.RowKit

theorem bt_nat {d : Int} (h0 : 0 ≤ d) (h1 : d < 256) : (bt d).toNat = d.toNat := by
  have := bt_toNat h0 h1
  omega
theorem num_shape : ∀ n : Nat, ∃ x b, num n = x ++ [b] ∧ b.toNat < 128 ∧ ∀ c ∈ x, 128 ≤ c.toNat := by
  intro n
  induction n using Nat.strongRecOn with
  | _ n ih =>
    rw [num]
    by_cases h : n < 128
    · rw [if_pos h]
      exact ⟨[], _, rfl, by rw [bt_nat (by omega) (by omega)]; omega, by simp⟩
    · rw [if_neg h]
      obtain ⟨x, b, e, hb, hx⟩ := ih (n / 128) (by omega)
      refine ⟨bt ((n % 128 : Nat) + 128 : Int) :: x, b, by rw [e]; rfl, hb, fun c hc => ?_⟩
      rcases List.mem_cons.mp hc with q | q
      · rw [q, bt_nat (by omega) (by omega)]; omega
      · exact hx c q
theorem val_num : ∀ n : Nat, valN (num n) = n := by
  intro n
  induction n using Nat.strongRecOn with
  | _ n ih =>
    rw [num]
    by_cases h : n < 128
    · rw [if_pos h, valN, valN, bt_nat (by omega) (by omega)]; omega
    · rw [if_neg h, valN, ih (n / 128) (by omega), bt_nat (by omega) (by omega)]; omega
theorem rd_num {n : Nat} (h : n < 4398046511104) (t : List UInt8) : rdV (num n ++ t) = some (n, (num n).length) := by
  obtain ⟨x, b, e, hb, hx⟩ := num_shape n
  have hl : (num n).length ≤ 6 := num_short 5 (by omega)
  rw [e, List.length_append, List.length_singleton] at hl
  have e1 : (num n ++ t).take (x.length + 1) = num n := by
    rw [e, List.take_append_of_le_length (by simp), List.take_of_length_le (by simp)]
  have e2 := rd_stop (l := num n ++ t) (j := x.length) (b := b) (by omega) (by rw [e]; simp) hb (fun q hq c hc => by
    rw [e, List.append_assoc, List.getElem?_append_left hq] at hc
    exact hx c (List.mem_of_getElem? hc))
  rw [e2, e1, val_num, if_pos rfl, e]
  simp
/-- what stands next is read -/
theorem next_num {l pre t : List UInt8} {n : Nat} {most : Int} (e : l = pre ++ (num n ++ t)) (h : n < 4398046511104) (hm : (n : Int) ≤ most) : nextV l pre.length false most = ((n : Int), pre.length + (num n).length, false) := by
  unfold nextV
  rw [e, List.drop_left, rd_num h]
  simp only
  rw [if_neg]
  rintro (q | q)
  · cases q
  · omega
theorem num_inj {a b : Nat} {s t : List UInt8} (ha : a < 4398046511104) (hb : b < 4398046511104) (e : num a ++ s = num b ++ t) : a = b ∧ s = t := by
  have h := rd_num ha s
  rw [e, rd_num hb t] at h
  simp at h
  obtain ⟨rfl, _⟩ := h
  exact ⟨rfl, List.append_cancel_left e⟩
theorem numI_inj {a b : Int} {s t : List UInt8} (ha : 0 ≤ a ∧ a < 4398046511104) (hb : 0 ≤ b ∧ b < 4398046511104) (e : numI a ++ s = numI b ++ t) : a = b ∧ s = t := by
  have h := num_inj (a := a.toNat) (b := b.toNat) (by omega) (by omega) e
  exact ⟨by omega, h.2⟩
/-- runs that may be, as bytes -/
def GoodU (c : Int) (rs : List Ru) : Prop := 0 ≤ c ∧ (∀ r ∈ rs, c ≤ r.core ∧ r.core ≤ 1024 ∧ 0 ≤ r.id ∧ r.id ≤ 1023 ∧ 0 ≤ r.idx ∧ r.idx ≤ 1099511627776) ∧ rs.Pairwise fun a b => a.core < b.core
theorem GoodU.tail {c : Int} {r : Ru} {rs : List Ru} (h : GoodU c (r :: rs)) : GoodU r.core rs := by
  obtain ⟨h0, h1, h2⟩ := h
  rw [List.pairwise_cons] at h2
  have := h1 r List.mem_cons_self
  exact ⟨by omega, fun x hx => by have := h2.1 x hx; have := h1 x (List.mem_cons_of_mem _ hx); omega, h2.2⟩
theorem runs_inj : ∀ (x y : List Ru) (c : Int) (s t : List UInt8), GoodU c x → GoodU c y → x.length = y.length → runsB c x ++ s = runsB c y ++ t → x = y ∧ s = t
  | [], [], _, _, _, _, _, _, e => ⟨rfl, e⟩
  | [], _ :: _, _, _, _, _, _, hl, _ => by simp at hl
  | _ :: _, [], _, _, _, _, _, hl, _ => by simp at hl
  | a :: x, b :: y, c, s, t, hx, hy, hl, e => by
    have ga := hx.2.1 a List.mem_cons_self
    have gb := hy.2.1 b List.mem_cons_self
    have g0 := hx.1
    rw [runsB, runsB, List.append_assoc, List.append_assoc, List.append_assoc, List.append_assoc, List.append_assoc, List.append_assoc] at e
    obtain ⟨e1, e⟩ := numI_inj (by omega) (by omega) e
    obtain ⟨e2, e⟩ := numI_inj (by omega) (by omega) e
    obtain ⟨e3, e⟩ := numI_inj (by omega) (by omega) e
    have ec : a.core = b.core := by omega
    rw [ec] at e
    obtain ⟨e4, e5⟩ := runs_inj x y b.core s t (ec ▸ hx.tail) hy.tail (by simpa using hl) e
    refine ⟨?_, e5⟩
    rw [e4]
    obtain ⟨a1, a2, a3⟩ := a
    obtain ⟨b1, b2, b3⟩ := b
    simp at e2 e3 ec
    rw [e2, e3, ec]
end Go.Proofs.Ytlcagjmppmajeaa
