/-
  Plain facts on what numbers have in common, on digits of a quotient and on least ratios; no Go in sight.
  Plain facts: a guess by the digits ahead; least ratios; no Go in sight.
  What the lengths of numbers by bits give back: contracts.
  What a number of two words divided by one gives back: contract.
-/
import Derived.Test.YtphlkpkbdnddlaaNatP
import Derived.Test.YtphlkpkbdnddlaaNatC
import Derived.Lib.BitFns
import Derived.Lib.ItoaNum
import Derived.Laws.MathBits
import Derived.Outline
namespace Go.Proofs.Ytphlkpkbdnddlaa
open Go.RowKit

/-! ### what is common -/
def gc (a b : Int) : Int := (Int.gcd a b : Int)
theorem gc_nat (x y : Nat) : gc (x : Int) (y : Int) = ((Nat.gcd x y : Nat) : Int) := rfl
theorem gc_step {a b : Int} (ha : 0 ≤ a) (hb : 0 ≤ b) : gc b (a % b) = gc a b := by
  obtain ⟨x, rfl⟩ := Int.eq_ofNat_of_zero_le ha
  obtain ⟨y, rfl⟩ := Int.eq_ofNat_of_zero_le hb
  have e : ((x : Int) % (y : Int)) = ((x % y : Nat) : Int) := by omega
  rw [e, gc_nat, gc_nat, Nat.gcd_comm x y, Nat.gcd_rec y x, Nat.gcd_comm]
theorem gc_zero {a : Int} (ha : 0 ≤ a) : gc a 0 = a := by
  obtain ⟨x, rfl⟩ := Int.eq_ofNat_of_zero_le ha
  show ((Nat.gcd x 0 : Nat) : Int) = _
  rw [Nat.gcd_zero_right]
theorem gc_pos {a b : Int} (hb : 0 < b) : 1 ≤ gc a b := by
  have h : 0 < Int.gcd a b := Int.gcd_pos_of_ne_zero_right a (by omega)
  unfold gc; omega
theorem gc_pos' {a b : Int} (ha : 0 < a) : 1 ≤ gc a b := by
  have h : 0 < Int.gcd a b := Int.gcd_pos_of_ne_zero_left b (by omega)
  unfold gc; omega
theorem gc_dvd {a b : Int} : gc a b ∣ a := Int.gcd_dvd_left a b
theorem gc_dvd' {a b : Int} : gc a b ∣ b := Int.gcd_dvd_right a b
theorem gc_le {a b : Int} (hb : 0 < b) : gc a b ≤ b := Int.le_of_dvd hb gc_dvd'

/-! ### a digit of a quotient -/
/-- the part of a number by y -/
theorem part_is {n q y : Int} (hy : 0 < y) (h1 : n / y ≤ q) (h2 : q * y ≤ n) : q = n / y := by
  have := Int.le_ediv_of_mul_le hy h2
  omega
theorem dg_start {y u c h l : Int} (hy : y = h * 4294967296 + l) (hh : 0 < h) (l0 : 0 ≤ l) (u0 : 0 ≤ u) (c1 : c < 4294967296) : (u * 4294967296 + c) / y ≤ u / h := by
  have e := Int.mul_ediv_add_emod u h
  have r1 := Int.emod_lt_of_pos u hh
  have q0 : 0 ≤ u / h := Int.ediv_nonneg u0 (by omega)
  have hy0 : 0 < y := by omega
  have k : (u * 4294967296 + c) / y < u / h + 1 := by
    refine Int.ediv_lt_of_lt_mul hy0 ?_
    subst hy
    have a1 : (u / h + 1) * (h * 4294967296 + l) = (h * (u / h)) * 4294967296 + h * 4294967296 + (u / h + 1) * l := by grind
    have a2 : 0 ≤ (u / h + 1) * l := Int.mul_nonneg (by omega) l0
    rw [a1]
    omega
  omega
theorem dg_lt {y u c : Int} (u1 : u < y) (hy : 0 < y) (c1 : c < 4294967296) : (u * 4294967296 + c) / y < 4294967296 := by
  refine Int.ediv_lt_of_lt_mul hy ?_
  omega
theorem dg_more {y u c h l q r : Int} (hy : y = h * 4294967296 + l) (y0 : 0 < y) (hq : q * h + r = u) (ht : r * 4294967296 + c < q * l) : (u * 4294967296 + c) / y < q := by
  refine Int.ediv_lt_of_lt_mul y0 ?_
  subst hy
  have a1 : q * (h * 4294967296 + l) = (q * h) * 4294967296 + q * l := by grind
  rw [a1]
  omega
theorem dg_stop {y u c h l q r : Int} (hy : y = h * 4294967296 + l) (y0 : 0 < y) (hq : q * h + r = u) (ht : q * l ≤ r * 4294967296 + c) (hQ : (u * 4294967296 + c) / y ≤ q) : q = (u * 4294967296 + c) / y := by
  refine part_is y0 hQ ?_
  subst hy
  have a1 : q * (h * 4294967296 + l) = (q * h) * 4294967296 + q * l := by grind
  rw [a1]
  omega
theorem dg_small {y u h l q r : Int} (hy : y = h * 4294967296 + l) (l1 : l < 4294967296) (h0 : 0 < h) (u1 : u < y) (hq : q * h + r = u) (hr : 4294967296 ≤ r) : q < 4294967296 := by
  have k : q * h < 4294967296 * h := by omega
  exact Int.lt_of_mul_lt_mul_right k (by omega)
theorem dg_prod {q l : Int} (q0 : 0 ≤ q) (q1 : q < 4294967296) (l0 : 0 ≤ l) (l1 : l < 4294967296) : 0 ≤ q * l ∧ q * l < 18446744073709551616 ∧ q * l ≤ 4294967295 * 4294967295 := by
  have a := Int.mul_nonneg q0 l0
  have b : q * l ≤ 4294967295 * l := Int.mul_le_mul_of_nonneg_right (by omega) l0
  omega
theorem dg_two {hi l1 l0 y : Int} (q1 : Int) (y0 : 0 < y) :
    (hi * 18446744073709551616 + (l1 * 4294967296 + l0)) / y = q1 * 4294967296 + ((hi * 4294967296 + l1 - q1 * y) * 4294967296 + l0) / y := by
  have e : hi * 18446744073709551616 + (l1 * 4294967296 + l0) = ((hi * 4294967296 + l1 - q1 * y) * 4294967296 + l0) + (q1 * 4294967296) * y := by grind
  rw [e, Int.add_mul_ediv_right _ _ (by omega)]
  omega

/-! ### the digits ahead, shifted up -/
theorem half_part {z e S T : Int} (hS : 0 < S) (hT : 0 < T) (e0 : 0 ≤ e) (e1 : e < S) : (z * S + e) / (T * S) = z / T := by
  have h1 := Int.mul_ediv_add_emod z T
  have h2 := Int.emod_nonneg z (show T ≠ 0 by omega)
  have h3 := Int.emod_lt_of_pos z hT
  have k : z * S + e = ((z % T) * S + e) + (z / T) * (T * S) := by
    have : z * S = (T * (z / T) + z % T) * S := by rw [h1]
    rw [this]; grind
  have a1 : 0 ≤ (z % T) * S := Int.mul_nonneg h2 (by omega)
  have a2 : (z % T) * S ≤ (T - 1) * S := Int.mul_le_mul_of_nonneg_right (by omega) (by omega)
  have a3 : (T - 1) * S = T * S - S := by grind
  rw [k, Int.add_mul_ediv_right _ _ (by have := Int.mul_pos hT hS; omega), Int.ediv_eq_zero_of_lt (by omega) (by omega)]
  omega
/-- what of the lower digits comes up -/
theorem low_up {B S T : Int} (hB : B = T * S) (hS : 0 < S) (hT : 0 < T) (ds : List Int) (hd : Digs B ds) : val B ds * S / B ^ ds.length = ds.getD (ds.length - 1) 0 / T := by
  have B0 : 0 < B := by rw [hB]; exact Int.mul_pos hT hS
  rcases List.eq_nil_or_concat ds with rfl | ⟨l, z, rfl⟩
  · simp [val]
  · rw [List.concat_eq_append] at hd ⊢
    have hz := hd z (by simp)
    have hl : Digs B l := fun x hx => hd x (by simp [hx])
    have v0 := val_nonneg B0 hl
    have v1 := val_lt B0 hl
    have p0 := ipow_pos B0 l.length
    have g : (l ++ [z]).getD ((l ++ [z]).length - 1) 0 = z := by simp
    have X : val B (l ++ [z]) * S = val B l * S + (z * S) * B ^ l.length := by
      rw [val_append]; simp only [val]; grind
    rw [g, List.length_append, List.length_singleton, Int.pow_succ, ← Int.ediv_ediv_of_nonneg (by omega), X, Int.add_mul_ediv_right _ _ (by omega), Int.add_comm]
    have e0 : 0 ≤ val B l * S / B ^ l.length := Int.ediv_nonneg (Int.mul_nonneg v0 (by omega)) (by omega)
    have e1 : val B l * S / B ^ l.length < S := Int.ediv_lt_of_lt_mul p0 (by rw [Int.mul_comm S]; exact Int.mul_lt_mul_of_pos_right v1 hS)
    rw [show (z * S + val B l * S / B ^ l.length) / B = (z * S + val B l * S / B ^ l.length) / (T * S) by rw [← hB]]
    exact half_part hS hT e0 e1
/-- a digit of the number times S -/
def hd (S T : Int) (zs : List Int) (i : Nat) : Int := (zs.getD i 0 * S) % 4294967296 + (if i = 0 then 0 else zs.getD (i - 1) 0 / T)
end Go.Proofs.Ytphlkpkbdnddlaa
namespace Go.Proofs.Ytphlkpkbdnddlaa
open Go.RowKit

theorem val_three {B : Int} (zs : List Int) (k : Nat) : val B (zs.drop k) = zs.getD k 0 + B * (zs.getD (k + 1) 0 + B * (zs.getD (k + 2) 0 + B * val B (zs.drop (k + 3)))) := by
  rw [val_drop B zs k, val_drop B zs (k + 1), val_drop B zs (k + 2)]
theorem vsplit_at (B : Int) (zs : List Int) (k : Nat) (hk : k ≤ zs.length) : val B zs = val B (zs.take k) + B ^ k * val B (zs.drop k) := by
  conv => lhs; rw [← List.take_append_drop k zs, val_append]
  rw [List.length_take, Nat.min_eq_left hk]
/-- the digits ahead of a number that is shifted up by S -/
theorem ahead {S T : Int} (hB : 4294967296 = T * S) (hS : 0 < S) (hT : 0 < T) (zs : List Int) (hz : Digs 4294967296 zs) (k : Nat) (hk : k ≤ zs.length) :
    val 4294967296 zs * S / 4294967296 ^ k = hd S T zs k + 4294967296 * (hd S T zs (k + 1) + 4294967296 * (hd S T zs (k + 2) + 4294967296 * (zs.getD (k + 2) 0 / T + S * val 4294967296 (zs.drop (k + 3))))) := by
  have p0 := ipow_pos (B := 4294967296) (by omega) k
  have lw := low_up hB hS hT (zs.take k) (hz.take k)
  rw [List.length_take, Nat.min_eq_left hk] at lw
  have e1 : val 4294967296 zs * S = val 4294967296 (zs.take k) * S + (val 4294967296 (zs.drop k) * S) * 4294967296 ^ k := by
    rw [vsplit_at 4294967296 zs k hk]; grind
  have lo : (zs.take k).getD (k - 1) 0 / T = (if k = 0 then 0 else zs.getD (k - 1) 0 / T) := by
    by_cases h : k = 0
    · subst h; simp
    · rw [if_neg h, List.getD_eq_getElem?_getD, List.getElem?_take_of_lt (by omega), ← List.getD_eq_getElem?_getD]
  rw [lo] at lw
  rw [e1, Int.add_mul_ediv_right _ _ (by omega), lw, val_three zs k]
  have sp : ∀ z : Int, z * S = (z * S) % 4294967296 + 4294967296 * (z / T) := fun z => by
    have h1 := Int.mul_ediv_add_emod (z * S) 4294967296
    have h2 := half_part (z := z) (e := 0) hS hT (by omega) hS
    rw [Int.add_zero, ← hB] at h2
    rw [h2] at h1
    omega
  have s0 := sp (zs.getD k 0)
  have s1 := sp (zs.getD (k + 1) 0)
  have s2 := sp (zs.getD (k + 2) 0)
  unfold hd
  rw [if_neg (show ¬ k + 1 = 0 by omega), if_neg (show ¬ k + 2 = 0 by omega), show k + 1 - 1 = k by omega, show k + 2 - 1 = k + 1 by omega]
  generalize zs.getD k 0 = a at *
  generalize zs.getD (k + 1) 0 = b at *
  generalize zs.getD (k + 2) 0 = c at *
  generalize val 4294967296 (zs.drop (k + 3)) = v
  generalize (if k = 0 then 0 else zs.getD (k - 1) 0 / T) = f
  have e2 : (a + 4294967296 * (b + 4294967296 * (c + 4294967296 * v))) * S = a * S + 4294967296 * (b * S + 4294967296 * (c * S + 4294967296 * (S * v))) := by grind
  rw [e2]
  generalize a * S = A at *
  generalize b * S = Bq at *
  generalize c * S = C at *
  generalize S * v = V at *
  omega
theorem hd_out {S T : Int} (zs : List Int) (i : Nat) (h : zs.length < i) : hd S T zs i = 0 := by
  unfold hd
  rw [List.getD_eq_getElem?_getD, List.getElem?_eq_none (by omega), List.getD_eq_getElem?_getD, List.getElem?_eq_none (by omega)]
  simp
theorem ahead_any {S T : Int} (hB : 4294967296 = T * S) (hS : 0 < S) (hT : 0 < T) (zs : List Int) (hz : Digs 4294967296 zs) (k : Nat) :
    val 4294967296 zs * S / 4294967296 ^ k = hd S T zs k + 4294967296 * (hd S T zs (k + 1) + 4294967296 * (hd S T zs (k + 2) + 4294967296 * (zs.getD (k + 2) 0 / T + S * val 4294967296 (zs.drop (k + 3))))) := by
  rcases Nat.lt_or_ge zs.length k with g | g
  · rw [hd_out zs k g, hd_out zs (k + 1) (by omega), hd_out zs (k + 2) (by omega), List.drop_eq_nil_of_le (by omega), List.getD_eq_getElem?_getD, List.getElem?_eq_none (by omega)]
    have v0 := val_nonneg (show (0 : Int) < 4294967296 by omega) hz
    have v1 := val_lt (show (0 : Int) < 4294967296 by omega) hz
    have h1 : val 4294967296 zs * S < 4294967296 ^ k := by
      have a1 : val 4294967296 zs * S < 4294967296 ^ zs.length * S := Int.mul_lt_mul_of_pos_right v1 hS
      have sT : S ≤ T * S := by
        have := Int.mul_le_mul_of_nonneg_right (show 1 ≤ T by omega) (show 0 ≤ S by omega)
        omega
      have a2 : 4294967296 ^ zs.length * S ≤ 4294967296 ^ zs.length * 4294967296 := Int.mul_le_mul_of_nonneg_left (by omega) (Int.le_of_lt (ipow_pos (by omega) _))
      have a3 := ipow_le (B := 4294967296) (by omega) (show zs.length + 1 ≤ k by omega)
      rw [Int.pow_succ] at a3
      omega
    rw [Int.ediv_eq_zero_of_lt (Int.mul_nonneg v0 (by omega)) h1]
    simp [val]
  · exact ahead hB hS hT zs hz k g
theorem hd_bd {S T : Int} (hB : 4294967296 = T * S) (hS : 0 < S) (hT : 0 < T) (zs : List Int) (hz : Digs 4294967296 zs) (i : Nat) : 0 ≤ hd S T zs i ∧ hd S T zs i < 4294967296 := by
  have z0 := hz.getD (by omega) i
  have y0 := hz.getD (by omega) (i - 1)
  -- the lower part of the product is a multiple of S
  have m0 := Int.emod_nonneg (zs.getD i 0 * S) (show (4294967296 : Int) ≠ 0 by omega)
  have m1 := Int.emod_lt_of_pos (zs.getD i 0 * S) (show (0 : Int) < 4294967296 by omega)
  have q0 : 0 ≤ (if i = 0 then 0 else zs.getD (i - 1) 0 / T) := by split; omega; exact Int.ediv_nonneg y0.1 (by omega)
  have q1 : (if i = 0 then 0 else zs.getD (i - 1) 0 / T) ≤ S - 1 := by
    split
    · omega
    · have : zs.getD (i - 1) 0 / T < S := Int.ediv_lt_of_lt_mul hT (by rw [Int.mul_comm, ← hB]; exact y0.2)
      omega
  have d1 : S ∣ (zs.getD i 0 * S) % 4294967296 := by
    refine ⟨zs.getD i 0 - T * (zs.getD i 0 * S / 4294967296), ?_⟩
    have h1 := Int.emod_def (zs.getD i 0 * S) 4294967296
    have h2 : 4294967296 * (zs.getD i 0 * S / 4294967296) = (T * S) * (zs.getD i 0 * S / 4294967296) := by rw [← hB]
    rw [h1, h2]; grind
  obtain ⟨c, hc⟩ := d1
  have c1 : c < T := by
    have : S * c < S * T := by rw [← hc, Int.mul_comm S T, ← hB]; exact m1
    exact Int.lt_of_mul_lt_mul_left this (by omega)
  have c2 : S * c ≤ S * (T - 1) := Int.mul_le_mul_of_nonneg_left (by omega) (by omega)
  have c3 : S * (T - 1) = 4294967296 - S := by rw [hB]; grind
  unfold hd
  omega
/-- a guess by the digits ahead is the part, or one more -/
theorem guess_is {A a b X Ah a' Bh b' : Int} (X0 : 0 < X) (hA : A = Ah * X + a') (a0 : 0 ≤ a') (a1 : a' < X) (hb : b = Bh * X + b') (b0 : 0 ≤ b') (b1 : b' < X) (hB : 4294967296 ≤ Bh) (A0 : 0 ≤ A) (A1 : A < b * 4294967296) (ha : a = A / b) :
    a ≤ Ah / Bh ∧ Ah / Bh ≤ a + 1 := by
  have Bx : 4294967296 * X ≤ Bh * X := Int.mul_le_mul_of_nonneg_right hB (by omega)
  have bp : 0 < b := by omega
  have Bp : 0 < Bh := by omega
  have Ah0 : 0 ≤ Ah := by
    rcases Int.lt_or_le Ah 0 with h | h
    · exfalso
      have : Ah * X ≤ (-1) * X := Int.mul_le_mul_of_nonneg_right (by omega) (by omega)
      omega
    · exact h
  have q0 : 0 ≤ Ah / Bh := Int.ediv_nonneg Ah0 (by omega)
  have e1 := Int.mul_ediv_add_emod Ah Bh
  have e2 := Int.emod_nonneg Ah (show Bh ≠ 0 by omega)
  have e3 := Int.emod_lt_of_pos Ah Bp
  constructor
  · -- not too small
    subst ha
    have : A / b < Ah / Bh + 1 := by
      refine Int.ediv_lt_of_lt_mul bp ?_
      have k1 : Ah * X < (Bh * (Ah / Bh + 1)) * X := Int.mul_lt_mul_of_pos_right (by rw [Int.mul_add]; omega) X0
      have k2 : (Ah + 1) * X ≤ (Bh * (Ah / Bh + 1)) * X := Int.mul_le_mul_of_nonneg_right (by rw [Int.mul_add]; omega) (by omega)
      have k3 : (Ah / Bh + 1) * b = (Bh * (Ah / Bh + 1)) * X + (Ah / Bh + 1) * b' := by rw [hb]; grind
      have k4 : 0 ≤ (Ah / Bh + 1) * b' := Int.mul_nonneg (by omega) b0
      have k5 : (Ah + 1) * X = Ah * X + X := by grind
      rw [k3]; omega
    omega
  · -- not too great
    have qW : Ah / Bh ≤ 4294967296 := by
      have k1 : Ah * X < (Bh * 4294967296 + 4294967296) * X := by
        have : b * 4294967296 < (Bh * 4294967296 + 4294967296) * X := by
          have : (Bh * 4294967296 + 4294967296) * X = (Bh * X) * 4294967296 + X * 4294967296 := by grind
          rw [this]; omega
        omega
      have k2 : Ah < Bh * 4294967296 + 4294967296 := Int.lt_of_mul_lt_mul_right k1 (by omega)
      have k3 : Ah / Bh < 4294967296 + 1 := Int.ediv_lt_of_lt_mul Bp (by omega)
      omega
    have k1 : (Ah / Bh) * b = (Bh * (Ah / Bh)) * X + (Ah / Bh) * b' := by rw [hb]; grind
    have k2 : (Bh * (Ah / Bh)) * X ≤ Ah * X := Int.mul_le_mul_of_nonneg_right (by omega) (by omega)
    have k3 : (Ah / Bh) * b' ≤ 4294967296 * b' := Int.mul_le_mul_of_nonneg_right qW b0
    have k4 : (Ah / Bh - 1) * b ≤ A := by
      rw [Int.sub_mul, k1]; omega
    have k5 := Int.le_ediv_of_mul_le bp k4
    omega

theorem guess_fact {za zb : List Int} {m n S T : Int} {tp : Nat} (hB : 4294967296 = T * S) (hS : 0 < S) (hT : 0 < T) (ia : Is 4294967296 za m) (ib : Is 4294967296 zb n) (lb : zb.length = tp + 1) (t1 : 1 ≤ tp)
    (x0 : 2147483648 ≤ zb.getD tp 0 * S) (x1 : zb.getD tp 0 < T) (hmn : m < n * 4294967296) :
    2147483648 ≤ hd S T zb tp ∧ m / n ≤ (hd S T za (tp + 1) * 18446744073709551616 + (hd S T za tp * 4294967296 + hd S T za (tp - 1))) / (hd S T zb tp * 4294967296 + hd S T zb (tp - 1)) ∧
      (hd S T za (tp + 1) * 18446744073709551616 + (hd S T za tp * 4294967296 + hd S T za (tp - 1))) / (hd S T zb tp * 4294967296 + hd S T zb (tp - 1)) ≤ m / n + 1 := by
  obtain ⟨k, rfl⟩ : ∃ k, tp = k + 1 := ⟨tp - 1, by omega⟩
  rw [show k + 1 - 1 = k by omega, show k + 1 + 1 = k + 2 by omega]
  have p0 := ipow_pos (B := 4294967296) (by omega) k
  have hb := ahead_any hB hS hT zb ib.1 k
  have ha := ahead_any hB hS hT za ia.1 k
  have b0 := hd_bd hB hS hT zb ib.1 k
  have b1 := hd_bd hB hS hT zb ib.1 (k + 1)
  have a0 := hd_bd hB hS hT za ia.1 k
  have a1 := hd_bd hB hS hT za ia.1 (k + 1)
  have a2 := hd_bd hB hS hT za ia.1 (k + 2)
  have z0 := ib.1.getD (show (0 : Int) < 4294967296 by omega) (k + 1)
  have e1 : hd S T zb (k + 2) = 0 := by
    unfold hd
    rw [if_neg (by omega), show k + 2 - 1 = k + 1 by omega, List.getD_eq_getElem?_getD, List.getElem?_eq_none (by omega), Int.ediv_eq_zero_of_lt z0.1 x1]
    simp
  rw [e1, List.drop_eq_nil_of_le (show zb.length ≤ k + 3 by omega), show zb.getD (k + 2) 0 / T = 0 by rw [List.getD_eq_getElem?_getD, List.getElem?_eq_none (by omega)]; simp] at hb
  simp only [val, Int.mul_zero, Int.add_zero] at hb
  have xW : zb.getD (k + 1) 0 * S < 4294967296 := by rw [hB]; exact Int.mul_lt_mul_of_pos_right x1 hS
  have b2 : 2147483648 ≤ hd S T zb (k + 1) := by
    unfold hd
    rw [Int.emod_eq_of_lt (by omega) xW, if_neg (by omega)]
    have := Int.ediv_nonneg (ib.1.getD (show (0 : Int) < 4294967296 by omega) (k + 1 - 1)).1 (show 0 ≤ T by omega)
    omega
  rw [ia.2.2] at ha
  rw [ib.2.2] at hb
  have m0 := ia.nonneg (by omega)
  have n0 := ib.nonneg (by omega)
  have y0 := ia.1.getD (show (0 : Int) < 4294967296 by omega) (k + 2)
  have v0 := val_nonneg (show (0 : Int) < 4294967296 by omega) (ia.1.drop (k + 3))
  have u0 : 0 ≤ za.getD (k + 2) 0 / T := Int.ediv_nonneg y0.1 (by omega)
  have u1 : 0 ≤ S * val 4294967296 (za.drop (k + 3)) := Int.mul_nonneg (by omega) v0
  -- the number's own digits end there
  have nS : n * S < 4294967296 ^ (k + 2) := by
    have h1 := Int.lt_ediv_add_one_mul_self (n * S) p0
    rw [hb] at h1
    have h2 : (hd S T zb k + 4294967296 * hd S T zb (k + 1) + 1) * 4294967296 ^ k ≤ (4294967296 * 4294967296) * 4294967296 ^ k := Int.mul_le_mul_of_nonneg_right (by omega) (by omega)
    have h3 : (4294967296 : Int) ^ (k + 2) = (4294967296 * 4294967296) * 4294967296 ^ k := by rw [Int.pow_succ, Int.pow_succ]; grind
    omega
  have mS : m * S < 4294967296 ^ (k + 3) := by
    have h1 : m * S < (n * 4294967296) * S := Int.mul_lt_mul_of_pos_right hmn hS
    have h2 : (n * 4294967296) * S = n * S * 4294967296 := by grind
    rw [Int.pow_succ]
    omega
  have top : m * S / 4294967296 ^ k < 79228162514264337593543950336 := by
    refine Int.ediv_lt_of_lt_mul p0 ?_
    have h3 : (4294967296 : Int) ^ (k + 3) = 79228162514264337593543950336 * 4294967296 ^ k := by rw [Int.pow_succ, Int.pow_succ, Int.pow_succ]; grind
    omega
  have z : za.getD (k + 2) 0 / T + S * val 4294967296 (za.drop (k + 3)) = 0 := by omega
  rw [z] at ha
  have hA : m * S / 4294967296 ^ k = hd S T za (k + 2) * 18446744073709551616 + (hd S T za (k + 1) * 4294967296 + hd S T za k) := by omega
  have hBq : n * S / 4294967296 ^ k = hd S T zb (k + 1) * 4294967296 + hd S T zb k := by omega
  refine ⟨b2, ?_⟩
  rw [← hA, ← hBq]
  have q1 := Int.mul_ediv_add_emod (m * S) (4294967296 ^ k)
  have q2 := Int.mul_ediv_add_emod (n * S) (4294967296 ^ k)
  rw [Int.mul_comm (4294967296 ^ k)] at q1 q2
  refine guess_is (A := m * S) (b := n * S) (X := 4294967296 ^ k) (a' := m * S % 4294967296 ^ k) (b' := n * S % 4294967296 ^ k) p0 q1.symm (Int.emod_nonneg _ (by omega)) (Int.emod_lt_of_pos _ p0) q2.symm (Int.emod_nonneg _ (by omega)) (Int.emod_lt_of_pos _ p0) (by rw [hBq]; omega) (Int.mul_nonneg m0 (by omega)) ?_ ?_
  · have h1 : m * S < (n * 4294967296) * S := Int.mul_lt_mul_of_pos_right hmn hS
    have h2 : (n * 4294967296) * S = n * S * 4294967296 := by grind
    omega
  · rw [Int.mul_ediv_mul_of_pos_left _ _ hS]

/-! ### least ratios -/
def Lo (n d : Int) : Prop := 0 ≤ n ∧ 0 < d ∧ gc n d = 1
theorem lo_nat {x y : Nat} (hy : 0 < y) (h : Nat.gcd x y = 1) : Lo (x : Int) (y : Int) := ⟨by omega, by omega, by rw [gc_nat, h]; rfl⟩
theorem Lo.nat {n d : Int} (h : Lo n d) : ∃ x y : Nat, n = x ∧ d = y ∧ 0 < y ∧ Nat.gcd x y = 1 := by
  obtain ⟨h1, h2, h3⟩ := h
  obtain ⟨x, rfl⟩ := Int.eq_ofNat_of_zero_le h1
  obtain ⟨y, rfl⟩ := Int.eq_ofNat_of_zero_le (show 0 ≤ d by omega)
  rw [gc_nat] at h3
  exact ⟨x, y, rfl, rfl, by omega, by omega⟩
theorem lo_unique {n d n' d' : Int} (h : Lo n d) (h' : Lo n' d') (e : n * d' = n' * d) : n = n' ∧ d = d' := by
  obtain ⟨x, y, rfl, rfl, y0, g⟩ := h.nat
  obtain ⟨x', y', rfl, rfl, y0', g'⟩ := h'.nat
  have e' : x * y' = x' * y := by exact_mod_cast e
  have d1 : y ∣ y' := (Nat.Coprime.symm g).dvd_of_dvd_mul_left (e' ▸ Nat.dvd_mul_left y x')
  have d2 : y' ∣ y := (Nat.Coprime.symm g').dvd_of_dvd_mul_left (e' ▸ Nat.dvd_mul_left y' x)
  have := Nat.dvd_antisymm d1 d2
  subst this
  have := Nat.eq_of_mul_eq_mul_right y0 e'
  exact ⟨by rw [this], rfl⟩
theorem lo_least {n d : Int} (hn : 0 ≤ n) (hd : 0 < d) : Lo (n / gc n d) (d / gc n d) ∧ (n / gc n d) * d = n * (d / gc n d) := by
  obtain ⟨x, rfl⟩ := Int.eq_ofNat_of_zero_le hn
  obtain ⟨y, rfl⟩ := Int.eq_ofNat_of_zero_le (show 0 ≤ d by omega)
  have y0 : 0 < y := by omega
  have g0 : 0 < Nat.gcd x y := Nat.gcd_pos_of_pos_right x y0
  rw [gc_nat, ← Int.natCast_ediv, ← Int.natCast_ediv]
  obtain ⟨a, ha⟩ := Nat.gcd_dvd_left x y
  obtain ⟨b, hb⟩ := Nat.gcd_dvd_right x y
  have e1 : x / Nat.gcd x y = a := Nat.div_eq_of_eq_mul_right g0 ha
  have e2 : y / Nat.gcd x y = b := Nat.div_eq_of_eq_mul_right g0 hb
  refine ⟨lo_nat (Nat.div_pos (Nat.le_of_dvd y0 (Nat.gcd_dvd_right x y)) g0) (Nat.gcd_div_gcd_div_gcd_of_pos_right y0), ?_⟩
  rw [e1, e2]
  generalize Nat.gcd x y = g at *
  subst ha hb
  have : a * (g * b) = g * a * b := by grind
  exact_mod_cast this
theorem cop_any {t a b g : Nat} (ha : Nat.Coprime t a) (hb : Nat.Coprime t b) (g0 : 0 < g) : Nat.Coprime (t / Nat.gcd t g) (a * (g * b / Nat.gcd t g)) := by
  have p0 : 0 < Nat.gcd t g := Nat.gcd_pos_of_pos_right t g0
  have c := Nat.gcd_div_gcd_div_gcd_of_pos_right (n := t) g0
  obtain ⟨x, hx⟩ := Nat.gcd_dvd_left t g
  obtain ⟨y, hy⟩ := Nat.gcd_dvd_right t g
  have e1 : t / Nat.gcd t g = x := Nat.div_eq_of_eq_mul_right p0 hx
  have e2 : g / Nat.gcd t g = y := Nat.div_eq_of_eq_mul_right p0 hy
  have e3 : g * b / Nat.gcd t g = y * b := Nat.div_eq_of_eq_mul_right p0 (by rw [← Nat.mul_assoc, ← hy])
  rw [e1, e2] at c
  rw [e1, e3]
  have dx : x ∣ t := ⟨Nat.gcd t g, by rw [Nat.mul_comm]; exact hx⟩
  exact Nat.Coprime.mul_right (Nat.Coprime.coprime_dvd_left dx ha) (Nat.Coprime.mul_right c (Nat.Coprime.coprime_dvd_left dx hb))
theorem cop_add {t k a : Nat} : Nat.Coprime (t + k * a) a ↔ Nat.Coprime t a := by
  unfold Nat.Coprime
  rw [Nat.gcd_add_mul_right_left]
theorem cop_sum {x1 x2 a b t : Nat} (h1 : Nat.Coprime x1 a) (h2 : Nat.Coprime x2 b) (hab : Nat.Coprime a b) (ht : t = x1 * b + x2 * a ∨ t + x2 * a = x1 * b) : Nat.Coprime t a ∧ Nat.Coprime t b := by
  have k1 : Nat.Coprime (x1 * b) a := Nat.Coprime.mul_left h1 hab.symm
  have k2 : Nat.Coprime (x2 * a) b := Nat.Coprime.mul_left h2 hab
  rcases ht with rfl | ht
  · exact ⟨cop_add.mpr k1, by rw [Nat.add_comm]; exact cop_add.mpr k2⟩
  · constructor
    · rw [← ht] at k1; exact cop_add.mp k1
    · have : Nat.gcd t b ∣ 1 := by
        rw [← k2]
        have d1 : Nat.gcd t b ∣ x1 * b := Nat.dvd_trans (Nat.gcd_dvd_right t b) (Nat.dvd_mul_left b x1)
        rw [← ht] at d1
        exact Nat.dvd_gcd ((Nat.dvd_add_iff_right (Nat.gcd_dvd_left t b)).mpr d1) (Nat.gcd_dvd_right t b)
      exact Nat.dvd_one.mp this
/-- two least ratios to one Den, their sum or what is left at its least -/
theorem lo_sum {n1 d1 n2 d2 t : Int} (h1 : Lo n1 d1) (h2 : Lo n2 d2) (t0 : 0 ≤ t) (ht : t = n1 * (d2 / gc d1 d2) + n2 * (d1 / gc d1 d2) ∨ t + n2 * (d1 / gc d1 d2) = n1 * (d2 / gc d1 d2)) :
    Lo (t / gc t (gc d1 d2)) (d1 / gc d1 d2 * (d2 / gc t (gc d1 d2))) ∧ t / gc t (gc d1 d2) * (d1 * d2) = t * gc d1 d2 * (d1 / gc d1 d2 * (d2 / gc t (gc d1 d2))) := by
  obtain ⟨x1, y1, rfl, rfl, p1, g1⟩ := h1.nat
  obtain ⟨x2, y2, rfl, rfl, p2, g2⟩ := h2.nat
  obtain ⟨s, rfl⟩ := Int.eq_ofNat_of_zero_le t0
  rw [gc_nat] at ht ⊢
  have g0 : 0 < Nat.gcd y1 y2 := Nat.gcd_pos_of_pos_right y1 p2
  have cab := Nat.gcd_div_gcd_div_gcd_of_pos_right (n := y1) p2
  obtain ⟨a, ha⟩ := Nat.gcd_dvd_left y1 y2
  obtain ⟨b, hb⟩ := Nat.gcd_dvd_right y1 y2
  have e1 : y1 / Nat.gcd y1 y2 = a := Nat.div_eq_of_eq_mul_right g0 ha
  have e2 : y2 / Nat.gcd y1 y2 = b := Nat.div_eq_of_eq_mul_right g0 hb
  rw [e1, e2] at cab
  rw [gc_nat]
  rw [← Int.natCast_ediv, ← Int.natCast_ediv, ← Int.natCast_ediv, e1]
  rw [← Int.natCast_ediv, ← Int.natCast_ediv, e1, e2] at ht
  generalize Nat.gcd y1 y2 = g at *
  have ht' : s = x1 * b + x2 * a ∨ s + x2 * a = x1 * b := by
    rcases ht with h | h
    · exact .inl (by exact_mod_cast h)
    · exact .inr (by exact_mod_cast h)
  subst ha hb
  have ca : Nat.Coprime x1 a := Nat.Coprime.coprime_dvd_right ⟨g, Nat.mul_comm _ _⟩ g1
  have cb : Nat.Coprime x2 b := Nat.Coprime.coprime_dvd_right ⟨g, Nat.mul_comm _ _⟩ g2
  obtain ⟨k1, k2⟩ := cop_sum ca cb cab ht'
  have co := cop_any k1 k2 g0
  have q0 : 0 < Nat.gcd s g := Nat.gcd_pos_of_pos_right s g0
  obtain ⟨x, hx⟩ := Nat.gcd_dvd_left s g
  obtain ⟨y, hy⟩ := Nat.gcd_dvd_right s g
  have f1 : s / Nat.gcd s g = x := Nat.div_eq_of_eq_mul_right q0 hx
  have f3 : g * b / Nat.gcd s g = y * b := by
    refine Nat.div_eq_of_eq_mul_right q0 ?_
    rw [← Nat.mul_assoc, ← hy]
  rw [f1, f3] at co
  have pos : 0 < a * (y * b) := by
    rcases Nat.eq_zero_or_pos (a * (y * b)) with h | h
    · exfalso
      rcases Nat.mul_eq_zero.mp h with h | h
      · subst h; simp at p1
      · rcases Nat.mul_eq_zero.mp h with h | h
        · subst h; simp at hy; omega
        · subst h; simp at p2
    · exact h
  rw [f1, f3]
  constructor
  · have := lo_nat pos co
    exact_mod_cast this
  · have : x * (g * a * (g * b)) = s * g * (a * (y * b)) := by
      have e : s = Nat.gcd s g * x := hx
      generalize Nat.gcd s g = m at *
      subst e
      subst hy
      grind
    exact_mod_cast this
end Go.Proofs.Ytphlkpkbdnddlaa
namespace Go.Proofs.Ytphlkpkbdnddlaa
open Go.RowKit

/-- x has just L bits -/
def BitsOf (x : Int) (L : Nat) : Prop := 1 ≤ L ∧ (2 : Int) ^ (L - 1) ≤ x ∧ x < 2 ^ L
theorem bits_of {x : Int} (h0 : 0 < x) (h1 : x ≤ 18446744073709551615) : BitsOf x (Lib.bitLen x.toNat) := by
  obtain ⟨n, rfl⟩ := Int.eq_ofNat_of_zero_le (show 0 ≤ x by omega)
  have h := Lib.bitLenAux_bounds 64 n (by omega) (by omega)
  rw [Int.toNat_natCast]
  exact ⟨h.1, by have := h.2.1; unfold Lib.bitLen; exact_mod_cast this, by have := h.2.2; unfold Lib.bitLen; exact_mod_cast this⟩
def HasBits (w : World) (x : Int) (e : Ending) (w' : World) : Prop := ∃ L : Nat, e = .returned (.int .i64 L) ∧ BitsOf x L ∧ w = w'

theorem tab_size : (Lib.len8tab.size : Int) = 256 := by rw [Lib.len8tab_size]; rfl
theorem tab_in {y : Int} (h0 : 0 ≤ y) (h1 : y ≤ 255) : 0 ≤ y ∧ y < (Lib.len8tab.size : Int) := by rw [tab_size]; omega
theorem tab_at {y : Int} {n : Nat} (h : y.toNat < Lib.len8tab.size) (h0 : 0 ≤ y) (h1 : y ≤ 255) (e : y.toNat = n) : ((Lib.len8tab[y.toNat]'h).toNat : Int) = (Lib.bitLen n : Int) := by
  have := Lib.len8_of y h0 h1
  unfold Lib.len8 at this
  rw [getElem?_pos Lib.len8tab y.toNat h] at this
  rw [← e]
  exact this
theorem wrap_two {k : Int} {n m : Nat} (hk : 0 ≤ k) (h1 : k ≤ 56) (hn : Lib.bitLen n ≤ 8) (hm : (m : Int) = k + Lib.bitLen n) : wrap64 (k + wrap64 (Lib.bitLen n : Int)) = m := by
  unfold wrap64; omega
theorem wrap_one' {n m : Nat} (hn : Lib.bitLen n ≤ 8) (hm : (m : Int) = Lib.bitLen n) : wrap64 (wrap64 (Lib.bitLen n : Int)) = m := by
  unfold wrap64; omega
theorem le8 {n : Nat} (h : n < 256) : Lib.bitLen n ≤ 8 := Lib.bitLen_le8 ⟨n, h⟩

set_option maxHeartbeats 4000000 in
set_option maxRecDepth 100000 in
theorem len32_any (x : Int) (w : World) (h0 : 0 < x) (h1 : x ≤ 4294967295) : Calls Try.prog 98 #[.int .u32 x] w (HasBits w x) := by
  have H := Lib.hid (bits_of h0 (by omega))
  have h00 : 0 ≤ x := by omega
  by_cases g1 : 65536 ≤ x
  · by_cases g2 : 16777216 ≤ x
    · have E := Lib.hid (show Lib.bitLen x.toNat = 24 + Lib.bitLen (x.toNat / 16777216) from Lib.bitLen_shift24 x.toNat (by omega) (by omega))
      have g2' : 256 ≤ x / 65536 := by omega
      have ib := tab_in (y := x / 65536 / 256) (by omega) (by omega)
      go_enter Try.func98, Try.ntmps98
      go_wp2
      go_ret
      refine ⟨_, ret_one ?_, H.out, rfl⟩
      rw [tab_at (n := x.toNat / 16777216) _ (by omega) (by omega) (by omega)]
      exact wrap_two (by omega) (by omega) (le8 (by omega)) (by rw [E.out]; rfl)
    · have E := Lib.hid (show Lib.bitLen x.toNat = 16 + Lib.bitLen (x.toNat / 65536) from Lib.bitLen_shift16 x.toNat (by omega) (by omega))
      have g2' : x / 65536 < 256 := by omega
      have ib := tab_in (y := x / 65536) (by omega) (by omega)
      go_enter Try.func98, Try.ntmps98
      go_wp2
      go_ret
      refine ⟨_, ret_one ?_, H.out, rfl⟩
      rw [tab_at (n := x.toNat / 65536) _ (by omega) (by omega) (by omega)]
      exact wrap_two (by omega) (by omega) (le8 (by omega)) (by rw [E.out]; rfl)
  · by_cases g2 : 256 ≤ x
    · have E := Lib.hid (show Lib.bitLen x.toNat = 8 + Lib.bitLen (x.toNat / 256) from Lib.bitLen_shift8 x.toNat (by omega) (by omega))
      have ib := tab_in (y := x / 256) (by omega) (by omega)
      go_enter Try.func98, Try.ntmps98
      go_wp2
      go_ret
      refine ⟨_, ret_one ?_, H.out, rfl⟩
      rw [tab_at (n := x.toNat / 256) _ (by omega) (by omega) (by omega)]
      exact wrap_two (by omega) (by omega) (le8 (by omega)) (by rw [E.out]; rfl)
    · have ib := tab_in (y := x) (by omega) (by omega)
      go_enter Try.func98, Try.ntmps98
      go_wp2
      go_ret
      refine ⟨_, ret_one ?_, H.out, rfl⟩
      rw [tab_at (n := x.toNat) _ (by omega) (by omega) (by omega)]
      exact wrap_one' (le8 (by omega)) rfl
/-- how far a number of 32 bits can be shifted up -/
def UpOf (w : World) (x : Int) (e : Ending) (w' : World) : Prop := ∃ up : Nat, e = .returned (.int .i64 up) ∧ up ≤ 31 ∧ (2 : Int) ^ (31 - up) ≤ x ∧ x < 2 ^ (32 - up) ∧ w = w'
theorem lead32_any (x : Int) (w : World) (h0 : 0 < x) (h1 : x ≤ 4294967295) : Calls Try.prog 95 #[.int .u32 x] w (UpOf w x) := by
  go_enter Try.func95, Try.ntmps95
  go_wp2_with fail
  refine (len32_any x w h0 h1).mono ?_
  rintro e w' ⟨L, rfl, hL, rfl⟩
  have l1 := hL.1
  have l2 : L ≤ 32 := by
    rcases Nat.lt_or_ge 32 L with g | g
    · exfalso
      have h3 := hL.2.1
      have h4 := ipow_le (B := 2) (by omega) (show 32 ≤ L - 1 by omega)
      omega
    · exact g
  have HL := Lib.hid hL
  clear hL
  go_wp2
  go_ret
  refine ⟨32 - L, ret_one (by omega), by omega, ?_, ?_, rfl⟩
  · rw [show 31 - (32 - L) = L - 1 by omega]; exact HL.out.2.1
  · rw [show 32 - (32 - L) = L by omega]; exact HL.out.2.2

set_option maxHeartbeats 4000000 in
set_option maxRecDepth 100000 in
theorem len64_top (x : Int) (w : World) (h0 : 9223372036854775808 ≤ x) (h1 : x ≤ 18446744073709551615) : Calls Try.prog 100 #[.int .u64 x] w fun e w' => e = .returned (.int .i64 64) ∧ w = w' := by
  have E := Lib.hid (show Lib.bitLen (x.toNat / 72057594037927936) = 8 by
    have l := Lib.bitLenAux_bounds 64 (x.toNat / 72057594037927936) (by omega) (by omega)
    have l2 := Lib.bitLen_le8' ((x.toNat / 72057594037927936 : Nat) : Int) (by omega) (by omega)
    rw [Int.toNat_natCast] at l2
    have l3 := l.2.2
    unfold Lib.bitLen at l2 ⊢
    rcases Nat.lt_or_ge (Lib.bitLenAux 64 (x.toNat / 72057594037927936)) 8 with g | g
    · exfalso
      have := Nat.pow_le_pow_right (n := 2) (by omega) (show Lib.bitLenAux 64 (x.toNat / 72057594037927936) ≤ 7 by omega)
      omega
    · omega)
  have g1 : 4294967296 ≤ x := by omega
  have g2 : 65536 ≤ x / 4294967296 := by omega
  have g3 : 256 ≤ x / 4294967296 / 65536 := by omega
  have ib := tab_in (y := x / 4294967296 / 65536 / 256) (by omega) (by omega)
  go_enter Try.func100, Try.ntmps100
  go_wp2
  go_ret
  refine ⟨ret_one ?_, rfl⟩
  rw [tab_at (n := x.toNat / 72057594037927936) _ (by omega) (by omega) (by omega), E.out]
  unfold wrap64
  omega
theorem lead64_top (x : Int) (w : World) (h0 : 9223372036854775808 ≤ x) (h1 : x ≤ 18446744073709551615) : Calls Try.prog 99 #[.int .u64 x] w fun e w' => e = .returned (.int .i64 0) ∧ w = w' := by
  go_enter Try.func99, Try.ntmps99
  go_wp2_with fail
  refine (len64_top x w h0 h1).mono ?_
  rintro e w' ⟨rfl, rfl⟩
  go_wp2
  go_ret
  exact ⟨rfl, rfl⟩
end Go.Proofs.Ytphlkpkbdnddlaa
namespace Go.Proofs.Ytphlkpkbdnddlaa
open Go.RowKit

def Quo64 (w : World) (q : Int) (e : Ending) (w' : World) : Prop := ∃ (r : Int) (n : Nat), e = .returned (.tuple #[.int .u64 q, .int .u64 r]) ∧ w' = w.drewN n

theorem or_zero {x : Int} (h0 : 0 ≤ x) (h1 : x ≤ 18446744073709551615) : bits .or .u64 x 0 = x := by
  obtain ⟨n, rfl⟩ := Int.eq_ofNat_of_zero_le h0
  have := u64_or_nat n 0 (by omega) (by omega)
  rw [Nat.or_zero] at this
  exact this
theorem wrap_sub3 {u c p V : Int} (hV : u * 4294967296 + c - p = V) (v0 : 0 ≤ V) (v1 : V ≤ 18446744073709551615) : IntKind.u64.wrap (IntKind.u64.wrap (IntKind.u64.wrap (u * 4294967296) + c) - IntKind.u64.wrap p) = V := by
  simp only [IntKind.wrap_u64]
  omega
theorem div64_low (lo y : Int) (w : World) (y0 : 9223372036854775808 ≤ y) (y1 : y ≤ 18446744073709551615) (l0 : 0 ≤ lo) (l1 : lo ≤ 18446744073709551615) :
    Calls Try.prog 97 #[.int .u64 0, .int .u64 lo, .int .u64 y] w (Quo64 w (lo / y)) := by
  have b1 : (y == 0) = false := by simp; omega
  have b2 : ¬ y ≤ 0 := by omega
  have b3 : decide (y ≤ 0) = false := by simp; omega
  have q0 : 0 ≤ lo / y := Int.ediv_nonneg l0 (by omega)
  have q1 : lo / y ≤ lo := Int.ediv_le_self _ l0
  have m0 : 0 ≤ lo % y := Int.emod_nonneg _ (by omega)
  have m1 : lo % y < y := Int.emod_lt_of_pos _ (by omega)
  have e0 : ¬ y = 0 := by omega
  have e1 : lo.tdiv y = lo / y := Int.tdiv_eq_ediv_of_nonneg l0
  have e2 : IntKind.u64.wrap (lo / y) = lo / y := IntWalk.u64_in _ (by omega)
  have e3 : lo.tmod y = lo % y := Int.tmod_eq_emod_of_nonneg l0
  have e4 : IntKind.u64.wrap (lo % y) = lo % y := IntWalk.u64_in _ (by omega)
  go_enter Try.func97, Try.ntmps97
  go_wp2
  go_region
  all_goals
    go_wp2
    go_ret2
    exact ⟨_, 1, rfl, rfl⟩


set_option maxHeartbeats 4000000 in
set_option maxRecDepth 100000 in
theorem div64_up (hi lo y : Int) (w : World) (y0 : 9223372036854775808 ≤ y) (y1 : y ≤ 18446744073709551615) (h0 : 0 < hi) (h1 : hi < y) (l0 : 0 ≤ lo) (l1 : lo ≤ 18446744073709551615) :
    Calls Try.prog 97 #[.int .u64 hi, .int .u64 lo, .int .u64 y] w (Quo64 w ((hi * 18446744073709551616 + lo) / y)) := by
  have b1 : (y == 0) = false := by simp; omega
  have b2 : ¬ y ≤ hi := by omega
  have b3 : decide (y ≤ hi) = false := by simp; omega
  have b4 : (hi == 0) = false := by simp; omega
  have a1 := and_low32 y (by omega) (by omega)
  have a2 := and_low32 lo (by omega) (by omega)
  have a3 : lo / 18446744073709551616 = 0 := by omega
  have a4 := or_zero (x := hi) (by omega) (by omega)
  obtain ⟨h, hh⟩ : ∃ h, y / 4294967296 = h := ⟨_, rfl⟩
  obtain ⟨l, hl⟩ : ∃ l, y % 4294967296 = l := ⟨_, rfl⟩
  obtain ⟨c, hc⟩ : ∃ c, lo / 4294967296 = c := ⟨_, rfl⟩
  obtain ⟨d, hd⟩ : ∃ d, lo % 4294967296 = d := ⟨_, rfl⟩
  have k1 : 2147483648 ≤ h := by omega
  have k2 : h < 4294967296 := by omega
  have k3 : 0 ≤ l := by omega
  have k4 : l < 4294967296 := by omega
  have k5 : 0 ≤ c := by omega
  have k6 : c < 4294967296 := by omega
  have k7 : 0 ≤ d := by omega
  have k8 : d < 4294967296 := by omega
  have HY := Lib.hid (show y = h * 4294967296 + l by omega)
  have HLo := Lib.hid (show lo = c * 4294967296 + d by omega)
  have k9 : ¬ h = 0 := by omega
  have e1 : hi.tdiv h = hi / h := Int.tdiv_eq_ediv_of_nonneg (by omega)
  have D1 := Lib.hid (dg_start (c := c) HY.out (by omega) k3 (show 0 ≤ hi by omega) k6)
  have m1 := Int.mul_ediv_add_emod hi h
  have m2 := Int.emod_nonneg hi k9
  have m3 := Int.emod_lt_of_pos hi (show 0 < h by omega)
  have q0 : 0 ≤ hi / h := Int.ediv_nonneg (by omega) (by omega)
  have q1 : hi / h ≤ 8589934592 := by
    have : hi / h < 8589934593 := Int.ediv_lt_of_lt_mul (by omega) (by omega)
    omega
  obtain ⟨q, hq⟩ : ∃ q, hi / h = q := ⟨_, rfl⟩
  rw [hq] at D1 m1 q0 q1
  obtain ⟨p, hp⟩ : ∃ p, q * h = p := ⟨_, rfl⟩
  have P := Lib.hid hp
  rw [Int.mul_comm, hp] at m1
  have e2 : IntKind.u64.wrap q = q := IntWalk.u64_in _ (by omega)
  have p0 : 0 ≤ p := by rw [← hp]; exact Int.mul_nonneg q0 (by omega)
  have e3 : IntKind.u64.wrap p = p := IntWalk.u64_in _ (by omega)
  have e4 : IntKind.u64.wrap (hi - p) = hi - p := IntWalk.u64_in _ (by omega)
  have r0 : 0 ≤ hi - p := by omega
  have r1 : hi - p < 4294967296 := by omega
  clear m1 m2 m3
  go_enter Try.func97, Try.ntmps97
  go_wp2_with fail
  refine (lead64_top y w y0 y1).mono ?_
  rintro e w' ⟨rfl, rfl⟩
  go_wp2
  clear e1 e2 e3 e4
  have HQ := Lib.hid hq
  clear hq hp
  go_loop [15, 16] (fun a b => ∃ q r : Int, a = .int .u64 q ∧ b = .int .u64 r ∧ 0 ≤ q ∧ q ≤ 8589934592 ∧ 0 ≤ r ∧ r < 4294967296 ∧ q * h + r = hi ∧ (hi * 4294967296 + c) / y ≤ q) (fun a _ => (intOf a).toNat)
  case atStart => exact ⟨q, hi - p, rfl, rfl, q0, q1, r0, r1, by rw [P.out]; omega, D1.out⟩
  case round =>
    clear P D1 HQ q0 q1 p0 r0 r1
    obtain ⟨q, r, rfl, rfl, q0, q1, r0, r1, hqr, hQ⟩ := hrel
    have QR := Lib.hid hqr
    have HQ := Lib.hid hQ
    clear hqr hQ
    have GO : 4294967296 ≤ q ∨ (4294967296 * r + c < q * l) → (hi * 4294967296 + c) / y < q := fun g => by
      rcases g with g | g
      · have := dg_lt (c := c) (show hi < y by omega) (show 0 < y by omega) (by omega); omega
      · exact dg_more HY.out (by omega) QR.out (by omega)
    have SM := Lib.hid (fun (g : 4294967296 ≤ r + h) => dg_small (q := q - 1) (r := r + h) HY.out k4 (by omega) (show hi < y by omega) (by have := QR.out; rw [Int.sub_mul]; omega) g)
    have GOH := Lib.hid GO
    clear GO
    by_cases g1 : 4294967296 ≤ q
    · have LT := Lib.hid (GOH.out (.inl g1))
      have bq : decide (4294967296 ≤ q) = true := by simp; omega
      by_cases g2 : 4294967296 ≤ r + h
      · obtain ⟨q, rfl⟩ : ∃ k, q = k + 1 := ⟨q - 1, by omega⟩
        have BD := SM.out g2
        have q0 : 0 ≤ q := by omega
        have FF := Lib.hid (dg_stop (r := r + h) (c := c) HY.out (show 0 < y by omega) (show q * h + (r + h) = hi by have := QR.out; rw [Int.add_mul] at this; omega) (by have := dg_prod (q := q) (by omega) (by omega) k3 k4; omega) (by have := LT.out; omega))
        clear SM GOH LT QR HQ
        have FQ := FF
        have q9 : q < 4294967296 := by rw [FQ.out]; exact dg_lt h1 (by omega) k6
        obtain ⟨V, hV⟩ : ∃ V, hi * 4294967296 + c - q * y = V := ⟨_, rfl⟩
        have v0 : 0 ≤ V := by
          have h2 := Int.ediv_mul_le (hi * 4294967296 + c) (show y ≠ 0 by omega)
          rw [← FQ.out] at h2
          omega
        have v1 : V < y := by
          have h2 := Int.lt_ediv_add_one_mul_self (hi * 4294967296 + c) (show 0 < y by omega)
          rw [← FQ.out, Int.add_mul] at h2
          omega
        have s1 := wrap_sub3 hV v0 (by omega)
        have HV := Lib.hid hV
        clear hV
        have s2 : V.tdiv h = V / h := Int.tdiv_eq_ediv_of_nonneg v0
        have D2 := Lib.hid (dg_start (c := d) HY.out (by omega) k3 v0 k8)
        have m1 := Int.mul_ediv_add_emod V h
        have m2 := Int.emod_nonneg V k9
        have m3 := Int.emod_lt_of_pos V (show 0 < h by omega)
        have x0 : 0 ≤ V / h := Int.ediv_nonneg v0 (by omega)
        have x1 : V / h ≤ 8589934592 := by
          have : V / h < 8589934593 := Int.ediv_lt_of_lt_mul (by omega) (by omega)
          omega
        obtain ⟨x, hx⟩ : ∃ x, V / h = x := ⟨_, rfl⟩
        rw [hx] at D2 m1 x0 x1
        obtain ⟨p2, hp2⟩ : ∃ p2, x * h = p2 := ⟨_, rfl⟩
        have P2 := Lib.hid hp2
        rw [Int.mul_comm, hp2] at m1
        have e2 : IntKind.u64.wrap x = x := IntWalk.u64_in _ (by omega)
        have p0 : 0 ≤ p2 := by rw [← hp2]; exact Int.mul_nonneg x0 (by omega)
        have e3 : IntKind.u64.wrap p2 = p2 := IntWalk.u64_in _ (by omega)
        have e4 : IntKind.u64.wrap (V - p2) = V - p2 := IntWalk.u64_in _ (by omega)
        have z0 : 0 ≤ V - p2 := by omega
        have z1 : V - p2 < 4294967296 := by omega
        clear m1 m2 m3
        go_wp2
        clear s1 s2 e2 e3 e4 hx hp2
        go_loop [18, 16] (fun a b => ∃ x r : Int, a = .int .u64 x ∧ b = .int .u64 r ∧ 0 ≤ x ∧ x ≤ 8589934592 ∧ 0 ≤ r ∧ r < 4294967296 ∧ x * h + r = V ∧ (V * 4294967296 + d) / y ≤ x) (fun a _ => (intOf a).toNat)
        case atStart => exact ⟨x, V - p2, rfl, rfl, x0, x1, z0, z1, by rw [P2.out]; omega, D2.out⟩
        case round =>
          clear P2 D2 x0 x1 p0 z0 z1
          obtain ⟨x, r, rfl, rfl, x0, x1, r0, r1, hqr, hQ⟩ := hrel
          have QR := Lib.hid hqr
          have HQ := Lib.hid hQ
          clear hqr hQ
          have GO : 4294967296 ≤ x ∨ (4294967296 * r + d < x * l) → (V * 4294967296 + d) / y < x := fun g => by
            rcases g with g | g
            · have := dg_lt (c := d) (show V < y by omega) (show 0 < y by omega) (by omega); omega
            · exact dg_more HY.out (by omega) QR.out (by omega)
          have SM := Lib.hid (fun (g : 4294967296 ≤ r + h) => dg_small (q := x - 1) (r := r + h) HY.out k4 (by omega) (show V < y by omega) (by have := QR.out; rw [Int.sub_mul]; omega) g)
          have GOH := Lib.hid GO
          clear GO
          by_cases g1 : 4294967296 ≤ x
          · have LT := Lib.hid (GOH.out (.inl g1))
            have bq : decide (4294967296 ≤ x) = true := by simp; omega
            by_cases g2 : 4294967296 ≤ r + h
            · obtain ⟨x, rfl⟩ : ∃ k, x = k + 1 := ⟨x - 1, by omega⟩
              have BD := SM.out g2
              have x0 : 0 ≤ x := by omega
              have FF := Lib.hid (dg_stop (r := r + h) (c := d) HY.out (show 0 < y by omega) (show x * h + (r + h) = V by have := QR.out; rw [Int.add_mul] at this; omega) (by have := dg_prod (q := x) (by omega) (by omega) k3 k4; omega) (by have := LT.out; omega))
              clear SM GOH LT QR HQ
              have FX := FF
              have x9 : x < 4294967296 := by rw [FX.out]; exact dg_lt v1 (by omega) k8

              go_wp2
              go_ret2
              exact ⟨_, 0, ret_two (show q * 4294967296 + x = _ by rw [HLo.out, dg_two q (show 0 < y by omega), HV.out, FX.out]) rfl, rfl⟩

            · go_wp2
              go_round
              case rel => exact ⟨x - 1, r + h, by go_num, rfl, by omega, by omega, by omega, by omega, by have := QR.out; rw [Int.sub_mul]; omega, by have := LT.out; omega⟩
              case measure => simp [intOf]; omega
          · have ⟨t0, t1, t2⟩ := dg_prod (q := x) (by omega) (by omega) k3 k4
            have wq : IntKind.u64.wrap (x * l) = x * l := IntWalk.u64_in _ (by omega)
            have bq : decide (4294967296 ≤ x) = false := by simp; omega
            by_cases g3 : 4294967296 * r + d < x * l
            · have LT := Lib.hid (GOH.out (.inr g3))
              have q9' : 1 ≤ x := by
                rcases Int.lt_or_le 0 x with g | g
                · omega
                · exfalso
                  obtain rfl : x = 0 := by omega
                  omega
              by_cases g2 : 4294967296 ≤ r + h
              · obtain ⟨x, rfl⟩ : ∃ k, x = k + 1 := ⟨x - 1, by omega⟩
                have BD := SM.out g2
                have x0 : 0 ≤ x := by omega
                have FF := Lib.hid (dg_stop (r := r + h) (c := d) HY.out (show 0 < y by omega) (show x * h + (r + h) = V by have := QR.out; rw [Int.add_mul] at this; omega) (by have := dg_prod (q := x) (by omega) (by omega) k3 k4; omega) (by have := LT.out; omega))
                clear SM GOH LT QR HQ
                have FX := FF
                have x9 : x < 4294967296 := by rw [FX.out]; exact dg_lt v1 (by omega) k8

                go_wp2
                go_ret2
                exact ⟨_, 0, ret_two (show q * 4294967296 + x = _ by rw [HLo.out, dg_two q (show 0 < y by omega), HV.out, FX.out]) rfl, rfl⟩

              · go_wp2
                go_round
                case rel => exact ⟨x - 1, r + h, by go_num, rfl, by omega, by omega, by omega, by omega, by have := QR.out; rw [Int.sub_mul]; omega, by have := LT.out; omega⟩
                case measure => simp [intOf]; omega
            · have FF := Lib.hid (dg_stop (c := d) HY.out (show 0 < y by omega) QR.out (by omega) HQ.out)
              clear SM GOH QR HQ
              have FX := FF
              have x9 : x < 4294967296 := by rw [FX.out]; exact dg_lt v1 (by omega) k8

              go_wp2
              go_ret2
              exact ⟨_, 0, ret_two (show q * 4294967296 + x = _ by rw [HLo.out, dg_two q (show 0 < y by omega), HV.out, FX.out]) rfl, rfl⟩

      · go_wp2
        go_round
        case rel => exact ⟨q - 1, r + h, by go_num, rfl, by omega, by omega, by omega, by omega, by have := QR.out; rw [Int.sub_mul]; omega, by have := LT.out; omega⟩
        case measure => simp [intOf]; omega
    · have ⟨t0, t1, t2⟩ := dg_prod (q := q) (by omega) (by omega) k3 k4
      have wq : IntKind.u64.wrap (q * l) = q * l := IntWalk.u64_in _ (by omega)
      have bq : decide (4294967296 ≤ q) = false := by simp; omega
      by_cases g3 : 4294967296 * r + c < q * l
      · have LT := Lib.hid (GOH.out (.inr g3))
        have q9' : 1 ≤ q := by
          rcases Int.lt_or_le 0 q with g | g
          · omega
          · exfalso
            obtain rfl : q = 0 := by omega
            omega
        by_cases g2 : 4294967296 ≤ r + h
        · obtain ⟨q, rfl⟩ : ∃ k, q = k + 1 := ⟨q - 1, by omega⟩
          have BD := SM.out g2
          have q0 : 0 ≤ q := by omega
          have FF := Lib.hid (dg_stop (r := r + h) (c := c) HY.out (show 0 < y by omega) (show q * h + (r + h) = hi by have := QR.out; rw [Int.add_mul] at this; omega) (by have := dg_prod (q := q) (by omega) (by omega) k3 k4; omega) (by have := LT.out; omega))
          clear SM GOH LT QR HQ
          have FQ := FF
          have q9 : q < 4294967296 := by rw [FQ.out]; exact dg_lt h1 (by omega) k6
          obtain ⟨V, hV⟩ : ∃ V, hi * 4294967296 + c - q * y = V := ⟨_, rfl⟩
          have v0 : 0 ≤ V := by
            have h2 := Int.ediv_mul_le (hi * 4294967296 + c) (show y ≠ 0 by omega)
            rw [← FQ.out] at h2
            omega
          have v1 : V < y := by
            have h2 := Int.lt_ediv_add_one_mul_self (hi * 4294967296 + c) (show 0 < y by omega)
            rw [← FQ.out, Int.add_mul] at h2
            omega
          have s1 := wrap_sub3 hV v0 (by omega)
          have HV := Lib.hid hV
          clear hV
          have s2 : V.tdiv h = V / h := Int.tdiv_eq_ediv_of_nonneg v0
          have D2 := Lib.hid (dg_start (c := d) HY.out (by omega) k3 v0 k8)
          have m1 := Int.mul_ediv_add_emod V h
          have m2 := Int.emod_nonneg V k9
          have m3 := Int.emod_lt_of_pos V (show 0 < h by omega)
          have x0 : 0 ≤ V / h := Int.ediv_nonneg v0 (by omega)
          have x1 : V / h ≤ 8589934592 := by
            have : V / h < 8589934593 := Int.ediv_lt_of_lt_mul (by omega) (by omega)
            omega
          obtain ⟨x, hx⟩ : ∃ x, V / h = x := ⟨_, rfl⟩
          rw [hx] at D2 m1 x0 x1
          obtain ⟨p2, hp2⟩ : ∃ p2, x * h = p2 := ⟨_, rfl⟩
          have P2 := Lib.hid hp2
          rw [Int.mul_comm, hp2] at m1
          have e2 : IntKind.u64.wrap x = x := IntWalk.u64_in _ (by omega)
          have p0 : 0 ≤ p2 := by rw [← hp2]; exact Int.mul_nonneg x0 (by omega)
          have e3 : IntKind.u64.wrap p2 = p2 := IntWalk.u64_in _ (by omega)
          have e4 : IntKind.u64.wrap (V - p2) = V - p2 := IntWalk.u64_in _ (by omega)
          have z0 : 0 ≤ V - p2 := by omega
          have z1 : V - p2 < 4294967296 := by omega
          clear m1 m2 m3
          go_wp2
          clear s1 s2 e2 e3 e4 hx hp2
          go_loop [18, 16] (fun a b => ∃ x r : Int, a = .int .u64 x ∧ b = .int .u64 r ∧ 0 ≤ x ∧ x ≤ 8589934592 ∧ 0 ≤ r ∧ r < 4294967296 ∧ x * h + r = V ∧ (V * 4294967296 + d) / y ≤ x) (fun a _ => (intOf a).toNat)
          case atStart => exact ⟨x, V - p2, rfl, rfl, x0, x1, z0, z1, by rw [P2.out]; omega, D2.out⟩
          case round =>
            clear P2 D2 x0 x1 p0 z0 z1
            obtain ⟨x, r, rfl, rfl, x0, x1, r0, r1, hqr, hQ⟩ := hrel
            have QR := Lib.hid hqr
            have HQ := Lib.hid hQ
            clear hqr hQ
            have GO : 4294967296 ≤ x ∨ (4294967296 * r + d < x * l) → (V * 4294967296 + d) / y < x := fun g => by
              rcases g with g | g
              · have := dg_lt (c := d) (show V < y by omega) (show 0 < y by omega) (by omega); omega
              · exact dg_more HY.out (by omega) QR.out (by omega)
            have SM := Lib.hid (fun (g : 4294967296 ≤ r + h) => dg_small (q := x - 1) (r := r + h) HY.out k4 (by omega) (show V < y by omega) (by have := QR.out; rw [Int.sub_mul]; omega) g)
            have GOH := Lib.hid GO
            clear GO
            by_cases g1 : 4294967296 ≤ x
            · have LT := Lib.hid (GOH.out (.inl g1))
              have bq : decide (4294967296 ≤ x) = true := by simp; omega
              by_cases g2 : 4294967296 ≤ r + h
              · obtain ⟨x, rfl⟩ : ∃ k, x = k + 1 := ⟨x - 1, by omega⟩
                have BD := SM.out g2
                have x0 : 0 ≤ x := by omega
                have FF := Lib.hid (dg_stop (r := r + h) (c := d) HY.out (show 0 < y by omega) (show x * h + (r + h) = V by have := QR.out; rw [Int.add_mul] at this; omega) (by have := dg_prod (q := x) (by omega) (by omega) k3 k4; omega) (by have := LT.out; omega))
                clear SM GOH LT QR HQ
                have FX := FF
                have x9 : x < 4294967296 := by rw [FX.out]; exact dg_lt v1 (by omega) k8

                go_wp2
                go_ret2
                exact ⟨_, 0, ret_two (show q * 4294967296 + x = _ by rw [HLo.out, dg_two q (show 0 < y by omega), HV.out, FX.out]) rfl, rfl⟩

              · go_wp2
                go_round
                case rel => exact ⟨x - 1, r + h, by go_num, rfl, by omega, by omega, by omega, by omega, by have := QR.out; rw [Int.sub_mul]; omega, by have := LT.out; omega⟩
                case measure => simp [intOf]; omega
            · have ⟨t0, t1, t2⟩ := dg_prod (q := x) (by omega) (by omega) k3 k4
              have wq : IntKind.u64.wrap (x * l) = x * l := IntWalk.u64_in _ (by omega)
              have bq : decide (4294967296 ≤ x) = false := by simp; omega
              by_cases g3 : 4294967296 * r + d < x * l
              · have LT := Lib.hid (GOH.out (.inr g3))
                have q9' : 1 ≤ x := by
                  rcases Int.lt_or_le 0 x with g | g
                  · omega
                  · exfalso
                    obtain rfl : x = 0 := by omega
                    omega
                by_cases g2 : 4294967296 ≤ r + h
                · obtain ⟨x, rfl⟩ : ∃ k, x = k + 1 := ⟨x - 1, by omega⟩
                  have BD := SM.out g2
                  have x0 : 0 ≤ x := by omega
                  have FF := Lib.hid (dg_stop (r := r + h) (c := d) HY.out (show 0 < y by omega) (show x * h + (r + h) = V by have := QR.out; rw [Int.add_mul] at this; omega) (by have := dg_prod (q := x) (by omega) (by omega) k3 k4; omega) (by have := LT.out; omega))
                  clear SM GOH LT QR HQ
                  have FX := FF
                  have x9 : x < 4294967296 := by rw [FX.out]; exact dg_lt v1 (by omega) k8

                  go_wp2
                  go_ret2
                  exact ⟨_, 0, ret_two (show q * 4294967296 + x = _ by rw [HLo.out, dg_two q (show 0 < y by omega), HV.out, FX.out]) rfl, rfl⟩

                · go_wp2
                  go_round
                  case rel => exact ⟨x - 1, r + h, by go_num, rfl, by omega, by omega, by omega, by omega, by have := QR.out; rw [Int.sub_mul]; omega, by have := LT.out; omega⟩
                  case measure => simp [intOf]; omega
              · have FF := Lib.hid (dg_stop (c := d) HY.out (show 0 < y by omega) QR.out (by omega) HQ.out)
                clear SM GOH QR HQ
                have FX := FF
                have x9 : x < 4294967296 := by rw [FX.out]; exact dg_lt v1 (by omega) k8

                go_wp2
                go_ret2
                exact ⟨_, 0, ret_two (show q * 4294967296 + x = _ by rw [HLo.out, dg_two q (show 0 < y by omega), HV.out, FX.out]) rfl, rfl⟩

        · go_wp2
          go_round
          case rel => exact ⟨q - 1, r + h, by go_num, rfl, by omega, by omega, by omega, by omega, by have := QR.out; rw [Int.sub_mul]; omega, by have := LT.out; omega⟩
          case measure => simp [intOf]; omega
      · have FF := Lib.hid (dg_stop (c := c) HY.out (show 0 < y by omega) QR.out (by omega) HQ.out)
        clear SM GOH QR HQ
        have FQ := FF
        have q9 : q < 4294967296 := by rw [FQ.out]; exact dg_lt h1 (by omega) k6
        obtain ⟨V, hV⟩ : ∃ V, hi * 4294967296 + c - q * y = V := ⟨_, rfl⟩
        have v0 : 0 ≤ V := by
          have h2 := Int.ediv_mul_le (hi * 4294967296 + c) (show y ≠ 0 by omega)
          rw [← FQ.out] at h2
          omega
        have v1 : V < y := by
          have h2 := Int.lt_ediv_add_one_mul_self (hi * 4294967296 + c) (show 0 < y by omega)
          rw [← FQ.out, Int.add_mul] at h2
          omega
        have s1 := wrap_sub3 hV v0 (by omega)
        have HV := Lib.hid hV
        clear hV
        have s2 : V.tdiv h = V / h := Int.tdiv_eq_ediv_of_nonneg v0
        have D2 := Lib.hid (dg_start (c := d) HY.out (by omega) k3 v0 k8)
        have m1 := Int.mul_ediv_add_emod V h
        have m2 := Int.emod_nonneg V k9
        have m3 := Int.emod_lt_of_pos V (show 0 < h by omega)
        have x0 : 0 ≤ V / h := Int.ediv_nonneg v0 (by omega)
        have x1 : V / h ≤ 8589934592 := by
          have : V / h < 8589934593 := Int.ediv_lt_of_lt_mul (by omega) (by omega)
          omega
        obtain ⟨x, hx⟩ : ∃ x, V / h = x := ⟨_, rfl⟩
        rw [hx] at D2 m1 x0 x1
        obtain ⟨p2, hp2⟩ : ∃ p2, x * h = p2 := ⟨_, rfl⟩
        have P2 := Lib.hid hp2
        rw [Int.mul_comm, hp2] at m1
        have e2 : IntKind.u64.wrap x = x := IntWalk.u64_in _ (by omega)
        have p0 : 0 ≤ p2 := by rw [← hp2]; exact Int.mul_nonneg x0 (by omega)
        have e3 : IntKind.u64.wrap p2 = p2 := IntWalk.u64_in _ (by omega)
        have e4 : IntKind.u64.wrap (V - p2) = V - p2 := IntWalk.u64_in _ (by omega)
        have z0 : 0 ≤ V - p2 := by omega
        have z1 : V - p2 < 4294967296 := by omega
        clear m1 m2 m3
        go_wp2
        clear s1 s2 e2 e3 e4 hx hp2
        go_loop [18, 16] (fun a b => ∃ x r : Int, a = .int .u64 x ∧ b = .int .u64 r ∧ 0 ≤ x ∧ x ≤ 8589934592 ∧ 0 ≤ r ∧ r < 4294967296 ∧ x * h + r = V ∧ (V * 4294967296 + d) / y ≤ x) (fun a _ => (intOf a).toNat)
        case atStart => exact ⟨x, V - p2, rfl, rfl, x0, x1, z0, z1, by rw [P2.out]; omega, D2.out⟩
        case round =>
          clear P2 D2 x0 x1 p0 z0 z1
          obtain ⟨x, r, rfl, rfl, x0, x1, r0, r1, hqr, hQ⟩ := hrel
          have QR := Lib.hid hqr
          have HQ := Lib.hid hQ
          clear hqr hQ
          have GO : 4294967296 ≤ x ∨ (4294967296 * r + d < x * l) → (V * 4294967296 + d) / y < x := fun g => by
            rcases g with g | g
            · have := dg_lt (c := d) (show V < y by omega) (show 0 < y by omega) (by omega); omega
            · exact dg_more HY.out (by omega) QR.out (by omega)
          have SM := Lib.hid (fun (g : 4294967296 ≤ r + h) => dg_small (q := x - 1) (r := r + h) HY.out k4 (by omega) (show V < y by omega) (by have := QR.out; rw [Int.sub_mul]; omega) g)
          have GOH := Lib.hid GO
          clear GO
          by_cases g1 : 4294967296 ≤ x
          · have LT := Lib.hid (GOH.out (.inl g1))
            have bq : decide (4294967296 ≤ x) = true := by simp; omega
            by_cases g2 : 4294967296 ≤ r + h
            · obtain ⟨x, rfl⟩ : ∃ k, x = k + 1 := ⟨x - 1, by omega⟩
              have BD := SM.out g2
              have x0 : 0 ≤ x := by omega
              have FF := Lib.hid (dg_stop (r := r + h) (c := d) HY.out (show 0 < y by omega) (show x * h + (r + h) = V by have := QR.out; rw [Int.add_mul] at this; omega) (by have := dg_prod (q := x) (by omega) (by omega) k3 k4; omega) (by have := LT.out; omega))
              clear SM GOH LT QR HQ
              have FX := FF
              have x9 : x < 4294967296 := by rw [FX.out]; exact dg_lt v1 (by omega) k8

              go_wp2
              go_ret2
              exact ⟨_, 0, ret_two (show q * 4294967296 + x = _ by rw [HLo.out, dg_two q (show 0 < y by omega), HV.out, FX.out]) rfl, rfl⟩

            · go_wp2
              go_round
              case rel => exact ⟨x - 1, r + h, by go_num, rfl, by omega, by omega, by omega, by omega, by have := QR.out; rw [Int.sub_mul]; omega, by have := LT.out; omega⟩
              case measure => simp [intOf]; omega
          · have ⟨t0, t1, t2⟩ := dg_prod (q := x) (by omega) (by omega) k3 k4
            have wq : IntKind.u64.wrap (x * l) = x * l := IntWalk.u64_in _ (by omega)
            have bq : decide (4294967296 ≤ x) = false := by simp; omega
            by_cases g3 : 4294967296 * r + d < x * l
            · have LT := Lib.hid (GOH.out (.inr g3))
              have q9' : 1 ≤ x := by
                rcases Int.lt_or_le 0 x with g | g
                · omega
                · exfalso
                  obtain rfl : x = 0 := by omega
                  omega
              by_cases g2 : 4294967296 ≤ r + h
              · obtain ⟨x, rfl⟩ : ∃ k, x = k + 1 := ⟨x - 1, by omega⟩
                have BD := SM.out g2
                have x0 : 0 ≤ x := by omega
                have FF := Lib.hid (dg_stop (r := r + h) (c := d) HY.out (show 0 < y by omega) (show x * h + (r + h) = V by have := QR.out; rw [Int.add_mul] at this; omega) (by have := dg_prod (q := x) (by omega) (by omega) k3 k4; omega) (by have := LT.out; omega))
                clear SM GOH LT QR HQ
                have FX := FF
                have x9 : x < 4294967296 := by rw [FX.out]; exact dg_lt v1 (by omega) k8

                go_wp2
                go_ret2
                exact ⟨_, 0, ret_two (show q * 4294967296 + x = _ by rw [HLo.out, dg_two q (show 0 < y by omega), HV.out, FX.out]) rfl, rfl⟩

              · go_wp2
                go_round
                case rel => exact ⟨x - 1, r + h, by go_num, rfl, by omega, by omega, by omega, by omega, by have := QR.out; rw [Int.sub_mul]; omega, by have := LT.out; omega⟩
                case measure => simp [intOf]; omega
            · have FF := Lib.hid (dg_stop (c := d) HY.out (show 0 < y by omega) QR.out (by omega) HQ.out)
              clear SM GOH QR HQ
              have FX := FF
              have x9 : x < 4294967296 := by rw [FX.out]; exact dg_lt v1 (by omega) k8

              go_wp2
              go_ret2
              exact ⟨_, 0, ret_two (show q * 4294967296 + x = _ by rw [HLo.out, dg_two q (show 0 < y by omega), HV.out, FX.out]) rfl, rfl⟩
end Go.Proofs.Ytphlkpkbdnddlaa
