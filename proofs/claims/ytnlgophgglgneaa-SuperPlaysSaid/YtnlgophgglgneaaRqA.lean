/-
  Plain facts on what numbers have in common, on digits of a quotient and on least ratios; no Go in sight.
  Plain facts: a guess by the digits ahead; least ratios; no Go in sight.
  What the lengths of numbers by bits give back: contracts.
  What a number of two words divided by one gives back: contract.
  What package ratio's limb and guess give back: contracts.
  What package ratio's short, number, below and step give back: contracts.
  What package ratio's step gives back: contract.
  What package ratio's divide and part give back: contracts.
  What package exact's Gcd and package ratio's common give back: contracts.
  What package ratio's Whole, Of, Check and Cmp give back: contracts.
  What package ratio's Cmp, Least, level and lower give back: contracts.
  What package ratio's level and lower give back: contracts.
  What package ratio's total gives back: contract.
  What package ratio's Add gives back: contract.
  What package ratio's Sum gives back: contract.
  What package ratio's Sum gives back: contract.
  What package ratio's Sub gives back: contract.
  What package ratio's Text gives back: contract.
  What the laws' own awake gives back: contract.
  Words for the laws of ratios: boxes of two cells.
-/
import Derived.Test.YtnlgophgglgneaaNatP
import Derived.Test.YtnlgophgglgneaaNatC
import Derived.Lib.BitFns
import Derived.Lib.ItoaNum
import Derived.Laws.MathBits
import Derived.Outline
import Derived.Deep.LoopGhost
import Derived.Test.YtnlgophgglgneaaRatA
import Derived.Test.YtnlgophgglgneaaOpenP
namespace Go.Proofs.Ytnlgophgglgneaa
open Go.RowKit

/-! ### what is common -/
def gc (a b : Int) : Int := (Int.gcd a b : Int)
theorem gc_nat (x y : Nat) : gc (x : Int) (y : Int) = ((Nat.gcd x y : Nat) : Int) := rfl
theorem gc_step {a b : Int} (ha : 0 ≤ a) (hb : 0 ≤ b) : gc b (a % b) = gc a b := by
  obtain ⟨x, rfl⟩ := Int.eq_ofNat_of_zero_le ha
  obtain ⟨y, rfl⟩ := Int.eq_ofNat_of_zero_le hb
  have e : ((x : Int) % (y : Int)) = ((x % y : Nat) : Int) := by omega
  rw [e, gc_nat, gc_nat, Nat.gcd_comm x y, Nat.gcd_rec y x, Nat.gcd_comm]
theorem gc_zero {a : Int} (ha : 0 ≤ a) : gc a 0 = a := by
  obtain ⟨x, rfl⟩ := Int.eq_ofNat_of_zero_le ha
  show ((Nat.gcd x 0 : Nat) : Int) = _
  rw [Nat.gcd_zero_right]
theorem gc_pos {a b : Int} (hb : 0 < b) : 1 ≤ gc a b := by
  have h : 0 < Int.gcd a b := Int.gcd_pos_of_ne_zero_right a (by omega)
  unfold gc; omega
theorem gc_pos' {a b : Int} (ha : 0 < a) : 1 ≤ gc a b := by
  have h : 0 < Int.gcd a b := Int.gcd_pos_of_ne_zero_left b (by omega)
  unfold gc; omega
theorem gc_dvd {a b : Int} : gc a b ∣ a := Int.gcd_dvd_left a b
theorem gc_dvd' {a b : Int} : gc a b ∣ b := Int.gcd_dvd_right a b
theorem gc_le {a b : Int} (hb : 0 < b) : gc a b ≤ b := Int.le_of_dvd hb gc_dvd'

/-! ### a digit of a quotient -/
/-- the part of a number by y -/
theorem part_is {n q y : Int} (hy : 0 < y) (h1 : n / y ≤ q) (h2 : q * y ≤ n) : q = n / y := by
  have := Int.le_ediv_of_mul_le hy h2
  omega
theorem dg_start {y u c h l : Int} (hy : y = h * 4294967296 + l) (hh : 0 < h) (l0 : 0 ≤ l) (u0 : 0 ≤ u) (c1 : c < 4294967296) : (u * 4294967296 + c) / y ≤ u / h := by
  have e := Int.mul_ediv_add_emod u h
  have r1 := Int.emod_lt_of_pos u hh
  have q0 : 0 ≤ u / h := Int.ediv_nonneg u0 (by omega)
  have hy0 : 0 < y := by omega
  have k : (u * 4294967296 + c) / y < u / h + 1 := by
    refine Int.ediv_lt_of_lt_mul hy0 ?_
    subst hy
    have a1 : (u / h + 1) * (h * 4294967296 + l) = (h * (u / h)) * 4294967296 + h * 4294967296 + (u / h + 1) * l := by grind
    have a2 : 0 ≤ (u / h + 1) * l := Int.mul_nonneg (by omega) l0
    rw [a1]
    omega
  omega
theorem dg_lt {y u c : Int} (u1 : u < y) (hy : 0 < y) (c1 : c < 4294967296) : (u * 4294967296 + c) / y < 4294967296 := by
  refine Int.ediv_lt_of_lt_mul hy ?_
  omega
theorem dg_more {y u c h l q r : Int} (hy : y = h * 4294967296 + l) (y0 : 0 < y) (hq : q * h + r = u) (ht : r * 4294967296 + c < q * l) : (u * 4294967296 + c) / y < q := by
  refine Int.ediv_lt_of_lt_mul y0 ?_
  subst hy
  have a1 : q * (h * 4294967296 + l) = (q * h) * 4294967296 + q * l := by grind
  rw [a1]
  omega
theorem dg_stop {y u c h l q r : Int} (hy : y = h * 4294967296 + l) (y0 : 0 < y) (hq : q * h + r = u) (ht : q * l ≤ r * 4294967296 + c) (hQ : (u * 4294967296 + c) / y ≤ q) : q = (u * 4294967296 + c) / y := by
  refine part_is y0 hQ ?_
  subst hy
  have a1 : q * (h * 4294967296 + l) = (q * h) * 4294967296 + q * l := by grind
  rw [a1]
  omega
theorem dg_small {y u h l q r : Int} (hy : y = h * 4294967296 + l) (l1 : l < 4294967296) (h0 : 0 < h) (u1 : u < y) (hq : q * h + r = u) (hr : 4294967296 ≤ r) : q < 4294967296 := by
  have k : q * h < 4294967296 * h := by omega
  exact Int.lt_of_mul_lt_mul_right k (by omega)
theorem dg_prod {q l : Int} (q0 : 0 ≤ q) (q1 : q < 4294967296) (l0 : 0 ≤ l) (l1 : l < 4294967296) : 0 ≤ q * l ∧ q * l < 18446744073709551616 ∧ q * l ≤ 4294967295 * 4294967295 := by
  have a := Int.mul_nonneg q0 l0
  have b : q * l ≤ 4294967295 * l := Int.mul_le_mul_of_nonneg_right (by omega) l0
  omega
theorem dg_two {hi l1 l0 y : Int} (q1 : Int) (y0 : 0 < y) :
    (hi * 18446744073709551616 + (l1 * 4294967296 + l0)) / y = q1 * 4294967296 + ((hi * 4294967296 + l1 - q1 * y) * 4294967296 + l0) / y := by
  have e : hi * 18446744073709551616 + (l1 * 4294967296 + l0) = ((hi * 4294967296 + l1 - q1 * y) * 4294967296 + l0) + (q1 * 4294967296) * y := by grind
  rw [e, Int.add_mul_ediv_right _ _ (by omega)]
  omega

/-! ### the digits ahead, shifted up -/
theorem half_part {z e S T : Int} (hS : 0 < S) (hT : 0 < T) (e0 : 0 ≤ e) (e1 : e < S) : (z * S + e) / (T * S) = z / T := by
  have h1 := Int.mul_ediv_add_emod z T
  have h2 := Int.emod_nonneg z (show T ≠ 0 by omega)
  have h3 := Int.emod_lt_of_pos z hT
  have k : z * S + e = ((z % T) * S + e) + (z / T) * (T * S) := by
    have : z * S = (T * (z / T) + z % T) * S := by rw [h1]
    rw [this]; grind
  have a1 : 0 ≤ (z % T) * S := Int.mul_nonneg h2 (by omega)
  have a2 : (z % T) * S ≤ (T - 1) * S := Int.mul_le_mul_of_nonneg_right (by omega) (by omega)
  have a3 : (T - 1) * S = T * S - S := by grind
  rw [k, Int.add_mul_ediv_right _ _ (by have := Int.mul_pos hT hS; omega), Int.ediv_eq_zero_of_lt (by omega) (by omega)]
  omega
/-- what of the lower digits comes up -/
theorem low_up {B S T : Int} (hB : B = T * S) (hS : 0 < S) (hT : 0 < T) (ds : List Int) (hd : Digs B ds) : val B ds * S / B ^ ds.length = ds.getD (ds.length - 1) 0 / T := by
  have B0 : 0 < B := by rw [hB]; exact Int.mul_pos hT hS
  rcases List.eq_nil_or_concat ds with rfl | ⟨l, z, rfl⟩
  · simp [val]
  · rw [List.concat_eq_append] at hd ⊢
    have hz := hd z (by simp)
    have hl : Digs B l := fun x hx => hd x (by simp [hx])
    have v0 := val_nonneg B0 hl
    have v1 := val_lt B0 hl
    have p0 := ipow_pos B0 l.length
    have g : (l ++ [z]).getD ((l ++ [z]).length - 1) 0 = z := by simp
    have X : val B (l ++ [z]) * S = val B l * S + (z * S) * B ^ l.length := by
      rw [val_append]; simp only [val]; grind
    rw [g, List.length_append, List.length_singleton, Int.pow_succ, ← Int.ediv_ediv_of_nonneg (by omega), X, Int.add_mul_ediv_right _ _ (by omega), Int.add_comm]
    have e0 : 0 ≤ val B l * S / B ^ l.length := Int.ediv_nonneg (Int.mul_nonneg v0 (by omega)) (by omega)
    have e1 : val B l * S / B ^ l.length < S := Int.ediv_lt_of_lt_mul p0 (by rw [Int.mul_comm S]; exact Int.mul_lt_mul_of_pos_right v1 hS)
    rw [show (z * S + val B l * S / B ^ l.length) / B = (z * S + val B l * S / B ^ l.length) / (T * S) by rw [← hB]]
    exact half_part hS hT e0 e1
/-- a digit of the number times S -/
def hd (S T : Int) (zs : List Int) (i : Nat) : Int := (zs.getD i 0 * S) % 4294967296 + (if i = 0 then 0 else zs.getD (i - 1) 0 / T)
end Go.Proofs.Ytnlgophgglgneaa
namespace Go.Proofs.Ytnlgophgglgneaa
open Go.RowKit

theorem val_three {B : Int} (zs : List Int) (k : Nat) : val B (zs.drop k) = zs.getD k 0 + B * (zs.getD (k + 1) 0 + B * (zs.getD (k + 2) 0 + B * val B (zs.drop (k + 3)))) := by
  rw [val_drop B zs k, val_drop B zs (k + 1), val_drop B zs (k + 2)]
theorem vsplit_at (B : Int) (zs : List Int) (k : Nat) (hk : k ≤ zs.length) : val B zs = val B (zs.take k) + B ^ k * val B (zs.drop k) := by
  conv => lhs; rw [← List.take_append_drop k zs, val_append]
  rw [List.length_take, Nat.min_eq_left hk]
/-- the digits ahead of a number that is shifted up by S -/
theorem ahead {S T : Int} (hB : 4294967296 = T * S) (hS : 0 < S) (hT : 0 < T) (zs : List Int) (hz : Digs 4294967296 zs) (k : Nat) (hk : k ≤ zs.length) :
    val 4294967296 zs * S / 4294967296 ^ k = hd S T zs k + 4294967296 * (hd S T zs (k + 1) + 4294967296 * (hd S T zs (k + 2) + 4294967296 * (zs.getD (k + 2) 0 / T + S * val 4294967296 (zs.drop (k + 3))))) := by
  have p0 := ipow_pos (B := 4294967296) (by omega) k
  have lw := low_up hB hS hT (zs.take k) (hz.take k)
  rw [List.length_take, Nat.min_eq_left hk] at lw
  have e1 : val 4294967296 zs * S = val 4294967296 (zs.take k) * S + (val 4294967296 (zs.drop k) * S) * 4294967296 ^ k := by
    rw [vsplit_at 4294967296 zs k hk]; grind
  have lo : (zs.take k).getD (k - 1) 0 / T = (if k = 0 then 0 else zs.getD (k - 1) 0 / T) := by
    by_cases h : k = 0
    · subst h; simp
    · rw [if_neg h, List.getD_eq_getElem?_getD, List.getElem?_take_of_lt (by omega), ← List.getD_eq_getElem?_getD]
  rw [lo] at lw
  rw [e1, Int.add_mul_ediv_right _ _ (by omega), lw, val_three zs k]
  have sp : ∀ z : Int, z * S = (z * S) % 4294967296 + 4294967296 * (z / T) := fun z => by
    have h1 := Int.mul_ediv_add_emod (z * S) 4294967296
    have h2 := half_part (z := z) (e := 0) hS hT (by omega) hS
    rw [Int.add_zero, ← hB] at h2
    rw [h2] at h1
    omega
  have s0 := sp (zs.getD k 0)
  have s1 := sp (zs.getD (k + 1) 0)
  have s2 := sp (zs.getD (k + 2) 0)
  unfold hd
  rw [if_neg (show ¬ k + 1 = 0 by omega), if_neg (show ¬ k + 2 = 0 by omega), show k + 1 - 1 = k by omega, show k + 2 - 1 = k + 1 by omega]
  generalize zs.getD k 0 = a at *
  generalize zs.getD (k + 1) 0 = b at *
  generalize zs.getD (k + 2) 0 = c at *
  generalize val 4294967296 (zs.drop (k + 3)) = v
  generalize (if k = 0 then 0 else zs.getD (k - 1) 0 / T) = f
  have e2 : (a + 4294967296 * (b + 4294967296 * (c + 4294967296 * v))) * S = a * S + 4294967296 * (b * S + 4294967296 * (c * S + 4294967296 * (S * v))) := by grind
  rw [e2]
  generalize a * S = A at *
  generalize b * S = Bq at *
  generalize c * S = C at *
  generalize S * v = V at *
  omega
theorem hd_out {S T : Int} (zs : List Int) (i : Nat) (h : zs.length < i) : hd S T zs i = 0 := by
  unfold hd
  rw [List.getD_eq_getElem?_getD, List.getElem?_eq_none (by omega), List.getD_eq_getElem?_getD, List.getElem?_eq_none (by omega)]
  simp
theorem ahead_any {S T : Int} (hB : 4294967296 = T * S) (hS : 0 < S) (hT : 0 < T) (zs : List Int) (hz : Digs 4294967296 zs) (k : Nat) :
    val 4294967296 zs * S / 4294967296 ^ k = hd S T zs k + 4294967296 * (hd S T zs (k + 1) + 4294967296 * (hd S T zs (k + 2) + 4294967296 * (zs.getD (k + 2) 0 / T + S * val 4294967296 (zs.drop (k + 3))))) := by
  rcases Nat.lt_or_ge zs.length k with g | g
  · rw [hd_out zs k g, hd_out zs (k + 1) (by omega), hd_out zs (k + 2) (by omega), List.drop_eq_nil_of_le (by omega), List.getD_eq_getElem?_getD, List.getElem?_eq_none (by omega)]
    have v0 := val_nonneg (show (0 : Int) < 4294967296 by omega) hz
    have v1 := val_lt (show (0 : Int) < 4294967296 by omega) hz
    have h1 : val 4294967296 zs * S < 4294967296 ^ k := by
      have a1 : val 4294967296 zs * S < 4294967296 ^ zs.length * S := Int.mul_lt_mul_of_pos_right v1 hS
      have sT : S ≤ T * S := by
        have := Int.mul_le_mul_of_nonneg_right (show 1 ≤ T by omega) (show 0 ≤ S by omega)
        omega
      have a2 : 4294967296 ^ zs.length * S ≤ 4294967296 ^ zs.length * 4294967296 := Int.mul_le_mul_of_nonneg_left (by omega) (Int.le_of_lt (ipow_pos (by omega) _))
      have a3 := ipow_le (B := 4294967296) (by omega) (show zs.length + 1 ≤ k by omega)
      rw [Int.pow_succ] at a3
      omega
    rw [Int.ediv_eq_zero_of_lt (Int.mul_nonneg v0 (by omega)) h1]
    simp [val]
  · exact ahead hB hS hT zs hz k g
theorem hd_bd {S T : Int} (hB : 4294967296 = T * S) (hS : 0 < S) (hT : 0 < T) (zs : List Int) (hz : Digs 4294967296 zs) (i : Nat) : 0 ≤ hd S T zs i ∧ hd S T zs i < 4294967296 := by
  have z0 := hz.getD (by omega) i
  have y0 := hz.getD (by omega) (i - 1)
  -- the lower part of the product is a multiple of S
  have m0 := Int.emod_nonneg (zs.getD i 0 * S) (show (4294967296 : Int) ≠ 0 by omega)
  have m1 := Int.emod_lt_of_pos (zs.getD i 0 * S) (show (0 : Int) < 4294967296 by omega)
  have q0 : 0 ≤ (if i = 0 then 0 else zs.getD (i - 1) 0 / T) := by split; omega; exact Int.ediv_nonneg y0.1 (by omega)
  have q1 : (if i = 0 then 0 else zs.getD (i - 1) 0 / T) ≤ S - 1 := by
    split
    · omega
    · have : zs.getD (i - 1) 0 / T < S := Int.ediv_lt_of_lt_mul hT (by rw [Int.mul_comm, ← hB]; exact y0.2)
      omega
  have d1 : S ∣ (zs.getD i 0 * S) % 4294967296 := by
    refine ⟨zs.getD i 0 - T * (zs.getD i 0 * S / 4294967296), ?_⟩
    have h1 := Int.emod_def (zs.getD i 0 * S) 4294967296
    have h2 : 4294967296 * (zs.getD i 0 * S / 4294967296) = (T * S) * (zs.getD i 0 * S / 4294967296) := by rw [← hB]
    rw [h1, h2]; grind
  obtain ⟨c, hc⟩ := d1
  have c1 : c < T := by
    have : S * c < S * T := by rw [← hc, Int.mul_comm S T, ← hB]; exact m1
    exact Int.lt_of_mul_lt_mul_left this (by omega)
  have c2 : S * c ≤ S * (T - 1) := Int.mul_le_mul_of_nonneg_left (by omega) (by omega)
  have c3 : S * (T - 1) = 4294967296 - S := by rw [hB]; grind
  unfold hd
  omega
/-- a guess by the digits ahead is the part, or one more -/
theorem guess_is {A a b X Ah a' Bh b' : Int} (X0 : 0 < X) (hA : A = Ah * X + a') (a0 : 0 ≤ a') (a1 : a' < X) (hb : b = Bh * X + b') (b0 : 0 ≤ b') (b1 : b' < X) (hB : 4294967296 ≤ Bh) (A0 : 0 ≤ A) (A1 : A < b * 4294967296) (ha : a = A / b) :
    a ≤ Ah / Bh ∧ Ah / Bh ≤ a + 1 := by
  have Bx : 4294967296 * X ≤ Bh * X := Int.mul_le_mul_of_nonneg_right hB (by omega)
  have bp : 0 < b := by omega
  have Bp : 0 < Bh := by omega
  have Ah0 : 0 ≤ Ah := by
    rcases Int.lt_or_le Ah 0 with h | h
    · exfalso
      have : Ah * X ≤ (-1) * X := Int.mul_le_mul_of_nonneg_right (by omega) (by omega)
      omega
    · exact h
  have q0 : 0 ≤ Ah / Bh := Int.ediv_nonneg Ah0 (by omega)
  have e1 := Int.mul_ediv_add_emod Ah Bh
  have e2 := Int.emod_nonneg Ah (show Bh ≠ 0 by omega)
  have e3 := Int.emod_lt_of_pos Ah Bp
  constructor
  · -- not too small
    subst ha
    have : A / b < Ah / Bh + 1 := by
      refine Int.ediv_lt_of_lt_mul bp ?_
      have k1 : Ah * X < (Bh * (Ah / Bh + 1)) * X := Int.mul_lt_mul_of_pos_right (by rw [Int.mul_add]; omega) X0
      have k2 : (Ah + 1) * X ≤ (Bh * (Ah / Bh + 1)) * X := Int.mul_le_mul_of_nonneg_right (by rw [Int.mul_add]; omega) (by omega)
      have k3 : (Ah / Bh + 1) * b = (Bh * (Ah / Bh + 1)) * X + (Ah / Bh + 1) * b' := by rw [hb]; grind
      have k4 : 0 ≤ (Ah / Bh + 1) * b' := Int.mul_nonneg (by omega) b0
      have k5 : (Ah + 1) * X = Ah * X + X := by grind
      rw [k3]; omega
    omega
  · -- not too great
    have qW : Ah / Bh ≤ 4294967296 := by
      have k1 : Ah * X < (Bh * 4294967296 + 4294967296) * X := by
        have : b * 4294967296 < (Bh * 4294967296 + 4294967296) * X := by
          have : (Bh * 4294967296 + 4294967296) * X = (Bh * X) * 4294967296 + X * 4294967296 := by grind
          rw [this]; omega
        omega
      have k2 : Ah < Bh * 4294967296 + 4294967296 := Int.lt_of_mul_lt_mul_right k1 (by omega)
      have k3 : Ah / Bh < 4294967296 + 1 := Int.ediv_lt_of_lt_mul Bp (by omega)
      omega
    have k1 : (Ah / Bh) * b = (Bh * (Ah / Bh)) * X + (Ah / Bh) * b' := by rw [hb]; grind
    have k2 : (Bh * (Ah / Bh)) * X ≤ Ah * X := Int.mul_le_mul_of_nonneg_right (by omega) (by omega)
    have k3 : (Ah / Bh) * b' ≤ 4294967296 * b' := Int.mul_le_mul_of_nonneg_right qW b0
    have k4 : (Ah / Bh - 1) * b ≤ A := by
      rw [Int.sub_mul, k1]; omega
    have k5 := Int.le_ediv_of_mul_le bp k4
    omega

theorem guess_fact {za zb : List Int} {m n S T : Int} {tp : Nat} (hB : 4294967296 = T * S) (hS : 0 < S) (hT : 0 < T) (ia : Is 4294967296 za m) (ib : Is 4294967296 zb n) (lb : zb.length = tp + 1) (t1 : 1 ≤ tp)
    (x0 : 2147483648 ≤ zb.getD tp 0 * S) (x1 : zb.getD tp 0 < T) (hmn : m < n * 4294967296) :
    2147483648 ≤ hd S T zb tp ∧ m / n ≤ (hd S T za (tp + 1) * 18446744073709551616 + (hd S T za tp * 4294967296 + hd S T za (tp - 1))) / (hd S T zb tp * 4294967296 + hd S T zb (tp - 1)) ∧
      (hd S T za (tp + 1) * 18446744073709551616 + (hd S T za tp * 4294967296 + hd S T za (tp - 1))) / (hd S T zb tp * 4294967296 + hd S T zb (tp - 1)) ≤ m / n + 1 := by
  obtain ⟨k, rfl⟩ : ∃ k, tp = k + 1 := ⟨tp - 1, by omega⟩
  rw [show k + 1 - 1 = k by omega, show k + 1 + 1 = k + 2 by omega]
  have p0 := ipow_pos (B := 4294967296) (by omega) k
  have hb := ahead_any hB hS hT zb ib.1 k
  have ha := ahead_any hB hS hT za ia.1 k
  have b0 := hd_bd hB hS hT zb ib.1 k
  have b1 := hd_bd hB hS hT zb ib.1 (k + 1)
  have a0 := hd_bd hB hS hT za ia.1 k
  have a1 := hd_bd hB hS hT za ia.1 (k + 1)
  have a2 := hd_bd hB hS hT za ia.1 (k + 2)
  have z0 := ib.1.getD (show (0 : Int) < 4294967296 by omega) (k + 1)
  have e1 : hd S T zb (k + 2) = 0 := by
    unfold hd
    rw [if_neg (by omega), show k + 2 - 1 = k + 1 by omega, List.getD_eq_getElem?_getD, List.getElem?_eq_none (by omega), Int.ediv_eq_zero_of_lt z0.1 x1]
    simp
  rw [e1, List.drop_eq_nil_of_le (show zb.length ≤ k + 3 by omega), show zb.getD (k + 2) 0 / T = 0 by rw [List.getD_eq_getElem?_getD, List.getElem?_eq_none (by omega)]; simp] at hb
  simp only [val, Int.mul_zero, Int.add_zero] at hb
  have xW : zb.getD (k + 1) 0 * S < 4294967296 := by rw [hB]; exact Int.mul_lt_mul_of_pos_right x1 hS
  have b2 : 2147483648 ≤ hd S T zb (k + 1) := by
    unfold hd
    rw [Int.emod_eq_of_lt (by omega) xW, if_neg (by omega)]
    have := Int.ediv_nonneg (ib.1.getD (show (0 : Int) < 4294967296 by omega) (k + 1 - 1)).1 (show 0 ≤ T by omega)
    omega
  rw [ia.2.2] at ha
  rw [ib.2.2] at hb
  have m0 := ia.nonneg (by omega)
  have n0 := ib.nonneg (by omega)
  have y0 := ia.1.getD (show (0 : Int) < 4294967296 by omega) (k + 2)
  have v0 := val_nonneg (show (0 : Int) < 4294967296 by omega) (ia.1.drop (k + 3))
  have u0 : 0 ≤ za.getD (k + 2) 0 / T := Int.ediv_nonneg y0.1 (by omega)
  have u1 : 0 ≤ S * val 4294967296 (za.drop (k + 3)) := Int.mul_nonneg (by omega) v0
  -- the number's own digits end there
  have nS : n * S < 4294967296 ^ (k + 2) := by
    have h1 := Int.lt_ediv_add_one_mul_self (n * S) p0
    rw [hb] at h1
    have h2 : (hd S T zb k + 4294967296 * hd S T zb (k + 1) + 1) * 4294967296 ^ k ≤ (4294967296 * 4294967296) * 4294967296 ^ k := Int.mul_le_mul_of_nonneg_right (by omega) (by omega)
    have h3 : (4294967296 : Int) ^ (k + 2) = (4294967296 * 4294967296) * 4294967296 ^ k := by rw [Int.pow_succ, Int.pow_succ]; grind
    omega
  have mS : m * S < 4294967296 ^ (k + 3) := by
    have h1 : m * S < (n * 4294967296) * S := Int.mul_lt_mul_of_pos_right hmn hS
    have h2 : (n * 4294967296) * S = n * S * 4294967296 := by grind
    rw [Int.pow_succ]
    omega
  have top : m * S / 4294967296 ^ k < 79228162514264337593543950336 := by
    refine Int.ediv_lt_of_lt_mul p0 ?_
    have h3 : (4294967296 : Int) ^ (k + 3) = 79228162514264337593543950336 * 4294967296 ^ k := by rw [Int.pow_succ, Int.pow_succ, Int.pow_succ]; grind
    omega
  have z : za.getD (k + 2) 0 / T + S * val 4294967296 (za.drop (k + 3)) = 0 := by omega
  rw [z] at ha
  have hA : m * S / 4294967296 ^ k = hd S T za (k + 2) * 18446744073709551616 + (hd S T za (k + 1) * 4294967296 + hd S T za k) := by omega
  have hBq : n * S / 4294967296 ^ k = hd S T zb (k + 1) * 4294967296 + hd S T zb k := by omega
  refine ⟨b2, ?_⟩
  rw [← hA, ← hBq]
  have q1 := Int.mul_ediv_add_emod (m * S) (4294967296 ^ k)
  have q2 := Int.mul_ediv_add_emod (n * S) (4294967296 ^ k)
  rw [Int.mul_comm (4294967296 ^ k)] at q1 q2
  refine guess_is (A := m * S) (b := n * S) (X := 4294967296 ^ k) (a' := m * S % 4294967296 ^ k) (b' := n * S % 4294967296 ^ k) p0 q1.symm (Int.emod_nonneg _ (by omega)) (Int.emod_lt_of_pos _ p0) q2.symm (Int.emod_nonneg _ (by omega)) (Int.emod_lt_of_pos _ p0) (by rw [hBq]; omega) (Int.mul_nonneg m0 (by omega)) ?_ ?_
  · have h1 : m * S < (n * 4294967296) * S := Int.mul_lt_mul_of_pos_right hmn hS
    have h2 : (n * 4294967296) * S = n * S * 4294967296 := by grind
    omega
  · rw [Int.mul_ediv_mul_of_pos_left _ _ hS]

/-! ### least ratios -/
def Lo (n d : Int) : Prop := 0 ≤ n ∧ 0 < d ∧ gc n d = 1
theorem lo_nat {x y : Nat} (hy : 0 < y) (h : Nat.gcd x y = 1) : Lo (x : Int) (y : Int) := ⟨by omega, by omega, by rw [gc_nat, h]; rfl⟩
theorem Lo.nat {n d : Int} (h : Lo n d) : ∃ x y : Nat, n = x ∧ d = y ∧ 0 < y ∧ Nat.gcd x y = 1 := by
  obtain ⟨h1, h2, h3⟩ := h
  obtain ⟨x, rfl⟩ := Int.eq_ofNat_of_zero_le h1
  obtain ⟨y, rfl⟩ := Int.eq_ofNat_of_zero_le (show 0 ≤ d by omega)
  rw [gc_nat] at h3
  exact ⟨x, y, rfl, rfl, by omega, by omega⟩
theorem lo_unique {n d n' d' : Int} (h : Lo n d) (h' : Lo n' d') (e : n * d' = n' * d) : n = n' ∧ d = d' := by
  obtain ⟨x, y, rfl, rfl, y0, g⟩ := h.nat
  obtain ⟨x', y', rfl, rfl, y0', g'⟩ := h'.nat
  have e' : x * y' = x' * y := by exact_mod_cast e
  have d1 : y ∣ y' := (Nat.Coprime.symm g).dvd_of_dvd_mul_left (e' ▸ Nat.dvd_mul_left y x')
  have d2 : y' ∣ y := (Nat.Coprime.symm g').dvd_of_dvd_mul_left (e' ▸ Nat.dvd_mul_left y' x)
  have := Nat.dvd_antisymm d1 d2
  subst this
  have := Nat.eq_of_mul_eq_mul_right y0 e'
  exact ⟨by rw [this], rfl⟩
theorem lo_least {n d : Int} (hn : 0 ≤ n) (hd : 0 < d) : Lo (n / gc n d) (d / gc n d) ∧ (n / gc n d) * d = n * (d / gc n d) := by
  obtain ⟨x, rfl⟩ := Int.eq_ofNat_of_zero_le hn
  obtain ⟨y, rfl⟩ := Int.eq_ofNat_of_zero_le (show 0 ≤ d by omega)
  have y0 : 0 < y := by omega
  have g0 : 0 < Nat.gcd x y := Nat.gcd_pos_of_pos_right x y0
  rw [gc_nat, ← Int.natCast_ediv, ← Int.natCast_ediv]
  obtain ⟨a, ha⟩ := Nat.gcd_dvd_left x y
  obtain ⟨b, hb⟩ := Nat.gcd_dvd_right x y
  have e1 : x / Nat.gcd x y = a := Nat.div_eq_of_eq_mul_right g0 ha
  have e2 : y / Nat.gcd x y = b := Nat.div_eq_of_eq_mul_right g0 hb
  refine ⟨lo_nat (Nat.div_pos (Nat.le_of_dvd y0 (Nat.gcd_dvd_right x y)) g0) (Nat.gcd_div_gcd_div_gcd_of_pos_right y0), ?_⟩
  rw [e1, e2]
  generalize Nat.gcd x y = g at *
  subst ha hb
  have : a * (g * b) = g * a * b := by grind
  exact_mod_cast this
theorem cop_any {t a b g : Nat} (ha : Nat.Coprime t a) (hb : Nat.Coprime t b) (g0 : 0 < g) : Nat.Coprime (t / Nat.gcd t g) (a * (g * b / Nat.gcd t g)) := by
  have p0 : 0 < Nat.gcd t g := Nat.gcd_pos_of_pos_right t g0
  have c := Nat.gcd_div_gcd_div_gcd_of_pos_right (n := t) g0
  obtain ⟨x, hx⟩ := Nat.gcd_dvd_left t g
  obtain ⟨y, hy⟩ := Nat.gcd_dvd_right t g
  have e1 : t / Nat.gcd t g = x := Nat.div_eq_of_eq_mul_right p0 hx
  have e2 : g / Nat.gcd t g = y := Nat.div_eq_of_eq_mul_right p0 hy
  have e3 : g * b / Nat.gcd t g = y * b := Nat.div_eq_of_eq_mul_right p0 (by rw [← Nat.mul_assoc, ← hy])
  rw [e1, e2] at c
  rw [e1, e3]
  have dx : x ∣ t := ⟨Nat.gcd t g, by rw [Nat.mul_comm]; exact hx⟩
  exact Nat.Coprime.mul_right (Nat.Coprime.coprime_dvd_left dx ha) (Nat.Coprime.mul_right c (Nat.Coprime.coprime_dvd_left dx hb))
theorem cop_add {t k a : Nat} : Nat.Coprime (t + k * a) a ↔ Nat.Coprime t a := by
  unfold Nat.Coprime
  rw [Nat.gcd_add_mul_right_left]
theorem cop_sum {x1 x2 a b t : Nat} (h1 : Nat.Coprime x1 a) (h2 : Nat.Coprime x2 b) (hab : Nat.Coprime a b) (ht : t = x1 * b + x2 * a ∨ t + x2 * a = x1 * b) : Nat.Coprime t a ∧ Nat.Coprime t b := by
  have k1 : Nat.Coprime (x1 * b) a := Nat.Coprime.mul_left h1 hab.symm
  have k2 : Nat.Coprime (x2 * a) b := Nat.Coprime.mul_left h2 hab
  rcases ht with rfl | ht
  · exact ⟨cop_add.mpr k1, by rw [Nat.add_comm]; exact cop_add.mpr k2⟩
  · constructor
    · rw [← ht] at k1; exact cop_add.mp k1
    · have : Nat.gcd t b ∣ 1 := by
        rw [← k2]
        have d1 : Nat.gcd t b ∣ x1 * b := Nat.dvd_trans (Nat.gcd_dvd_right t b) (Nat.dvd_mul_left b x1)
        rw [← ht] at d1
        exact Nat.dvd_gcd ((Nat.dvd_add_iff_right (Nat.gcd_dvd_left t b)).mpr d1) (Nat.gcd_dvd_right t b)
      exact Nat.dvd_one.mp this
/-- two least ratios to one Den, their sum or what is left at its least -/
theorem lo_sum {n1 d1 n2 d2 t : Int} (h1 : Lo n1 d1) (h2 : Lo n2 d2) (t0 : 0 ≤ t) (ht : t = n1 * (d2 / gc d1 d2) + n2 * (d1 / gc d1 d2) ∨ t + n2 * (d1 / gc d1 d2) = n1 * (d2 / gc d1 d2)) :
    Lo (t / gc t (gc d1 d2)) (d1 / gc d1 d2 * (d2 / gc t (gc d1 d2))) ∧ t / gc t (gc d1 d2) * (d1 * d2) = t * gc d1 d2 * (d1 / gc d1 d2 * (d2 / gc t (gc d1 d2))) := by
  obtain ⟨x1, y1, rfl, rfl, p1, g1⟩ := h1.nat
  obtain ⟨x2, y2, rfl, rfl, p2, g2⟩ := h2.nat
  obtain ⟨s, rfl⟩ := Int.eq_ofNat_of_zero_le t0
  rw [gc_nat] at ht ⊢
  have g0 : 0 < Nat.gcd y1 y2 := Nat.gcd_pos_of_pos_right y1 p2
  have cab := Nat.gcd_div_gcd_div_gcd_of_pos_right (n := y1) p2
  obtain ⟨a, ha⟩ := Nat.gcd_dvd_left y1 y2
  obtain ⟨b, hb⟩ := Nat.gcd_dvd_right y1 y2
  have e1 : y1 / Nat.gcd y1 y2 = a := Nat.div_eq_of_eq_mul_right g0 ha
  have e2 : y2 / Nat.gcd y1 y2 = b := Nat.div_eq_of_eq_mul_right g0 hb
  rw [e1, e2] at cab
  rw [gc_nat]
  rw [← Int.natCast_ediv, ← Int.natCast_ediv, ← Int.natCast_ediv, e1]
  rw [← Int.natCast_ediv, ← Int.natCast_ediv, e1, e2] at ht
  generalize Nat.gcd y1 y2 = g at *
  have ht' : s = x1 * b + x2 * a ∨ s + x2 * a = x1 * b := by
    rcases ht with h | h
    · exact .inl (by exact_mod_cast h)
    · exact .inr (by exact_mod_cast h)
  subst ha hb
  have ca : Nat.Coprime x1 a := Nat.Coprime.coprime_dvd_right ⟨g, Nat.mul_comm _ _⟩ g1
  have cb : Nat.Coprime x2 b := Nat.Coprime.coprime_dvd_right ⟨g, Nat.mul_comm _ _⟩ g2
  obtain ⟨k1, k2⟩ := cop_sum ca cb cab ht'
  have co := cop_any k1 k2 g0
  have q0 : 0 < Nat.gcd s g := Nat.gcd_pos_of_pos_right s g0
  obtain ⟨x, hx⟩ := Nat.gcd_dvd_left s g
  obtain ⟨y, hy⟩ := Nat.gcd_dvd_right s g
  have f1 : s / Nat.gcd s g = x := Nat.div_eq_of_eq_mul_right q0 hx
  have f3 : g * b / Nat.gcd s g = y * b := by
    refine Nat.div_eq_of_eq_mul_right q0 ?_
    rw [← Nat.mul_assoc, ← hy]
  rw [f1, f3] at co
  have pos : 0 < a * (y * b) := by
    rcases Nat.eq_zero_or_pos (a * (y * b)) with h | h
    · exfalso
      rcases Nat.mul_eq_zero.mp h with h | h
      · subst h; simp at p1
      · rcases Nat.mul_eq_zero.mp h with h | h
        · subst h; simp at hy; omega
        · subst h; simp at p2
    · exact h
  rw [f1, f3]
  constructor
  · have := lo_nat pos co
    exact_mod_cast this
  · have : x * (g * a * (g * b)) = s * g * (a * (y * b)) := by
      have e : s = Nat.gcd s g * x := hx
      generalize Nat.gcd s g = m at *
      subst e
      subst hy
      grind
    exact_mod_cast this
end Go.Proofs.Ytnlgophgglgneaa
namespace Go.Proofs.Ytnlgophgglgneaa
open Go.RowKit

/-- x has just L bits -/
def BitsOf (x : Int) (L : Nat) : Prop := 1 ≤ L ∧ (2 : Int) ^ (L - 1) ≤ x ∧ x < 2 ^ L
theorem bits_of {x : Int} (h0 : 0 < x) (h1 : x ≤ 18446744073709551615) : BitsOf x (Lib.bitLen x.toNat) := by
  obtain ⟨n, rfl⟩ := Int.eq_ofNat_of_zero_le (show 0 ≤ x by omega)
  have h := Lib.bitLenAux_bounds 64 n (by omega) (by omega)
  rw [Int.toNat_natCast]
  exact ⟨h.1, by have := h.2.1; unfold Lib.bitLen; exact_mod_cast this, by have := h.2.2; unfold Lib.bitLen; exact_mod_cast this⟩
def HasBits (w : World) (x : Int) (e : Ending) (w' : World) : Prop := ∃ L : Nat, e = .returned (.int .i64 L) ∧ BitsOf x L ∧ w = w'

theorem tab_size : (Lib.len8tab.size : Int) = 256 := by rw [Lib.len8tab_size]; rfl
theorem tab_in {y : Int} (h0 : 0 ≤ y) (h1 : y ≤ 255) : 0 ≤ y ∧ y < (Lib.len8tab.size : Int) := by rw [tab_size]; omega
theorem tab_at {y : Int} {n : Nat} (h : y.toNat < Lib.len8tab.size) (h0 : 0 ≤ y) (h1 : y ≤ 255) (e : y.toNat = n) : ((Lib.len8tab[y.toNat]'h).toNat : Int) = (Lib.bitLen n : Int) := by
  have := Lib.len8_of y h0 h1
  unfold Lib.len8 at this
  rw [getElem?_pos Lib.len8tab y.toNat h] at this
  rw [← e]
  exact this
theorem wrap_two {k : Int} {n m : Nat} (hk : 0 ≤ k) (h1 : k ≤ 56) (hn : Lib.bitLen n ≤ 8) (hm : (m : Int) = k + Lib.bitLen n) : wrap64 (k + wrap64 (Lib.bitLen n : Int)) = m := by
  unfold wrap64; omega
theorem wrap_one' {n m : Nat} (hn : Lib.bitLen n ≤ 8) (hm : (m : Int) = Lib.bitLen n) : wrap64 (wrap64 (Lib.bitLen n : Int)) = m := by
  unfold wrap64; omega
theorem le8 {n : Nat} (h : n < 256) : Lib.bitLen n ≤ 8 := Lib.bitLen_le8 ⟨n, h⟩

set_option maxHeartbeats 4000000 in
set_option maxRecDepth 100000 in
theorem len32_any (x : Int) (w : World) (h0 : 0 < x) (h1 : x ≤ 4294967295) : Calls Try.prog 90 #[.int .u32 x] w (HasBits w x) := by
  have H := Lib.hid (bits_of h0 (by omega))
  have h00 : 0 ≤ x := by omega
  by_cases g1 : 65536 ≤ x
  · by_cases g2 : 16777216 ≤ x
    · have E := Lib.hid (show Lib.bitLen x.toNat = 24 + Lib.bitLen (x.toNat / 16777216) from Lib.bitLen_shift24 x.toNat (by omega) (by omega))
      have g2' : 256 ≤ x / 65536 := by omega
      have ib := tab_in (y := x / 65536 / 256) (by omega) (by omega)
      go_enter Try.func90, Try.ntmps90
      go_wp2
      go_ret
      refine ⟨_, ret_one ?_, H.out, rfl⟩
      rw [tab_at (n := x.toNat / 16777216) _ (by omega) (by omega) (by omega)]
      exact wrap_two (by omega) (by omega) (le8 (by omega)) (by rw [E.out]; rfl)
    · have E := Lib.hid (show Lib.bitLen x.toNat = 16 + Lib.bitLen (x.toNat / 65536) from Lib.bitLen_shift16 x.toNat (by omega) (by omega))
      have g2' : x / 65536 < 256 := by omega
      have ib := tab_in (y := x / 65536) (by omega) (by omega)
      go_enter Try.func90, Try.ntmps90
      go_wp2
      go_ret
      refine ⟨_, ret_one ?_, H.out, rfl⟩
      rw [tab_at (n := x.toNat / 65536) _ (by omega) (by omega) (by omega)]
      exact wrap_two (by omega) (by omega) (le8 (by omega)) (by rw [E.out]; rfl)
  · by_cases g2 : 256 ≤ x
    · have E := Lib.hid (show Lib.bitLen x.toNat = 8 + Lib.bitLen (x.toNat / 256) from Lib.bitLen_shift8 x.toNat (by omega) (by omega))
      have ib := tab_in (y := x / 256) (by omega) (by omega)
      go_enter Try.func90, Try.ntmps90
      go_wp2
      go_ret
      refine ⟨_, ret_one ?_, H.out, rfl⟩
      rw [tab_at (n := x.toNat / 256) _ (by omega) (by omega) (by omega)]
      exact wrap_two (by omega) (by omega) (le8 (by omega)) (by rw [E.out]; rfl)
    · have ib := tab_in (y := x) (by omega) (by omega)
      go_enter Try.func90, Try.ntmps90
      go_wp2
      go_ret
      refine ⟨_, ret_one ?_, H.out, rfl⟩
      rw [tab_at (n := x.toNat) _ (by omega) (by omega) (by omega)]
      exact wrap_one' (le8 (by omega)) rfl
/-- how far a number of 32 bits can be shifted up -/
def UpOf (w : World) (x : Int) (e : Ending) (w' : World) : Prop := ∃ up : Nat, e = .returned (.int .i64 up) ∧ up ≤ 31 ∧ (2 : Int) ^ (31 - up) ≤ x ∧ x < 2 ^ (32 - up) ∧ w = w'
theorem lead32_any (x : Int) (w : World) (h0 : 0 < x) (h1 : x ≤ 4294967295) : Calls Try.prog 132 #[.int .u32 x] w (UpOf w x) := by
  go_enter Try.func132, Try.ntmps132
  go_wp2_with fail
  refine (len32_any x w h0 h1).mono ?_
  rintro e w' ⟨L, rfl, hL, rfl⟩
  have l1 := hL.1
  have l2 : L ≤ 32 := by
    rcases Nat.lt_or_ge 32 L with g | g
    · exfalso
      have h3 := hL.2.1
      have h4 := ipow_le (B := 2) (by omega) (show 32 ≤ L - 1 by omega)
      omega
    · exact g
  have HL := Lib.hid hL
  clear hL
  go_wp2
  go_ret
  refine ⟨32 - L, ret_one (by omega), by omega, ?_, ?_, rfl⟩
  · rw [show 31 - (32 - L) = L - 1 by omega]; exact HL.out.2.1
  · rw [show 32 - (32 - L) = L by omega]; exact HL.out.2.2

set_option maxHeartbeats 4000000 in
set_option maxRecDepth 100000 in
theorem len64_top (x : Int) (w : World) (h0 : 9223372036854775808 ≤ x) (h1 : x ≤ 18446744073709551615) : Calls Try.prog 91 #[.int .u64 x] w fun e w' => e = .returned (.int .i64 64) ∧ w = w' := by
  have E := Lib.hid (show Lib.bitLen (x.toNat / 72057594037927936) = 8 by
    have l := Lib.bitLenAux_bounds 64 (x.toNat / 72057594037927936) (by omega) (by omega)
    have l2 := Lib.bitLen_le8' ((x.toNat / 72057594037927936 : Nat) : Int) (by omega) (by omega)
    rw [Int.toNat_natCast] at l2
    have l3 := l.2.2
    unfold Lib.bitLen at l2 ⊢
    rcases Nat.lt_or_ge (Lib.bitLenAux 64 (x.toNat / 72057594037927936)) 8 with g | g
    · exfalso
      have := Nat.pow_le_pow_right (n := 2) (by omega) (show Lib.bitLenAux 64 (x.toNat / 72057594037927936) ≤ 7 by omega)
      omega
    · omega)
  have g1 : 4294967296 ≤ x := by omega
  have g2 : 65536 ≤ x / 4294967296 := by omega
  have g3 : 256 ≤ x / 4294967296 / 65536 := by omega
  have ib := tab_in (y := x / 4294967296 / 65536 / 256) (by omega) (by omega)
  go_enter Try.func91, Try.ntmps91
  go_wp2
  go_ret
  refine ⟨ret_one ?_, rfl⟩
  rw [tab_at (n := x.toNat / 72057594037927936) _ (by omega) (by omega) (by omega), E.out]
  unfold wrap64
  omega
theorem lead64_top (x : Int) (w : World) (h0 : 9223372036854775808 ≤ x) (h1 : x ≤ 18446744073709551615) : Calls Try.prog 136 #[.int .u64 x] w fun e w' => e = .returned (.int .i64 0) ∧ w = w' := by
  go_enter Try.func136, Try.ntmps136
  go_wp2_with fail
  refine (len64_top x w h0 h1).mono ?_
  rintro e w' ⟨rfl, rfl⟩
  go_wp2
  go_ret
  exact ⟨rfl, rfl⟩
end Go.Proofs.Ytnlgophgglgneaa
namespace Go.Proofs.Ytnlgophgglgneaa
open Go.RowKit

def Quo64 (w : World) (q : Int) (e : Ending) (w' : World) : Prop := ∃ (r : Int) (n : Nat), e = .returned (.tuple #[.int .u64 q, .int .u64 r]) ∧ w' = w.drewN n

theorem or_zero {x : Int} (h0 : 0 ≤ x) (h1 : x ≤ 18446744073709551615) : bits .or .u64 x 0 = x := by
  obtain ⟨n, rfl⟩ := Int.eq_ofNat_of_zero_le h0
  have := u64_or_nat n 0 (by omega) (by omega)
  rw [Nat.or_zero] at this
  exact this
theorem wrap_sub3 {u c p V : Int} (hV : u * 4294967296 + c - p = V) (v0 : 0 ≤ V) (v1 : V ≤ 18446744073709551615) : IntKind.u64.wrap (IntKind.u64.wrap (IntKind.u64.wrap (u * 4294967296) + c) - IntKind.u64.wrap p) = V := by
  simp only [IntKind.wrap_u64]
  omega
theorem div64_low (lo y : Int) (w : World) (y0 : 9223372036854775808 ≤ y) (y1 : y ≤ 18446744073709551615) (l0 : 0 ≤ lo) (l1 : lo ≤ 18446744073709551615) :
    Calls Try.prog 134 #[.int .u64 0, .int .u64 lo, .int .u64 y] w (Quo64 w (lo / y)) := by
  have b1 : (y == 0) = false := by simp; omega
  have b2 : ¬ y ≤ 0 := by omega
  have b3 : decide (y ≤ 0) = false := by simp; omega
  have q0 : 0 ≤ lo / y := Int.ediv_nonneg l0 (by omega)
  have q1 : lo / y ≤ lo := Int.ediv_le_self _ l0
  have m0 : 0 ≤ lo % y := Int.emod_nonneg _ (by omega)
  have m1 : lo % y < y := Int.emod_lt_of_pos _ (by omega)
  have e0 : ¬ y = 0 := by omega
  have e1 : lo.tdiv y = lo / y := Int.tdiv_eq_ediv_of_nonneg l0
  have e2 : IntKind.u64.wrap (lo / y) = lo / y := IntWalk.u64_in _ (by omega)
  have e3 : lo.tmod y = lo % y := Int.tmod_eq_emod_of_nonneg l0
  have e4 : IntKind.u64.wrap (lo % y) = lo % y := IntWalk.u64_in _ (by omega)
  go_enter Try.func134, Try.ntmps134
  go_wp2
  go_region
  all_goals
    go_wp2
    go_ret2
    exact ⟨_, 1, rfl, rfl⟩


set_option maxHeartbeats 4000000 in
set_option maxRecDepth 100000 in
theorem div64_up (hi lo y : Int) (w : World) (y0 : 9223372036854775808 ≤ y) (y1 : y ≤ 18446744073709551615) (h0 : 0 < hi) (h1 : hi < y) (l0 : 0 ≤ lo) (l1 : lo ≤ 18446744073709551615) :
    Calls Try.prog 134 #[.int .u64 hi, .int .u64 lo, .int .u64 y] w (Quo64 w ((hi * 18446744073709551616 + lo) / y)) := by
  have b1 : (y == 0) = false := by simp; omega
  have b2 : ¬ y ≤ hi := by omega
  have b3 : decide (y ≤ hi) = false := by simp; omega
  have b4 : (hi == 0) = false := by simp; omega
  have a1 := and_low32 y (by omega) (by omega)
  have a2 := and_low32 lo (by omega) (by omega)
  have a3 : lo / 18446744073709551616 = 0 := by omega
  have a4 := or_zero (x := hi) (by omega) (by omega)
  obtain ⟨h, hh⟩ : ∃ h, y / 4294967296 = h := ⟨_, rfl⟩
  obtain ⟨l, hl⟩ : ∃ l, y % 4294967296 = l := ⟨_, rfl⟩
  obtain ⟨c, hc⟩ : ∃ c, lo / 4294967296 = c := ⟨_, rfl⟩
  obtain ⟨d, hd⟩ : ∃ d, lo % 4294967296 = d := ⟨_, rfl⟩
  have k1 : 2147483648 ≤ h := by omega
  have k2 : h < 4294967296 := by omega
  have k3 : 0 ≤ l := by omega
  have k4 : l < 4294967296 := by omega
  have k5 : 0 ≤ c := by omega
  have k6 : c < 4294967296 := by omega
  have k7 : 0 ≤ d := by omega
  have k8 : d < 4294967296 := by omega
  have HY := Lib.hid (show y = h * 4294967296 + l by omega)
  have HLo := Lib.hid (show lo = c * 4294967296 + d by omega)
  have k9 : ¬ h = 0 := by omega
  have e1 : hi.tdiv h = hi / h := Int.tdiv_eq_ediv_of_nonneg (by omega)
  have D1 := Lib.hid (dg_start (c := c) HY.out (by omega) k3 (show 0 ≤ hi by omega) k6)
  have m1 := Int.mul_ediv_add_emod hi h
  have m2 := Int.emod_nonneg hi k9
  have m3 := Int.emod_lt_of_pos hi (show 0 < h by omega)
  have q0 : 0 ≤ hi / h := Int.ediv_nonneg (by omega) (by omega)
  have q1 : hi / h ≤ 8589934592 := by
    have : hi / h < 8589934593 := Int.ediv_lt_of_lt_mul (by omega) (by omega)
    omega
  obtain ⟨q, hq⟩ : ∃ q, hi / h = q := ⟨_, rfl⟩
  rw [hq] at D1 m1 q0 q1
  obtain ⟨p, hp⟩ : ∃ p, q * h = p := ⟨_, rfl⟩
  have P := Lib.hid hp
  rw [Int.mul_comm, hp] at m1
  have e2 : IntKind.u64.wrap q = q := IntWalk.u64_in _ (by omega)
  have p0 : 0 ≤ p := by rw [← hp]; exact Int.mul_nonneg q0 (by omega)
  have e3 : IntKind.u64.wrap p = p := IntWalk.u64_in _ (by omega)
  have e4 : IntKind.u64.wrap (hi - p) = hi - p := IntWalk.u64_in _ (by omega)
  have r0 : 0 ≤ hi - p := by omega
  have r1 : hi - p < 4294967296 := by omega
  clear m1 m2 m3
  go_enter Try.func134, Try.ntmps134
  go_wp2_with fail
  refine (lead64_top y w y0 y1).mono ?_
  rintro e w' ⟨rfl, rfl⟩
  go_wp2
  clear e1 e2 e3 e4
  have HQ := Lib.hid hq
  clear hq hp
  go_loop [15, 16] (fun a b => ∃ q r : Int, a = .int .u64 q ∧ b = .int .u64 r ∧ 0 ≤ q ∧ q ≤ 8589934592 ∧ 0 ≤ r ∧ r < 4294967296 ∧ q * h + r = hi ∧ (hi * 4294967296 + c) / y ≤ q) (fun a _ => (intOf a).toNat)
  case atStart => exact ⟨q, hi - p, rfl, rfl, q0, q1, r0, r1, by rw [P.out]; omega, D1.out⟩
  case round =>
    clear P D1 HQ q0 q1 p0 r0 r1
    obtain ⟨q, r, rfl, rfl, q0, q1, r0, r1, hqr, hQ⟩ := hrel
    have QR := Lib.hid hqr
    have HQ := Lib.hid hQ
    clear hqr hQ
    have GO : 4294967296 ≤ q ∨ (4294967296 * r + c < q * l) → (hi * 4294967296 + c) / y < q := fun g => by
      rcases g with g | g
      · have := dg_lt (c := c) (show hi < y by omega) (show 0 < y by omega) (by omega); omega
      · exact dg_more HY.out (by omega) QR.out (by omega)
    have SM := Lib.hid (fun (g : 4294967296 ≤ r + h) => dg_small (q := q - 1) (r := r + h) HY.out k4 (by omega) (show hi < y by omega) (by have := QR.out; rw [Int.sub_mul]; omega) g)
    have GOH := Lib.hid GO
    clear GO
    by_cases g1 : 4294967296 ≤ q
    · have LT := Lib.hid (GOH.out (.inl g1))
      have bq : decide (4294967296 ≤ q) = true := by simp; omega
      by_cases g2 : 4294967296 ≤ r + h
      · obtain ⟨q, rfl⟩ : ∃ k, q = k + 1 := ⟨q - 1, by omega⟩
        have BD := SM.out g2
        have q0 : 0 ≤ q := by omega
        have FF := Lib.hid (dg_stop (r := r + h) (c := c) HY.out (show 0 < y by omega) (show q * h + (r + h) = hi by have := QR.out; rw [Int.add_mul] at this; omega) (by have := dg_prod (q := q) (by omega) (by omega) k3 k4; omega) (by have := LT.out; omega))
        clear SM GOH LT QR HQ
        have FQ := FF
        have q9 : q < 4294967296 := by rw [FQ.out]; exact dg_lt h1 (by omega) k6
        obtain ⟨V, hV⟩ : ∃ V, hi * 4294967296 + c - q * y = V := ⟨_, rfl⟩
        have v0 : 0 ≤ V := by
          have h2 := Int.ediv_mul_le (hi * 4294967296 + c) (show y ≠ 0 by omega)
          rw [← FQ.out] at h2
          omega
        have v1 : V < y := by
          have h2 := Int.lt_ediv_add_one_mul_self (hi * 4294967296 + c) (show 0 < y by omega)
          rw [← FQ.out, Int.add_mul] at h2
          omega
        have s1 := wrap_sub3 hV v0 (by omega)
        have HV := Lib.hid hV
        clear hV
        have s2 : V.tdiv h = V / h := Int.tdiv_eq_ediv_of_nonneg v0
        have D2 := Lib.hid (dg_start (c := d) HY.out (by omega) k3 v0 k8)
        have m1 := Int.mul_ediv_add_emod V h
        have m2 := Int.emod_nonneg V k9
        have m3 := Int.emod_lt_of_pos V (show 0 < h by omega)
        have x0 : 0 ≤ V / h := Int.ediv_nonneg v0 (by omega)
        have x1 : V / h ≤ 8589934592 := by
          have : V / h < 8589934593 := Int.ediv_lt_of_lt_mul (by omega) (by omega)
          omega
        obtain ⟨x, hx⟩ : ∃ x, V / h = x := ⟨_, rfl⟩
        rw [hx] at D2 m1 x0 x1
        obtain ⟨p2, hp2⟩ : ∃ p2, x * h = p2 := ⟨_, rfl⟩
        have P2 := Lib.hid hp2
        rw [Int.mul_comm, hp2] at m1
        have e2 : IntKind.u64.wrap x = x := IntWalk.u64_in _ (by omega)
        have p0 : 0 ≤ p2 := by rw [← hp2]; exact Int.mul_nonneg x0 (by omega)
        have e3 : IntKind.u64.wrap p2 = p2 := IntWalk.u64_in _ (by omega)
        have e4 : IntKind.u64.wrap (V - p2) = V - p2 := IntWalk.u64_in _ (by omega)
        have z0 : 0 ≤ V - p2 := by omega
        have z1 : V - p2 < 4294967296 := by omega
        clear m1 m2 m3
        go_wp2
        clear s1 s2 e2 e3 e4 hx hp2
        go_loop [18, 16] (fun a b => ∃ x r : Int, a = .int .u64 x ∧ b = .int .u64 r ∧ 0 ≤ x ∧ x ≤ 8589934592 ∧ 0 ≤ r ∧ r < 4294967296 ∧ x * h + r = V ∧ (V * 4294967296 + d) / y ≤ x) (fun a _ => (intOf a).toNat)
        case atStart => exact ⟨x, V - p2, rfl, rfl, x0, x1, z0, z1, by rw [P2.out]; omega, D2.out⟩
        case round =>
          clear P2 D2 x0 x1 p0 z0 z1
          obtain ⟨x, r, rfl, rfl, x0, x1, r0, r1, hqr, hQ⟩ := hrel
          have QR := Lib.hid hqr
          have HQ := Lib.hid hQ
          clear hqr hQ
          have GO : 4294967296 ≤ x ∨ (4294967296 * r + d < x * l) → (V * 4294967296 + d) / y < x := fun g => by
            rcases g with g | g
            · have := dg_lt (c := d) (show V < y by omega) (show 0 < y by omega) (by omega); omega
            · exact dg_more HY.out (by omega) QR.out (by omega)
          have SM := Lib.hid (fun (g : 4294967296 ≤ r + h) => dg_small (q := x - 1) (r := r + h) HY.out k4 (by omega) (show V < y by omega) (by have := QR.out; rw [Int.sub_mul]; omega) g)
          have GOH := Lib.hid GO
          clear GO
          by_cases g1 : 4294967296 ≤ x
          · have LT := Lib.hid (GOH.out (.inl g1))
            have bq : decide (4294967296 ≤ x) = true := by simp; omega
            by_cases g2 : 4294967296 ≤ r + h
            · obtain ⟨x, rfl⟩ : ∃ k, x = k + 1 := ⟨x - 1, by omega⟩
              have BD := SM.out g2
              have x0 : 0 ≤ x := by omega
              have FF := Lib.hid (dg_stop (r := r + h) (c := d) HY.out (show 0 < y by omega) (show x * h + (r + h) = V by have := QR.out; rw [Int.add_mul] at this; omega) (by have := dg_prod (q := x) (by omega) (by omega) k3 k4; omega) (by have := LT.out; omega))
              clear SM GOH LT QR HQ
              have FX := FF
              have x9 : x < 4294967296 := by rw [FX.out]; exact dg_lt v1 (by omega) k8

              go_wp2
              go_ret2
              exact ⟨_, 0, ret_two (show q * 4294967296 + x = _ by rw [HLo.out, dg_two q (show 0 < y by omega), HV.out, FX.out]) rfl, rfl⟩

            · go_wp2
              go_round
              case rel => exact ⟨x - 1, r + h, by go_num, rfl, by omega, by omega, by omega, by omega, by have := QR.out; rw [Int.sub_mul]; omega, by have := LT.out; omega⟩
              case measure => simp [intOf]; omega
          · have ⟨t0, t1, t2⟩ := dg_prod (q := x) (by omega) (by omega) k3 k4
            have wq : IntKind.u64.wrap (x * l) = x * l := IntWalk.u64_in _ (by omega)
            have bq : decide (4294967296 ≤ x) = false := by simp; omega
            by_cases g3 : 4294967296 * r + d < x * l
            · have LT := Lib.hid (GOH.out (.inr g3))
              have q9' : 1 ≤ x := by
                rcases Int.lt_or_le 0 x with g | g
                · omega
                · exfalso
                  obtain rfl : x = 0 := by omega
                  omega
              by_cases g2 : 4294967296 ≤ r + h
              · obtain ⟨x, rfl⟩ : ∃ k, x = k + 1 := ⟨x - 1, by omega⟩
                have BD := SM.out g2
                have x0 : 0 ≤ x := by omega
                have FF := Lib.hid (dg_stop (r := r + h) (c := d) HY.out (show 0 < y by omega) (show x * h + (r + h) = V by have := QR.out; rw [Int.add_mul] at this; omega) (by have := dg_prod (q := x) (by omega) (by omega) k3 k4; omega) (by have := LT.out; omega))
                clear SM GOH LT QR HQ
                have FX := FF
                have x9 : x < 4294967296 := by rw [FX.out]; exact dg_lt v1 (by omega) k8

                go_wp2
                go_ret2
                exact ⟨_, 0, ret_two (show q * 4294967296 + x = _ by rw [HLo.out, dg_two q (show 0 < y by omega), HV.out, FX.out]) rfl, rfl⟩

              · go_wp2
                go_round
                case rel => exact ⟨x - 1, r + h, by go_num, rfl, by omega, by omega, by omega, by omega, by have := QR.out; rw [Int.sub_mul]; omega, by have := LT.out; omega⟩
                case measure => simp [intOf]; omega
            · have FF := Lib.hid (dg_stop (c := d) HY.out (show 0 < y by omega) QR.out (by omega) HQ.out)
              clear SM GOH QR HQ
              have FX := FF
              have x9 : x < 4294967296 := by rw [FX.out]; exact dg_lt v1 (by omega) k8

              go_wp2
              go_ret2
              exact ⟨_, 0, ret_two (show q * 4294967296 + x = _ by rw [HLo.out, dg_two q (show 0 < y by omega), HV.out, FX.out]) rfl, rfl⟩

      · go_wp2
        go_round
        case rel => exact ⟨q - 1, r + h, by go_num, rfl, by omega, by omega, by omega, by omega, by have := QR.out; rw [Int.sub_mul]; omega, by have := LT.out; omega⟩
        case measure => simp [intOf]; omega
    · have ⟨t0, t1, t2⟩ := dg_prod (q := q) (by omega) (by omega) k3 k4
      have wq : IntKind.u64.wrap (q * l) = q * l := IntWalk.u64_in _ (by omega)
      have bq : decide (4294967296 ≤ q) = false := by simp; omega
      by_cases g3 : 4294967296 * r + c < q * l
      · have LT := Lib.hid (GOH.out (.inr g3))
        have q9' : 1 ≤ q := by
          rcases Int.lt_or_le 0 q with g | g
          · omega
          · exfalso
            obtain rfl : q = 0 := by omega
            omega
        by_cases g2 : 4294967296 ≤ r + h
        · obtain ⟨q, rfl⟩ : ∃ k, q = k + 1 := ⟨q - 1, by omega⟩
          have BD := SM.out g2
          have q0 : 0 ≤ q := by omega
          have FF := Lib.hid (dg_stop (r := r + h) (c := c) HY.out (show 0 < y by omega) (show q * h + (r + h) = hi by have := QR.out; rw [Int.add_mul] at this; omega) (by have := dg_prod (q := q) (by omega) (by omega) k3 k4; omega) (by have := LT.out; omega))
          clear SM GOH LT QR HQ
          have FQ := FF
          have q9 : q < 4294967296 := by rw [FQ.out]; exact dg_lt h1 (by omega) k6
          obtain ⟨V, hV⟩ : ∃ V, hi * 4294967296 + c - q * y = V := ⟨_, rfl⟩
          have v0 : 0 ≤ V := by
            have h2 := Int.ediv_mul_le (hi * 4294967296 + c) (show y ≠ 0 by omega)
            rw [← FQ.out] at h2
            omega
          have v1 : V < y := by
            have h2 := Int.lt_ediv_add_one_mul_self (hi * 4294967296 + c) (show 0 < y by omega)
            rw [← FQ.out, Int.add_mul] at h2
            omega
          have s1 := wrap_sub3 hV v0 (by omega)
          have HV := Lib.hid hV
          clear hV
          have s2 : V.tdiv h = V / h := Int.tdiv_eq_ediv_of_nonneg v0
          have D2 := Lib.hid (dg_start (c := d) HY.out (by omega) k3 v0 k8)
          have m1 := Int.mul_ediv_add_emod V h
          have m2 := Int.emod_nonneg V k9
          have m3 := Int.emod_lt_of_pos V (show 0 < h by omega)
          have x0 : 0 ≤ V / h := Int.ediv_nonneg v0 (by omega)
          have x1 : V / h ≤ 8589934592 := by
            have : V / h < 8589934593 := Int.ediv_lt_of_lt_mul (by omega) (by omega)
            omega
          obtain ⟨x, hx⟩ : ∃ x, V / h = x := ⟨_, rfl⟩
          rw [hx] at D2 m1 x0 x1
          obtain ⟨p2, hp2⟩ : ∃ p2, x * h = p2 := ⟨_, rfl⟩
          have P2 := Lib.hid hp2
          rw [Int.mul_comm, hp2] at m1
          have e2 : IntKind.u64.wrap x = x := IntWalk.u64_in _ (by omega)
          have p0 : 0 ≤ p2 := by rw [← hp2]; exact Int.mul_nonneg x0 (by omega)
          have e3 : IntKind.u64.wrap p2 = p2 := IntWalk.u64_in _ (by omega)
          have e4 : IntKind.u64.wrap (V - p2) = V - p2 := IntWalk.u64_in _ (by omega)
          have z0 : 0 ≤ V - p2 := by omega
          have z1 : V - p2 < 4294967296 := by omega
          clear m1 m2 m3
          go_wp2
          clear s1 s2 e2 e3 e4 hx hp2
          go_loop [18, 16] (fun a b => ∃ x r : Int, a = .int .u64 x ∧ b = .int .u64 r ∧ 0 ≤ x ∧ x ≤ 8589934592 ∧ 0 ≤ r ∧ r < 4294967296 ∧ x * h + r = V ∧ (V * 4294967296 + d) / y ≤ x) (fun a _ => (intOf a).toNat)
          case atStart => exact ⟨x, V - p2, rfl, rfl, x0, x1, z0, z1, by rw [P2.out]; omega, D2.out⟩
          case round =>
            clear P2 D2 x0 x1 p0 z0 z1
            obtain ⟨x, r, rfl, rfl, x0, x1, r0, r1, hqr, hQ⟩ := hrel
            have QR := Lib.hid hqr
            have HQ := Lib.hid hQ
            clear hqr hQ
            have GO : 4294967296 ≤ x ∨ (4294967296 * r + d < x * l) → (V * 4294967296 + d) / y < x := fun g => by
              rcases g with g | g
              · have := dg_lt (c := d) (show V < y by omega) (show 0 < y by omega) (by omega); omega
              · exact dg_more HY.out (by omega) QR.out (by omega)
            have SM := Lib.hid (fun (g : 4294967296 ≤ r + h) => dg_small (q := x - 1) (r := r + h) HY.out k4 (by omega) (show V < y by omega) (by have := QR.out; rw [Int.sub_mul]; omega) g)
            have GOH := Lib.hid GO
            clear GO
            by_cases g1 : 4294967296 ≤ x
            · have LT := Lib.hid (GOH.out (.inl g1))
              have bq : decide (4294967296 ≤ x) = true := by simp; omega
              by_cases g2 : 4294967296 ≤ r + h
              · obtain ⟨x, rfl⟩ : ∃ k, x = k + 1 := ⟨x - 1, by omega⟩
                have BD := SM.out g2
                have x0 : 0 ≤ x := by omega
                have FF := Lib.hid (dg_stop (r := r + h) (c := d) HY.out (show 0 < y by omega) (show x * h + (r + h) = V by have := QR.out; rw [Int.add_mul] at this; omega) (by have := dg_prod (q := x) (by omega) (by omega) k3 k4; omega) (by have := LT.out; omega))
                clear SM GOH LT QR HQ
                have FX := FF
                have x9 : x < 4294967296 := by rw [FX.out]; exact dg_lt v1 (by omega) k8

                go_wp2
                go_ret2
                exact ⟨_, 0, ret_two (show q * 4294967296 + x = _ by rw [HLo.out, dg_two q (show 0 < y by omega), HV.out, FX.out]) rfl, rfl⟩

              · go_wp2
                go_round
                case rel => exact ⟨x - 1, r + h, by go_num, rfl, by omega, by omega, by omega, by omega, by have := QR.out; rw [Int.sub_mul]; omega, by have := LT.out; omega⟩
                case measure => simp [intOf]; omega
            · have ⟨t0, t1, t2⟩ := dg_prod (q := x) (by omega) (by omega) k3 k4
              have wq : IntKind.u64.wrap (x * l) = x * l := IntWalk.u64_in _ (by omega)
              have bq : decide (4294967296 ≤ x) = false := by simp; omega
              by_cases g3 : 4294967296 * r + d < x * l
              · have LT := Lib.hid (GOH.out (.inr g3))
                have q9' : 1 ≤ x := by
                  rcases Int.lt_or_le 0 x with g | g
                  · omega
                  · exfalso
                    obtain rfl : x = 0 := by omega
                    omega
                by_cases g2 : 4294967296 ≤ r + h
                · obtain ⟨x, rfl⟩ : ∃ k, x = k + 1 := ⟨x - 1, by omega⟩
                  have BD := SM.out g2
                  have x0 : 0 ≤ x := by omega
                  have FF := Lib.hid (dg_stop (r := r + h) (c := d) HY.out (show 0 < y by omega) (show x * h + (r + h) = V by have := QR.out; rw [Int.add_mul] at this; omega) (by have := dg_prod (q := x) (by omega) (by omega) k3 k4; omega) (by have := LT.out; omega))
                  clear SM GOH LT QR HQ
                  have FX := FF
                  have x9 : x < 4294967296 := by rw [FX.out]; exact dg_lt v1 (by omega) k8

                  go_wp2
                  go_ret2
                  exact ⟨_, 0, ret_two (show q * 4294967296 + x = _ by rw [HLo.out, dg_two q (show 0 < y by omega), HV.out, FX.out]) rfl, rfl⟩

                · go_wp2
                  go_round
                  case rel => exact ⟨x - 1, r + h, by go_num, rfl, by omega, by omega, by omega, by omega, by have := QR.out; rw [Int.sub_mul]; omega, by have := LT.out; omega⟩
                  case measure => simp [intOf]; omega
              · have FF := Lib.hid (dg_stop (c := d) HY.out (show 0 < y by omega) QR.out (by omega) HQ.out)
                clear SM GOH QR HQ
                have FX := FF
                have x9 : x < 4294967296 := by rw [FX.out]; exact dg_lt v1 (by omega) k8

                go_wp2
                go_ret2
                exact ⟨_, 0, ret_two (show q * 4294967296 + x = _ by rw [HLo.out, dg_two q (show 0 < y by omega), HV.out, FX.out]) rfl, rfl⟩

        · go_wp2
          go_round
          case rel => exact ⟨q - 1, r + h, by go_num, rfl, by omega, by omega, by omega, by omega, by have := QR.out; rw [Int.sub_mul]; omega, by have := LT.out; omega⟩
          case measure => simp [intOf]; omega
      · have FF := Lib.hid (dg_stop (c := c) HY.out (show 0 < y by omega) QR.out (by omega) HQ.out)
        clear SM GOH QR HQ
        have FQ := FF
        have q9 : q < 4294967296 := by rw [FQ.out]; exact dg_lt h1 (by omega) k6
        obtain ⟨V, hV⟩ : ∃ V, hi * 4294967296 + c - q * y = V := ⟨_, rfl⟩
        have v0 : 0 ≤ V := by
          have h2 := Int.ediv_mul_le (hi * 4294967296 + c) (show y ≠ 0 by omega)
          rw [← FQ.out] at h2
          omega
        have v1 : V < y := by
          have h2 := Int.lt_ediv_add_one_mul_self (hi * 4294967296 + c) (show 0 < y by omega)
          rw [← FQ.out, Int.add_mul] at h2
          omega
        have s1 := wrap_sub3 hV v0 (by omega)
        have HV := Lib.hid hV
        clear hV
        have s2 : V.tdiv h = V / h := Int.tdiv_eq_ediv_of_nonneg v0
        have D2 := Lib.hid (dg_start (c := d) HY.out (by omega) k3 v0 k8)
        have m1 := Int.mul_ediv_add_emod V h
        have m2 := Int.emod_nonneg V k9
        have m3 := Int.emod_lt_of_pos V (show 0 < h by omega)
        have x0 : 0 ≤ V / h := Int.ediv_nonneg v0 (by omega)
        have x1 : V / h ≤ 8589934592 := by
          have : V / h < 8589934593 := Int.ediv_lt_of_lt_mul (by omega) (by omega)
          omega
        obtain ⟨x, hx⟩ : ∃ x, V / h = x := ⟨_, rfl⟩
        rw [hx] at D2 m1 x0 x1
        obtain ⟨p2, hp2⟩ : ∃ p2, x * h = p2 := ⟨_, rfl⟩
        have P2 := Lib.hid hp2
        rw [Int.mul_comm, hp2] at m1
        have e2 : IntKind.u64.wrap x = x := IntWalk.u64_in _ (by omega)
        have p0 : 0 ≤ p2 := by rw [← hp2]; exact Int.mul_nonneg x0 (by omega)
        have e3 : IntKind.u64.wrap p2 = p2 := IntWalk.u64_in _ (by omega)
        have e4 : IntKind.u64.wrap (V - p2) = V - p2 := IntWalk.u64_in _ (by omega)
        have z0 : 0 ≤ V - p2 := by omega
        have z1 : V - p2 < 4294967296 := by omega
        clear m1 m2 m3
        go_wp2
        clear s1 s2 e2 e3 e4 hx hp2
        go_loop [18, 16] (fun a b => ∃ x r : Int, a = .int .u64 x ∧ b = .int .u64 r ∧ 0 ≤ x ∧ x ≤ 8589934592 ∧ 0 ≤ r ∧ r < 4294967296 ∧ x * h + r = V ∧ (V * 4294967296 + d) / y ≤ x) (fun a _ => (intOf a).toNat)
        case atStart => exact ⟨x, V - p2, rfl, rfl, x0, x1, z0, z1, by rw [P2.out]; omega, D2.out⟩
        case round =>
          clear P2 D2 x0 x1 p0 z0 z1
          obtain ⟨x, r, rfl, rfl, x0, x1, r0, r1, hqr, hQ⟩ := hrel
          have QR := Lib.hid hqr
          have HQ := Lib.hid hQ
          clear hqr hQ
          have GO : 4294967296 ≤ x ∨ (4294967296 * r + d < x * l) → (V * 4294967296 + d) / y < x := fun g => by
            rcases g with g | g
            · have := dg_lt (c := d) (show V < y by omega) (show 0 < y by omega) (by omega); omega
            · exact dg_more HY.out (by omega) QR.out (by omega)
          have SM := Lib.hid (fun (g : 4294967296 ≤ r + h) => dg_small (q := x - 1) (r := r + h) HY.out k4 (by omega) (show V < y by omega) (by have := QR.out; rw [Int.sub_mul]; omega) g)
          have GOH := Lib.hid GO
          clear GO
          by_cases g1 : 4294967296 ≤ x
          · have LT := Lib.hid (GOH.out (.inl g1))
            have bq : decide (4294967296 ≤ x) = true := by simp; omega
            by_cases g2 : 4294967296 ≤ r + h
            · obtain ⟨x, rfl⟩ : ∃ k, x = k + 1 := ⟨x - 1, by omega⟩
              have BD := SM.out g2
              have x0 : 0 ≤ x := by omega
              have FF := Lib.hid (dg_stop (r := r + h) (c := d) HY.out (show 0 < y by omega) (show x * h + (r + h) = V by have := QR.out; rw [Int.add_mul] at this; omega) (by have := dg_prod (q := x) (by omega) (by omega) k3 k4; omega) (by have := LT.out; omega))
              clear SM GOH LT QR HQ
              have FX := FF
              have x9 : x < 4294967296 := by rw [FX.out]; exact dg_lt v1 (by omega) k8

              go_wp2
              go_ret2
              exact ⟨_, 0, ret_two (show q * 4294967296 + x = _ by rw [HLo.out, dg_two q (show 0 < y by omega), HV.out, FX.out]) rfl, rfl⟩

            · go_wp2
              go_round
              case rel => exact ⟨x - 1, r + h, by go_num, rfl, by omega, by omega, by omega, by omega, by have := QR.out; rw [Int.sub_mul]; omega, by have := LT.out; omega⟩
              case measure => simp [intOf]; omega
          · have ⟨t0, t1, t2⟩ := dg_prod (q := x) (by omega) (by omega) k3 k4
            have wq : IntKind.u64.wrap (x * l) = x * l := IntWalk.u64_in _ (by omega)
            have bq : decide (4294967296 ≤ x) = false := by simp; omega
            by_cases g3 : 4294967296 * r + d < x * l
            · have LT := Lib.hid (GOH.out (.inr g3))
              have q9' : 1 ≤ x := by
                rcases Int.lt_or_le 0 x with g | g
                · omega
                · exfalso
                  obtain rfl : x = 0 := by omega
                  omega
              by_cases g2 : 4294967296 ≤ r + h
              · obtain ⟨x, rfl⟩ : ∃ k, x = k + 1 := ⟨x - 1, by omega⟩
                have BD := SM.out g2
                have x0 : 0 ≤ x := by omega
                have FF := Lib.hid (dg_stop (r := r + h) (c := d) HY.out (show 0 < y by omega) (show x * h + (r + h) = V by have := QR.out; rw [Int.add_mul] at this; omega) (by have := dg_prod (q := x) (by omega) (by omega) k3 k4; omega) (by have := LT.out; omega))
                clear SM GOH LT QR HQ
                have FX := FF
                have x9 : x < 4294967296 := by rw [FX.out]; exact dg_lt v1 (by omega) k8

                go_wp2
                go_ret2
                exact ⟨_, 0, ret_two (show q * 4294967296 + x = _ by rw [HLo.out, dg_two q (show 0 < y by omega), HV.out, FX.out]) rfl, rfl⟩

              · go_wp2
                go_round
                case rel => exact ⟨x - 1, r + h, by go_num, rfl, by omega, by omega, by omega, by omega, by have := QR.out; rw [Int.sub_mul]; omega, by have := LT.out; omega⟩
                case measure => simp [intOf]; omega
            · have FF := Lib.hid (dg_stop (c := d) HY.out (show 0 < y by omega) QR.out (by omega) HQ.out)
              clear SM GOH QR HQ
              have FX := FF
              have x9 : x < 4294967296 := by rw [FX.out]; exact dg_lt v1 (by omega) k8

              go_wp2
              go_ret2
              exact ⟨_, 0, ret_two (show q * 4294967296 + x = _ by rw [HLo.out, dg_two q (show 0 < y by omega), HV.out, FX.out]) rfl, rfl⟩
end Go.Proofs.Ytnlgophgglgneaa
namespace Go.Proofs.Ytnlgophgglgneaa
open Go.RowKit

theorem div64_any (hi lo y : Int) (w : World) (y0 : 9223372036854775808 ≤ y) (y1 : y ≤ 18446744073709551615) (h0 : 0 ≤ hi) (h1 : hi < y) (l0 : 0 ≤ lo) (l1 : lo ≤ 18446744073709551615) :
    Calls Try.prog 134 #[.int .u64 hi, .int .u64 lo, .int .u64 y] w (Quo64 w ((hi * 18446744073709551616 + lo) / y)) := by
  rcases Int.lt_or_le 0 hi with g | g
  · exact div64_up hi lo y w y0 y1 g h1 l0 l1
  · obtain rfl : hi = 0 := by omega
    rw [show (0 : Int) * 18446744073709551616 + lo = lo by omega]
    exact div64_low lo y w y0 y1 l0 l1

/-- the limb at i: outside of a number there is 0 -/
def li (zs : List Int) (i : Int) : Int := if i < 0 then 0 else zs.getD i.toNat 0
theorem li_nat (zs : List Int) (i : Nat) : li zs (i : Int) = zs.getD i 0 := by unfold li; rw [if_neg (by omega), Int.toNat_natCast]
theorem li_neg (zs : List Int) {i : Int} (h : i < 0) : li zs i = 0 := if_pos h
theorem rlimb_any (a : Option Addr) (la ca : Nat) (za : List Int) (i : Int) (w : World) (ha : Row .u32 w a la ca za) :
    Calls Try.prog 123 #[.slice a la ca, .int .i64 i] w fun e w' => e = .returned (.int .u32 (li za i)) ∧ w = w' := by
  have HA := Lib.hid ha
  have LA := Lib.hid ha.len
  have ⟨c1, c2⟩ := ha.cap_le
  clear ha
  by_cases n : i < 0
  · have HX := Lib.hid (li_neg za n)
    have bn : decide (i < 0) = true := by simp; omega
    go_enter Try.func123, Try.ntmps123
    go_wp2
    go_ret
    exact ⟨ret_one HX.out.symm, rfl⟩
  · obtain ⟨i, rfl⟩ := Int.eq_ofNat_of_zero_le (show 0 ≤ i by omega)
    have bn : decide ((i : Int) < 0) = false := by simp
    by_cases p : i < la
    · obtain ⟨ba, oa, rfl, hca⟩ := HA.out.cell p
      obtain ⟨x, hx⟩ : ∃ x, za.getD i 0 = x := ⟨_, rfl⟩
      rw [hx] at hca
      have HX := Lib.hid (show li za (i : Int) = x by rw [li_nat, hx])
      clear hx
      have bp : decide (la ≤ i) = false := by simp; omega
      go_enter Try.func123, Try.ntmps123
      go_wp2
      go_ret
      exact ⟨ret_one HX.out.symm, rfl⟩
    · have HX := Lib.hid (show li za (i : Int) = 0 by rw [li_nat]; exact getD_out (zs := za) (i := i) (by rw [LA.out]; omega))
      have bp : decide (la ≤ i) = true := by simp; omega
      go_enter Try.func123, Try.ntmps123
      go_wp2
      go_ret
      exact ⟨ret_one HX.out.symm, rfl⟩

theorem or_up {c B : Int} {up : Nat} (c0 : 0 ≤ c) (B0 : 0 ≤ B) (B1 : B < 2 ^ up) (h : 2 ^ up * c + B < 4294967296) : bits .or .u32 (2 ^ up * c) B = 2 ^ up * c + B := by
  obtain ⟨m, rfl⟩ := Int.eq_ofNat_of_zero_le c0
  obtain ⟨n, rfl⟩ := Int.eq_ofNat_of_zero_le B0
  have kp : (2 : Int) ^ up = ((2 ^ up : Nat) : Int) := by simp
  have B1' : n < 2 ^ up := Int.ofNat_lt.mp (by rw [← kp]; exact B1)
  have h' : 2 ^ up * m + n < 4294967296 := Int.ofNat_lt.mp (by rw [Int.natCast_add, Int.natCast_mul, ← kp]; exact h)
  have e := u32_or_nat (2 ^ up * m) n (by omega) (by omega)
  have e2 : 2 ^ up * m ||| n = 2 ^ up * m + n := by
    have := Nat.shiftLeft_add_eq_or_of_lt (i := up) (b := n) B1' m
    rw [Nat.shiftLeft_eq, Nat.mul_comm] at this
    exact this.symm
  rw [e2] at e
  have k : (2 : Int) ^ up * (m : Int) = ((2 ^ up * m : Nat) : Int) := by simp
  rw [k, e]
  simp
/-- 2^32, by two powers -/
theorem pow_two {up : Nat} (h : up ≤ 31) : (4294967296 : Int) = 2 ^ (32 - up) * 2 ^ up := by
  rw [← Int.pow_add, show 32 - up + up = 32 by omega]; rfl
theorem up_mult {S T z : Int} (hB : 4294967296 = T * S) (hS : 0 < S) : ∃ c, 0 ≤ c ∧ (z * S) % 4294967296 = S * c := by
  refine ⟨z - T * (z * S / 4294967296), ?_, ?_⟩
  · have h0 := Int.emod_nonneg (z * S) (show (4294967296 : Int) ≠ 0 by omega)
    have h1 := Int.emod_def (z * S) 4294967296
    have h2 : 4294967296 * (z * S / 4294967296) = (T * S) * (z * S / 4294967296) := by rw [← hB]
    have h3 : z * S - (T * S) * (z * S / 4294967296) = (z - T * (z * S / 4294967296)) * S := by grind
    rw [h2, h3] at h1
    rw [h1] at h0
    exact Int.nonneg_of_mul_nonneg_left h0 hS
  · have h1 := Int.emod_def (z * S) 4294967296
    have h2 : 4294967296 * (z * S / 4294967296) = (T * S) * (z * S / 4294967296) := by rw [← hB]
    rw [h1, h2]; grind
theorem head_or {za : List Int} {i up : Nat} (da : Digs 4294967296 za) (u1 : up ≤ 31) : IntKind.u64.wrap (bits .or .u32 (li za (i : Int) * 2 ^ up % 4294967296) (li za ((i : Int) - 1) / 2 ^ (32 - up))) = hd (2 ^ up) (2 ^ (32 - up)) za i := by
  have S0 := ipow_pos (B := 2) (by omega) up
  have T0 := ipow_pos (B := 2) (by omega) (32 - up)
  have hB := pow_two u1
  have bd := hd_bd hB S0 T0 za da i
  have y0 := da.getD (by omega) (i - 1)
  have e1 : li za ((i : Int) - 1) / 2 ^ (32 - up) = (if i = 0 then 0 else za.getD (i - 1) 0 / 2 ^ (32 - up)) := by
    by_cases h : i = 0
    · subst h; rw [if_pos rfl, li_neg _ (by omega)]; simp
    · rw [if_neg h, show ((i : Int) - 1) = ((i - 1 : Nat) : Int) by omega, li_nat]
  have q0 : 0 ≤ (if i = 0 then 0 else za.getD (i - 1) 0 / 2 ^ (32 - up)) := by split; omega; exact Int.ediv_nonneg y0.1 (by omega)
  have q1 : (if i = 0 then 0 else za.getD (i - 1) 0 / 2 ^ (32 - up)) < 2 ^ up := by
    split
    · omega
    · exact Int.ediv_lt_of_lt_mul T0 (by rw [Int.mul_comm, ← hB]; exact y0.2)
  rw [li_nat, e1]
  obtain ⟨c, c0, hc⟩ := up_mult (z := za.getD i 0) hB S0
  unfold hd at bd ⊢
  rw [hc] at bd ⊢
  rw [or_up c0 q0 q1 bd.2]
  exact IntWalk.u64_in _ (by omega)
theorem head_any (a : Option Addr) (la ca : Nat) (za : List Int) (i up b : Nat) (w : World) (ha : Row .u32 w a la ca za) (da : Digs 4294967296 za) (u1 : up ≤ 31) (hi : i ≤ 1000000) (hb : w.cell? ⟨b, 0, none⟩ = some (.int .i64 up)) :
    Calls Try.prog 133 #[.slice a la ca, .int .i64 i, .pointer (some ⟨b, 0, none⟩)] w fun e w' => e = .returned (.int .u64 (hd (2 ^ up) (2 ^ (32 - up)) za i)) ∧ ∃ n, w' = w.drewN n := by
  have HA := Lib.hid ha
  clear ha
  have HV := Lib.hid (head_or (i := i) da u1)
  obtain ⟨x, hx⟩ : ∃ x, li za (i : Int) = x := ⟨_, rfl⟩
  obtain ⟨y, hy⟩ : ∃ y, li za ((i : Int) - 1) = y := ⟨_, rfl⟩
  rw [hx, hy] at HV
  have x0 : 0 ≤ x ∧ x < 4294967296 := by rw [← hx, li_nat]; exact da.getD (by omega) i
  have y0 : 0 ≤ y ∧ y < 4294967296 := by
    rw [← hy]
    by_cases h : i = 0
    · subst h; rw [li_neg _ (by omega)]; omega
    · rw [show ((i : Int) - 1) = ((i - 1 : Nat) : Int) by omega, li_nat]; exact da.getD (by omega) (i - 1)
  have wi : IntKind.i64.wrap ((i : Int) - 1) = (i : Int) - 1 := IntWalk.i64_in _ (by omega)
  go_enter Try.func133, Try.ntmps133
  go_wp2
  go_quiet ((go_at_call 123; exact quiet_left (rlimb_any _ _ _ za _ _ (HA.out.drewN _))))
  go_wp2
  go_ret
  exact ⟨ret_one HV.out, _, rfl⟩

/-- a guess that is the part of m by n, or one more -/
def Guesses (w : World) (m n : Int) (e : Ending) (w' : World) : Prop :=
  ∃ q : Int, e = .returned (.int .u64 q) ∧ m / n ≤ q ∧ q ≤ m / n + 1 ∧ Below w.heap.size w w'
theorem head_at (a : Option Addr) (la ca : Nat) (za : List Int) (j : Int) (i up b : Nat) (w : World) (hj : j = (i : Int)) (ha : Row .u32 w a la ca za) (da : Digs 4294967296 za) (u1 : up ≤ 31) (hi : i ≤ 1000000) (hb : w.cell? ⟨b, 0, none⟩ = some (.int .i64 up)) (v : Int) (hv : hd (2 ^ up) (2 ^ (32 - up)) za i = v) :
    Calls Try.prog 133 #[.slice a la ca, .int .i64 j, .pointer (some ⟨b, 0, none⟩)] w fun e w' => e = .returned (.int .u64 v) ∧ ∃ n, w' = w.drewN n := by
  subst hj hv
  exact head_any a la ca za i up b w ha da u1 hi hb
theorem guess_any (a : Option Addr) (la ca : Nat) (za : List Int) (m : Int) (b : Option Addr) (lb cb : Nat) (zb : List Int) (n : Int) (w : World)
    (ha : Row .u32 w a la ca za) (ia : Is 4294967296 za m) (hb : Row .u32 w b lb cb zb) (ib : Is 4294967296 zb n) (l2 : 2 ≤ lb) (l3 : lb ≤ 1000) (hmn : m < n * 4294967296) :
    Calls Try.prog 129 #[.slice a la ca, .slice b lb cb] w (Guesses w m n) := by
  have hmf : ∀ (fn : Fn) (first cap : Array Value) (w : World), (Instr.makeFunc fn first cap).run Try.prog w = .ok (.func fn first cap) w := fun _ _ _ _ => rfl
  obtain ⟨tp, rfl⟩ : ∃ tp, lb = tp + 1 := ⟨lb - 1, by omega⟩
  have HA := Lib.hid ha
  have HB := Lib.hid hb
  have IA := Lib.hid ia
  have IB := Lib.hid ib
  have LB := Lib.hid hb.len
  have ⟨c1, c2⟩ := hb.cap_le
  obtain ⟨bb, ob, rfl, hcb⟩ := hb.cell (show tp < tp + 1 by omega)
  obtain ⟨x, hx⟩ : ∃ x, zb.getD tp 0 = x := ⟨_, rfl⟩
  rw [hx] at hcb
  have x0 : 0 < x ∧ x < 4294967296 := by
    have h1 := ib.1.getD (show (0 : Int) < 4294967296 by omega) tp
    rw [hx] at h1
    have h2 : x ≠ 0 := by
      intro h
      have := ib.2.1
      apply this
      rw [List.getLast?_eq_getElem?, hb.len, show tp + 1 - 1 = tp by omega]
      have g : tp < zb.length := by rw [hb.len]; omega
      rw [List.getD_eq_getElem?_getD, List.getElem?_eq_getElem g] at hx
      rw [List.getElem?_eq_getElem g]
      simp at hx
      rw [hx, h]
    omega
  have HX := Lib.hid hx
  clear ha hb ia ib hx
  go_enter Try.func129, Try.ntmps129
  go_wp2_with fail
  refine (lead32_any x _ x0.1 (by omega)).mono ?_
  rintro e w' ⟨up, rfl, u1, xl, xh, rfl⟩
  have S0 := ipow_pos (B := 2) (by omega) up
  have T0 := ipow_pos (B := 2) (by omega) (32 - up)
  have hB := pow_two u1
  have GF := Lib.hid (guess_fact (tp := tp) hB S0 T0 IA.out IB.out LB.out (by omega) (by
    rw [HX.out]
    have h1 := Int.mul_le_mul_of_nonneg_right xl (Int.le_of_lt S0)
    rw [← Int.pow_add, show 31 - up + up = 31 by omega] at h1
    have h2 : (2 : Int) ^ 31 = 2147483648 := by decide +kernel
    omega) (by rw [HX.out]; exact xh) hmn)
  obtain ⟨A2, hA2⟩ : ∃ v, hd (2 ^ up) (2 ^ (32 - up)) za (tp + 1) = v := ⟨_, rfl⟩
  obtain ⟨A1, hA1⟩ : ∃ v, hd (2 ^ up) (2 ^ (32 - up)) za tp = v := ⟨_, rfl⟩
  obtain ⟨A0, hA0⟩ : ∃ v, hd (2 ^ up) (2 ^ (32 - up)) za (tp - 1) = v := ⟨_, rfl⟩
  obtain ⟨B1, hB1⟩ : ∃ v, hd (2 ^ up) (2 ^ (32 - up)) zb tp = v := ⟨_, rfl⟩
  obtain ⟨B0, hB0⟩ : ∃ v, hd (2 ^ up) (2 ^ (32 - up)) zb (tp - 1) = v := ⟨_, rfl⟩
  have ⟨a20, a21⟩ := hd_bd hB S0 T0 za IA.out.1 (tp + 1)
  have ⟨a10, a11⟩ := hd_bd hB S0 T0 za IA.out.1 tp
  have ⟨a00, a01⟩ := hd_bd hB S0 T0 za IA.out.1 (tp - 1)
  have ⟨b10, b11⟩ := hd_bd hB S0 T0 zb IB.out.1 tp
  have ⟨b00, b01⟩ := hd_bd hB S0 T0 zb IB.out.1 (tp - 1)
  rw [hA2, hA1, hA0, hB1, hB0] at GF
  rw [hA2] at a20 a21
  rw [hA1] at a10 a11
  rw [hA0] at a00 a01
  rw [hB1] at b10 b11
  rw [hB0] at b00 b01
  have V2 := Lib.hid hA2; have V1 := Lib.hid hA1; have V0 := Lib.hid hA0; have U1 := Lib.hid hB1; have U0 := Lib.hid hB0
  clear hA2 hA1 hA0 hB1 hB0 xl xh S0 T0 hB
  have b12 := GF.out.1
  have o1 := or_limb a10 a11 a00 a01
  have o2 := or_limb b10 b11 b00 b01
  go_wp2_with fail
  obtain ⟨W1, hW1⟩ : ∃ W1, w.alloc (Obj.cells #[Value.int IntKind.i64 ↑up] 3) = W1 := ⟨_, rfl⟩
  have BW := Lib.hid (show Below w.heap.size w W1 by rw [← hW1]; exact below_lit _ _)
  have CW := Lib.hid (show W1.cell? ⟨w.heap.size, 0, none⟩ = some (.int .i64 up) by rw [← hW1]; exact World.cell?_alloc_at _ _ _ _ rfl)
  have HA1 := Lib.hid (HA.out.below BW.out)
  have HB1 := Lib.hid (HB.out.below BW.out)
  rw [hW1]
  clear hW1
  refine (head_at _ _ _ za _ (tp + 1) up _ _ (by omega) HA1.out IA.out.1 u1 (by omega) CW.out A2 V2.out).mono ?_
  rintro e w' ⟨rfl, k1, rfl⟩
  go_wp2_with fail
  refine (head_at _ _ _ za _ (tp) up _ _ (by omega) (HA1.out.drewN _) IA.out.1 u1 (by omega) (show (W1.drewN _).cell? _ = _ from CW.out) A1 V1.out).mono ?_
  rintro e w' ⟨rfl, k2, rfl⟩
  go_wp2_with fail
  refine (head_at _ _ _ za _ (tp - 1) up _ _ (by omega) (HA1.out.drewN _) IA.out.1 u1 (by omega) (show (W1.drewN _).cell? _ = _ from CW.out) A0 V0.out).mono ?_
  rintro e w' ⟨rfl, k3, rfl⟩
  go_wp2_with fail
  refine (head_at _ _ _ zb _ (tp) up _ _ (by omega) (HB1.out.drewN _) IB.out.1 u1 (by omega) (show (W1.drewN _).cell? _ = _ from CW.out) B1 U1.out).mono ?_
  rintro e w' ⟨rfl, k4, rfl⟩
  go_wp2_with fail
  refine (head_at _ _ _ zb _ (tp - 1) up _ _ (by omega) (HB1.out.drewN _) IB.out.1 u1 (by omega) (show (W1.drewN _).cell? _ = _ from CW.out) B0 U0.out).mono ?_
  rintro e w' ⟨rfl, k5, rfl⟩
  go_wp2_with fail
  refine (div64_any A2 (A1 * 4294967296 + A0) (B1 * 4294967296 + B0) _ (by omega) (by omega) a20 (by omega) (by omega) (by omega)).mono ?_
  rintro e w' ⟨r, k6, rfl, rfl⟩
  obtain ⟨q, hq⟩ : ∃ q, (A2 * 18446744073709551616 + (A1 * 4294967296 + A0)) / (B1 * 4294967296 + B0) = q := ⟨_, rfl⟩
  rw [hq] at GF ⊢
  clear hq
  go_wp2
  go_ret
  refine ⟨q, rfl, GF.out.2.1, GF.out.2.2, ?_⟩
  exact ⟨BW.out.os, BW.out.tape, BW.out.output, BW.out.size, BW.out.block⟩
end Go.Proofs.Ytnlgophgglgneaa
namespace Go.Proofs.Ytnlgophgglgneaa
open Go.RowKit

theorem is_two_limbs {zs : List Int} {n : Int} (h : Is 4294967296 zs n) (hl : zs.length ≤ 2) : n = zs.getD 1 0 * 4294967296 + zs.getD 0 0 := by
  match zs, hl with
  | [], _ => have := h.2.2; simp [val] at this; simp [← this]
  | [x], _ => have := h.2.2; simp [val] at this; simp [← this]
  | [x, y], _ => have := h.2.2; simp [val] at this; simp; omega
/-- told that it is short, it has at most two limbs and 63 bits -/
def Shorts (w : World) (len : Nat) (m : Int) (e : Ending) (w' : World) : Prop :=
  ∃ r : Bool, e = .returned (.bool r) ∧ (r = true → len ≤ 2 ∧ m ≤ 9223372036854775807) ∧ w = w'
theorem short_any (a : Option Addr) (la ca : Nat) (za : List Int) (m : Int) (w : World) (ha : Row .u32 w a la ca za) (ia : Is 4294967296 za m) :
    Calls Try.prog 118 #[.slice a la ca] w (Shorts w la m) := by
  have HA := Lib.hid ha
  have LA := Lib.hid ha.len
  have IA := Lib.hid ia
  have ⟨c1, c2⟩ := ha.cap_le
  clear ha ia
  by_cases h1 : la < 2
  · have b1 : decide ((la : Int) < 2) = true := by simp; omega
    have F := Lib.hid (show m ≤ 9223372036854775807 by
      have e := is_two_limbs IA.out (by rw [LA.out]; omega)
      have z := IA.out.1.getD (show (0 : Int) < 4294967296 by omega) 0
      have y : za.getD 1 0 = 0 := getD_out (by rw [LA.out]; omega)
      rw [y] at e
      omega)
    go_enter Try.func118, Try.ntmps118
    go_wp2
    go_ret
    exact ⟨true, rfl, fun _ => ⟨by omega, F.out⟩, rfl⟩
  · have b1 : decide ((la : Int) < 2) = false := by simp; omega
    by_cases h2 : la = 2
    · subst h2
      obtain ⟨ba, oa, rfl, hca⟩ := HA.out.cell (show 1 < 2 by omega)
      obtain ⟨x, hx⟩ : ∃ x, za.getD 1 0 = x := ⟨_, rfl⟩
      rw [hx] at hca
      have e := is_two_limbs IA.out (by rw [LA.out]; omega)
      have z := IA.out.1.getD (show (0 : Int) < 4294967296 by omega) 0
      rw [hx] at e
      have F := Lib.hid (show x ≤ 2147483647 → m ≤ 9223372036854775807 by intro g; omega)
      clear hx e z b1
      by_cases g : x ≤ 2147483647
      · have b2 : decide (x ≤ 2147483647) = true := by simp; omega
        go_enter Try.func118, Try.ntmps118
        go_wp2
        go_ret
        exact ⟨true, rfl, fun _ => ⟨by omega, F.out g⟩, rfl⟩
      · have b2 : decide (x ≤ 2147483647) = false := by simp; omega
        go_enter Try.func118, Try.ntmps118
        go_wp2
        go_ret
        exact ⟨false, rfl, fun h => (by cases h), rfl⟩
    · have b2 : ((la : Int) == 2) = false := by simp; omega
      go_enter Try.func118, Try.ntmps118
      go_wp2
      go_ret
      exact ⟨false, rfl, fun h => (by cases h), rfl⟩

theorem or_i64 {r x : Int} (r0 : 0 ≤ r) (r1 : r < 2147483648) (x0 : 0 ≤ x) (x1 : x < 4294967296) : bits .or .i64 (r * 4294967296) x = r * 4294967296 + x := by
  obtain ⟨a, rfl⟩ := Int.eq_ofNat_of_zero_le r0
  obtain ⟨b, rfl⟩ := Int.eq_ofNat_of_zero_le x0
  have k : (a : Int) * 4294967296 = ((a * 4294967296 : Nat) : Int) := by omega
  have e2 : a * 4294967296 ||| b = a * 4294967296 + b := by
    have := Nat.shiftLeft_add_eq_or_of_lt (i := 32) (b := b) (by omega) a
    rw [Nat.shiftLeft_eq] at this
    exact this.symm
  have f1 : (BitVec.ofInt 64 ((a * 4294967296 : Nat) : Int)).toNat = a * 4294967296 := by
    rw [BitVec.ofInt_natCast, BitVec.toNat_ofNat]; exact Nat.mod_eq_of_lt (by omega)
  have f2 : (BitVec.ofInt 64 (b : Int)).toNat = b := by
    rw [BitVec.ofInt_natCast, BitVec.toNat_ofNat]; exact Nat.mod_eq_of_lt (by omega)
  rw [k]
  show IntKind.i64.wrap ((BitVec.ofInt 64 ((a * 4294967296 : Nat) : Int) ||| BitVec.ofInt 64 (b : Int)).toNat : Int) = _
  rw [BitVec.toNat_or, f1, f2, e2]
  rw [IntWalk.i64_in _ (by omega)]
  omega
theorem number_any (a : Option Addr) (la ca : Nat) (za : List Int) (m : Int) (w : World) (ha : Row .u32 w a la ca za) (ia : Is 4294967296 za m) (l2 : la ≤ 2) (hm : m ≤ 9223372036854775807) :
    Calls Try.prog 120 #[.slice a la ca] w fun e w' => e = .returned (.int .i64 m) ∧ w = w' := by
  have HA := Lib.hid ha
  have e := is_two_limbs ia (by rw [ha.len]; omega)
  have z := ia.1.getD (show (0 : Int) < 4294967296 by omega) 0
  have y := ia.1.getD (show (0 : Int) < 4294967296 by omega) 1
  have e0 : li za 0 = za.getD 0 0 := li_nat za 0
  have e1 : li za 1 = za.getD 1 0 := li_nat za 1
  obtain ⟨x0, h0⟩ : ∃ x, za.getD 0 0 = x := ⟨_, rfl⟩
  obtain ⟨x1, h1⟩ : ∃ x, za.getD 1 0 = x := ⟨_, rfl⟩
  rw [h0] at e z e0
  rw [h1] at e y e1
  have E := Lib.hid e
  have E0 := Lib.hid e0
  have E1 := Lib.hid e1
  have y2 : x1 < 2147483648 := by omega
  have o := or_i64 y.1 y2 z.1 z.2
  obtain ⟨z1, z2⟩ := z
  have y1 := y.1
  clear e e0 e1 h0 h1 ha ia y hm
  go_enter Try.func120, Try.ntmps120
  go_wp2_with fail
  refine (rlimb_any _ _ _ za 1 w HA.out).mono ?_
  rintro e w' ⟨rfl, rfl⟩
  rw [E1.out]
  go_wp2_with fail
  refine (rlimb_any _ _ _ za 0 w HA.out).mono ?_
  rintro e w' ⟨rfl, rfl⟩
  rw [E0.out]
  go_wp2
  go_ret
  exact ⟨ret_one E.out.symm, rfl⟩

theorem is_none_limb {zs : List Int} {n : Int} (h : Is 4294967296 zs n) (hl : zs.length = 0) : n = 0 := by
  match zs, hl with
  | [], _ => have := h.2.2; simpa [val] using this.symm
theorem is_cons {zs : List Int} {n low : Int} (h : Is 4294967296 zs n) (hn : zs ≠ []) (l0 : 0 ≤ low) (l1 : low < 4294967296) : Is 4294967296 (low :: zs) (low + 4294967296 * n) := by
  refine ⟨fun z hz => ?_, ?_, by rw [val, h.2.2]⟩
  · rcases List.mem_cons.mp hz with rfl | hz
    · exact ⟨l0, l1⟩
    · exact h.1 z hz
  · have := h.2.1
    match zs, hn with
    | x :: r, _ => simpa [Top, List.getLast?_cons_cons] using this
theorem below_any (a : Option Addr) (la ca : Nat) (za : List Int) (m low : Int) (w : World) (ha : Row .u32 w a la ca za) (ia : Is 4294967296 za m) (l0 : 0 ≤ low) (l1 : low < 4294967296) (hla : la ≤ 1000) :
    Calls Try.prog 126 #[.slice a la ca, .int .u32 low] w (GivesL w (la + 1) (low + 4294967296 * m)) := by
  obtain ⟨i0, hi, hz0, hz1, hz2⟩ := info_parts Try.infoU32
  have HA := Lib.hid ha
  have IA := Lib.hid ia
  have ⟨c1, c2⟩ := ha.cap_le
  by_cases h : la = 0
  · subst h
    have E := Lib.hid (show low + 4294967296 * m = low by
      have := is_none_limb ia ha.len
      omega)
    clear ha ia
    have b0 : ((0 : Int) == 0) = true := rfl
    go_enter Try.func126, Try.ntmps126
    go_wp2_with fail
    refine (nOf_is low w l0 (by omega)).mono ?_
    rintro e w' ⟨a', l, c, z, rfl, hr, his, hl, hb⟩
    have HR := Lib.hid hr; have HI := Lib.hid his; have HB := Lib.hid hb
    have L1 := Lib.hid (show l ≤ 0 + 1 by rw [← hr.len]; exact his.len_le (by omega) (by simpa using l1))
    clear hr his hb hl
    go_wp2
    go_ret
    exact ⟨_, _, _, _, rfl, HR.out, by rw [E.out]; exact HI.out, L1.out, HB.out⟩
  · have b0 : ((la : Int) == 0) = false := by simp; omega
    obtain ⟨b, off, rfl, _⟩ := ha.cell (show 0 < la by omega)
    have IC := Lib.hid (is_cons ia (by intro e; have := ha.len; rw [e] at this; simp at this; omega) l0 l1)
    have NL := Lib.hid (show (low :: za).length = 1 + la by rw [List.length_cons, ha.len]; omega)
    clear ha ia
    go_enter Try.func126, Try.ntmps126
    go_wp2_with (at_builtin; refine wpList_append_own _ rfl _ _ 56 rfl w.heap.size 107 i0 (.int .u32 0) 1 4 Try.underlying56 hi hz0 hz1 hz2 rfl (by decide) (.slice (some ⟨w.heap.size, 0, none⟩) 1 1) 1 [.int .u32 low] rfl (World.ownsRow_lit (e := 107) (size := 1) w #[.int .u32 low] 1 (Nat.le_refl _) (by unfold maxLen; omega) rfl) ⟨b, off, none⟩ la ca (za.map (Value.int .u32)) rfl (by simp [HA.out.len]) (HA.out.below ((Below.refl _ _).alloc (Nat.le_refl _) _)).news (ints_one _ _) (by unfold maxLen; omega) (by omega) (by simp) ?_; intro v2 w2 hown2 hgrow2 hnil2; have HO2 := Lib.hid hown2; have HG2 := Lib.hid hgrow2; clear hown2 hgrow2 hnil2)
    have ho : w2.ownsRow w.heap.size 107 1 v2 (1 + la) ((low :: za).map (Value.int .u32)) := HO2.out
    obtain ⟨a', cap', rfl, hrow, _⟩ := row_of_owns ho
    have HR := Lib.hid hrow
    have hb := Lib.hid (show Below w.heap.size w w2 from ((Below.refl w.heap.size w).alloc (Nat.le_refl _) _).grown HG2.out (by simp) (fun g hg => Nat.le_of_eq (by simpa [Value.ownBlock] using hg)))
    clear ho hrow
    go_ret
    exact ⟨_, _, _, _, rfl, HR.out, IC.out, by omega, hb.out⟩
end Go.Proofs.Ytnlgophgglgneaa
namespace Go.Proofs.Ytnlgophgglgneaa
open Go.RowKit

def Steps (w : World) (m n : Int) (e : Ending) (w' : World) : Prop :=
  ∃ a len cap zs, e = .returned (.tuple #[.int .u32 (m / n), .slice a len cap]) ∧ Row .u32 w' a len cap zs ∧ Is 4294967296 zs (m % n) ∧ Fresh w.heap.size a ∧ Below w.heap.size w w'
theorem ret_iv {v : Value} {k : IntKind} {a b : Int} (h : a = b) : Ending.returned (.tuple #[.int k a, v]) = .returned (.tuple #[.int k b, v]) := by rw [h]

/-- what is left, in memory of its own -/
theorem nSub_fr (a : Option Addr) (la ca : Nat) (za : List Int) (m : Int) (b : Option Addr) (lb cb : Nat) (zb : List Int) (n : Int) (w : World)
    (ha : Row .u32 w a la ca za) (ia : Is 4294967296 za m) (hb : Row .u32 w b lb cb zb) (ib : Is 4294967296 zb n) (la6 : la ≤ 1000) (t : Int) (h : n ≤ m ∧ t = m - n) :
    Calls Try.prog 131 #[.slice a la ca, .slice b lb cb] w (SubP w t) := by
  obtain ⟨h, rfl⟩ := h
  exact nSub_ge a la ca za m b lb cb zb n w ha ia hb ib h (by omega)
theorem step_any (a : Option Addr) (la ca : Nat) (za : List Int) (m : Int) (b : Option Addr) (lb cb : Nat) (zb : List Int) (n : Int) (w : World)
    (ha : Row .u32 w a la ca za) (ia : Is 4294967296 za m) (hb : Row .u32 w b lb cb zb) (ib : Is 4294967296 zb n) (l2 : 2 ≤ lb) (l3 : lb ≤ 900) (l4 : la ≤ 900) (hmn : m < n * 4294967296) (n0 : 0 < n) :
    Calls Try.prog 125 #[.slice a la ca, .slice b lb cb] w (Steps w m n) := by
  have m0 := ia.nonneg (by omega)
  have Q0 : 0 ≤ m / n := Int.ediv_nonneg m0 (by omega)
  have Q1 : m / n < 4294967296 := Int.ediv_lt_of_lt_mul n0 (by rw [Int.mul_comm]; exact hmn)
  have E := Lib.hid (Int.mul_ediv_add_emod m n)
  have R0 := Int.emod_nonneg m (show n ≠ 0 by omega)
  have R1 := Int.emod_lt_of_pos m n0
  have HA := Lib.hid ha; have HB := Lib.hid hb; have IA := Lib.hid ia; have IB := Lib.hid ib
  clear ha hb ia ib
  go_enter Try.func125, Try.ntmps125
  go_wp2_with fail
  refine (guess_any a la ca za m b lb cb zb n w HA.out IA.out HB.out IB.out l2 (by omega) hmn).mono ?_
  rintro e w1 ⟨q, rfl, q1, q2, hb1⟩
  have HB1 := Lib.hid hb1
  have RA := Lib.hid (HA.out.below hb1); have RB := Lib.hid (HB.out.below hb1)
  clear hb1
  go_wp2_with fail
  refine (nOf_is q w1 (by omega) (by omega)).mono ?_
  rintro e w2 ⟨a2, l5, c2, z2, rfl, hr, hi, hl, hb2⟩
  have HR2 := Lib.hid hr; have HI2 := Lib.hid hi; have HB2 := Lib.hid hb2
  have RA2 := Lib.hid (RA.out.below hb2); have RB2 := Lib.hid (RB.out.below hb2)
  clear hr hi hb2 RA RB
  go_wp2_with fail
  refine (nMul_is lb 2 b lb cb zb n a2 l5 c2 z2 q w2 RB2.out IB.out HR2.out HI2.out (by omega) (by omega) (Nat.le_refl _) hl).mono ?_
  rintro e w3 ⟨a3, l6, c3, z3, rfl, hr, hi, hl3, hb3⟩
  have HR3 := Lib.hid hr; have HI3 := Lib.hid hi
  have BB3 := Lib.hid (below_next (below_next HB1.out HB2.out) hb3)
  have RA3 := Lib.hid (RA2.out.below hb3); have RB3 := Lib.hid (RB2.out.below hb3)
  clear hr hi hb3 RA2 RB2 HB1 HB2
  rcases Int.lt_or_le m (n * q) with g | g
  · -- one too many
    obtain rfl : q = m / n + 1 := by
      rcases Int.lt_or_le (m / n) q with h | h
      · omega
      · exfalso
        obtain rfl : q = m / n := by omega
        have := E.out
        omega
    have CK := Lib.hid (cmpI_gt (m := n * (m / n + 1)) (n := m) g)
    have PS := Lib.hid (show Subs (n * (m / n + 1)) n (n * (m / n)) 0 from .inr ⟨by rw [Int.mul_add]; have := Int.mul_nonneg (show 0 ≤ n by omega) Q0; omega, by rw [Int.mul_add]; omega, rfl⟩)
    have PT := Lib.hid (show n * (m / n) ≤ m ∧ m % n = m - n * (m / n) from ⟨by have := E.out; omega, by have := E.out; omega⟩)
    obtain ⟨Q, hQ⟩ : ∃ Q, m / n = Q := ⟨_, rfl⟩
    obtain ⟨R, hR⟩ : ∃ R, m % n = R := ⟨_, rfl⟩
    rw [hQ] at HI3 CK PS PT Q0 Q1
    rw [hR] at PT
    rw [hQ]
    have FQ := Lib.hid hQ; have FR := Lib.hid hR
    clear hQ hR E g q1 q2 R0 R1
    go_wp2_with fail
    refine (nCmp_is a3 l6 c3 z3 _ a la ca za m w3 HR3.out HI3.out RA3.out IA.out 1 CK.out).mono ?_
    rintro e w4 ⟨rfl, hb4⟩
    have BB4 := Lib.hid (below_next BB3.out hb4)
    have RA4 := Lib.hid (RA3.out.below hb4); have RB4 := Lib.hid (RB3.out.below hb4); have HR4 := Lib.hid (HR3.out.below hb4)
    clear hb4 RA3 RB3 HR3 BB3
    go_wp2_with fail
    refine (nSub_is a3 l6 c3 z3 _ b lb cb zb n w4 HR4.out HI3.out RB4.out IB.out (by omega) _ _ PS.out).mono ?_
    rintro e w5 ⟨a5, l7, c5, z5, rfl, hr, hi, hb5⟩
    have HR5 := Lib.hid hr; have HI5 := Lib.hid hi
    have BB5 := Lib.hid (below_next BB4.out hb5)
    have RA5 := Lib.hid (RA4.out.below hb5)
    clear hr hi hb5 RA4 RB4 HR4 BB4
    go_wp2_with fail
    refine (nSub_fr a la ca za m a5 l7 c5 z5 _ w5 RA5.out IA.out HR5.out HI5.out (by omega) _ PT.out).mono ?_
    rintro e w6 ⟨a6, l8, c6, z6, rfl, hr, hi, hf, hb6⟩
    have HF6 := Lib.hid hf
    clear hf
    have HR6 := Lib.hid hr; have HI6 := Lib.hid hi
    have BB6 := Lib.hid (below_next BB5.out hb6)
    clear hr hi hb6
    go_wp2
    go_ret2
    exact ⟨_, _, _, _, ret_iv FQ.out.symm, HR6.out, by rw [FR.out]; exact HI6.out, HF6.out.mono (BB5.out.size), BB6.out⟩
  · obtain rfl : q = m / n := by
      have := Int.le_ediv_of_mul_le n0 (show q * n ≤ m by rw [Int.mul_comm]; exact g)
      omega
    have CK := Lib.hid (show ∃ k, cmpI (n * (m / n)) m = k ∧ k ≤ 0 by
      rcases Int.lt_or_eq_of_le g with h | h
      · exact ⟨_, cmpI_lt h, by omega⟩
      · exact ⟨_, cmpI_eq h, by omega⟩)
    have PT := Lib.hid (show n * (m / n) ≤ m ∧ m % n = m - n * (m / n) from ⟨g, by have := E.out; omega⟩)
    obtain ⟨Q, hQ⟩ : ∃ Q, m / n = Q := ⟨_, rfl⟩
    obtain ⟨R, hR⟩ : ∃ R, m % n = R := ⟨_, rfl⟩
    rw [hQ] at HI3 CK PT Q0 Q1
    rw [hR] at PT
    rw [hQ]
    have FQ := Lib.hid hQ; have FR := Lib.hid hR
    clear hQ hR E g q1 q2 R0 R1
    obtain ⟨k, ck, k0⟩ := CK.out
    have CK' := Lib.hid ck
    clear CK ck
    have bk : decide (0 < k) = false := by simp; omega
    go_wp2_with fail
    refine (nCmp_is a3 l6 c3 z3 _ a la ca za m w3 HR3.out HI3.out RA3.out IA.out k CK'.out).mono ?_
    rintro e w4 ⟨rfl, hb4⟩
    have BB4 := Lib.hid (below_next BB3.out hb4)
    have RA4 := Lib.hid (RA3.out.below hb4); have HR4 := Lib.hid (HR3.out.below hb4)
    clear hb4 RA3 RB3 HR3 BB3
    go_wp2_with fail
    refine (nSub_fr a la ca za m a3 l6 c3 z3 _ w4 RA4.out IA.out HR4.out HI3.out (by omega) _ PT.out).mono ?_
    rintro e w6 ⟨a6, l8, c6, z6, rfl, hr, hi, hf, hb6⟩
    have HF6 := Lib.hid hf
    clear hf
    have HR6 := Lib.hid hr; have HI6 := Lib.hid hi
    have BB6 := Lib.hid (below_next BB4.out hb6)
    clear hr hi hb6
    go_wp2
    go_ret2
    exact ⟨_, _, _, _, ret_iv FQ.out.symm, HR6.out, by rw [FR.out]; exact HI6.out, HF6.out.mono (BB4.out.size), BB6.out⟩
end Go.Proofs.Ytnlgophgglgneaa
namespace Go.Proofs.Ytnlgophgglgneaa
open Go.RowKit

def DivMods (w : World) (m n : Int) (e : Ending) (w' : World) : Prop :=
  ∃ a1 l1 c1 z1 a2 l2 c2 z2, e = .returned (.tuple #[.slice a1 l1 c1, .slice a2 l2 c2]) ∧ Row .u32 w' a1 l1 c1 z1 ∧ Is 4294967296 z1 (m / n) ∧ Row .u32 w' a2 l2 c2 z2 ∧ Is 4294967296 z2 (m % n) ∧ Below w.heap.size w w'

theorem divide_one (a : Option Addr) (la ca : Nat) (za : List Int) (m : Int) (b : Option Addr) (cb : Nat) (zb : List Int) (n : Int) (w : World)
    (ha : Row .u32 w a la ca za) (ia : Is 4294967296 za m) (hb : Row .u32 w b 1 cb zb) (ib : Is 4294967296 zb n) (hla : la ≤ 900) :
    Calls Try.prog 121 #[.slice a la ca, .slice b 1 cb] w (DivMods w m n) := by
  obtain ⟨bb, ob, rfl, hcb⟩ := hb.cell (show 0 < 1 by omega)
  have ⟨c1, c2⟩ := hb.cap_le
  have x := ib.1.getD (show (0 : Int) < 4294967296 by omega) 0
  have hx : zb.getD 0 0 = n := by
    match zb, hb.len, ib.2.2 with
    | [y], _, h => simpa [val] using h
  have n0 : 0 < n := by
    rcases Int.lt_or_eq_of_le (ib.nonneg (by omega)) with h | h
    · exact h
    · exfalso
      have := top_zero (by omega) ib.1 ib.2.1 (ib.2.2.trans h.symm)
      have h2 := hb.len
      rw [this] at h2; simp at h2
  rw [hx] at hcb x
  rw [Nat.add_zero] at hcb
  have HA := Lib.hid ha; have IA := Lib.hid ia
  obtain ⟨x0, x1⟩ := x
  have r0 := Int.emod_nonneg m (show n ≠ 0 by omega)
  have r1 := Int.emod_lt_of_pos m n0
  have DV := Lib.hid (show Divs m n (m / n) (m % n) 0 from .inr ⟨n0, rfl, rfl, rfl⟩)
  obtain ⟨Q, hQ⟩ : ∃ Q, m / n = Q := ⟨_, rfl⟩
  obtain ⟨R, hR⟩ : ∃ R, m % n = R := ⟨_, rfl⟩
  rw [hQ, hR] at DV
  rw [hR] at r0 r1
  have FQ := Lib.hid hQ; have FR := Lib.hid hR
  clear ha ia hb ib hx hQ hR
  go_enter Try.func121, Try.ntmps121
  go_wp2_with fail
  refine (nDiv_is a la ca za m n w HA.out IA.out (by omega) x1 _ _ _ DV.out).mono ?_
  rintro e w1 ⟨a1, l1, k1, z1, rfl, hr, hi, hb1⟩
  have HR1 := Lib.hid hr; have HI1 := Lib.hid hi; have HB1 := Lib.hid hb1
  clear hr hi hb1
  go_wp2_with fail
  refine (nOf_is R w1 r0 (by omega)).mono ?_
  rintro e w2 ⟨a2, l2, k2, z2, rfl, hr, hi, _, hb2⟩
  have HR2 := Lib.hid hr; have HI2 := Lib.hid hi; have HB2 := Lib.hid hb2
  clear hr hi hb2
  go_wp2
  go_ret2
  exact ⟨_, _, _, _, _, _, _, _, rfl, HR1.out.below HB2.out, by rw [FQ.out]; exact HI1.out, HR2.out, by rw [FR.out]; exact HI2.out, below_next HB1.out HB2.out⟩

theorem divide_less (a : Option Addr) (la ca : Nat) (za : List Int) (m : Int) (b : Option Addr) (lb cb : Nat) (zb : List Int) (n : Int) (w : World)
    (ha : Row .u32 w a la ca za) (ia : Is 4294967296 za m) (hb : Row .u32 w b lb cb zb) (ib : Is 4294967296 zb n) (l2 : 2 ≤ lb) (l3 : la < lb) :
    Calls Try.prog 121 #[.slice a la ca, .slice b lb cb] w (DivMods w m n) := by
  have h1 := (is_lt ia (p := la) (by rw [ha.len]; exact Nat.le_refl _))
  have h2 := ib.pow_le (by omega) (by intro e; have := hb.len; rw [e] at this; simp at this; omega)
  rw [hb.len] at h2
  have h3 := ipow_le (B := 4294967296) (by omega) (show la ≤ lb - 1 by omega)
  have E1 := Lib.hid (show m / n = 0 from Int.ediv_eq_zero_of_lt h1.1 (by omega))
  have E2 := Lib.hid (show m % n = m from Int.emod_eq_of_lt h1.1 (by omega))
  have HA := Lib.hid ha; have IA := Lib.hid ia
  have ⟨c1, c2⟩ := ha.cap_le
  have ⟨c3, c4⟩ := hb.cap_le
  clear h1 h2 h3 ha ia hb ib
  have b1 : ((lb : Int) == 1) = false := by simp; omega
  have b2 : decide (la < lb) = true := by simp; omega
  go_enter Try.func121, Try.ntmps121
  go_wp2
  go_ret2
  exact ⟨_, _, _, _, _, _, _, _, rfl, Row.nil, by rw [E1.out]; exact is_nil, HA.out, by rw [E2.out]; exact IA.out, Below.refl _ _⟩

theorem Row.drop {k : IntKind} {W : World} {b off len cap j : Nat} {zs : List Int} (h : Row k W (some ⟨b, off, none⟩) len cap zs) (hj : j ≤ len) : Row k W (some ⟨b, off + j, none⟩) (len - j) (cap - j) (zs.drop j) := by
  have h1 := h.2.1
  have h2 := h.2.2.1
  refine ⟨by rw [List.length_drop, h.1], by omega, by omega, (fun e => by cases e), fun i hi => ?_⟩
  obtain ⟨b', o', e, hc⟩ := h.2.2.2.2 (j + i) (by omega)
  simp only [Option.some.injEq, Addr.mk.injEq, and_true] at e
  obtain ⟨rfl, rfl⟩ := e
  refine ⟨b, off + j, rfl, ?_⟩
  rw [List.getD_eq_getElem?_getD, List.getElem?_drop, ← List.getD_eq_getElem?_getD, Nat.add_assoc]
  exact hc
theorem top_drop {zs : List Int} {k : Nat} (h : Top zs) (hk : k < zs.length) : Top (zs.drop k) := by
  unfold Top at h ⊢
  rw [List.getLast?_drop, if_neg (by omega)]
  exact h
/-- a quotient's digits -/
theorem quo_digits {za zb ds : List Int} {m n : Int} {L : Nat} (ia : Is 4294967296 za m) (ib : Is 4294967296 zb n) (hl : za.length = L + zb.length) (hza : za ≠ []) (n0 : 0 < n) (hd : ds.length = L + 1) (dd : Digs 4294967296 ds) (hv : val 4294967296 ds = m / n) :
    (ds.getD L 0 ≠ 0 → Is 4294967296 ds (m / n)) ∧ (ds.getD L 0 = 0 → Is 4294967296 (ds.take L) (m / n)) := by
  constructor
  · intro h
    refine ⟨dd, ?_, hv⟩
    have := top_take (zs := ds) (m := L) (by omega) h
    rwa [List.take_of_length_le (by omega)] at this
  · intro h
    have e1 : val 4294967296 (ds.take L) = m / n := by
      have := val_take_zero (B := 4294967296) (zs := ds) (m := L) (by omega) h
      rw [List.take_of_length_le (show ds.length ≤ L + 1 by omega)] at this
      rw [← hv]; first | exact this | exact this.symm
    refine ⟨dd.take L, ?_, e1⟩
    cases L with
    | zero => simp [Top]
    | succ L =>
      refine top_take (by omega) ?_
      intro h0
      have e2 : val 4294967296 (ds.take L) = m / n := by
        have := val_take_zero (B := 4294967296) (zs := ds) (m := L) (by omega) h0
        rw [← e1]; first | exact this | exact this.symm
      have v1 := val_lt (show (0 : Int) < 4294967296 by omega) (dd.take L)
      rw [e2, List.length_take, Nat.min_eq_left (by omega)] at v1
      have h1 := ia.pow_le (by omega) hza
      have h2 := (is_lt ib (Nat.le_refl _)).2
      have h3 : (4294967296 : Int) ^ (za.length - 1) = 4294967296 ^ L * 4294967296 ^ zb.length := by rw [← Int.pow_add, hl]; congr 1; omega
      have p0 := ipow_pos (B := 4294967296) (by omega) L
      have h4 : 4294967296 ^ L * n ≤ 4294967296 ^ L * 4294967296 ^ zb.length := Int.mul_le_mul_of_nonneg_left (by omega) (by omega)
      have h5 := Int.le_ediv_of_mul_le n0 (show 4294967296 ^ L * n ≤ m by omega)
      omega

set_option maxHeartbeats 1000000 in
theorem divide_long (a : Option Addr) (la ca : Nat) (za : List Int) (m : Int) (b : Option Addr) (lb cb : Nat) (zb : List Int) (n : Int) (w : World)
    (ha : Row .u32 w a la ca za) (ia : Is 4294967296 za m) (hb : Row .u32 w b lb cb zb) (ib : Is 4294967296 zb n) (l2 : 2 ≤ lb) (l3 : lb ≤ la) (hla : la ≤ 800) :
    Calls Try.prog 121 #[.slice a la ca, .slice b lb cb] w (DivMods w m n) := by
  obtain ⟨i0, hi, hz0, hz1, hz2⟩ := info_parts Try.infoU32
  have ⟨c1, c2⟩ := ha.cap_le
  have ⟨c3, c4⟩ := hb.cap_le
  obtain ⟨ba, oa, rfl, hca⟩ := ha.cell (show 0 < la by omega)
  clear hca
  obtain ⟨K, hK⟩ : ∃ K, la + 1 = K + lb := ⟨la + 1 - lb, by omega⟩
  have k1 : (la : Int) - (lb : Int) + 1 = (K : Int) := by omega
  have k2 : 1 ≤ K := by omega
  have k3 : K < la := by omega
  have k4 : ¬ ca = K := by omega
  have KK := Lib.hid hK
  have HA := Lib.hid ha; have IA := Lib.hid ia; have HB := Lib.hid hb; have IB := Lib.hid ib; have LA := Lib.hid ha.len; have LB := Lib.hid hb.len
  clear ha ia hb ib hK
  have b1 : ((lb : Int) == 1) = false := by simp; omega
  have b2 : decide (la < lb) = false := by simp; omega
  have HBY := Lib.hid (show i0.bytes * K ≤ 281474976710656 by rw [hz2]; omega)
  go_enter Try.func121, Try.ntmps121
  go_wp2_with (at_make; refine wpList_make_full _ rfl _ _ 56 rfl w.heap.size 107 i0 (.int .u32 0) 1 Try.underlying56 hi hz0 hz1 _ _ _ _ K rfl rfl (by omega) (by omega) HBY.out (by unfold maxLen; omega) (Nat.le_refl _) ?_; intro w1 hown hgrow; have HO := Lib.hid hown; have HG := Lib.hid hgrow; clear hown hgrow)
  have N0 := Lib.hid (show 0 < n ∧ n < 4294967296 ^ lb ∧ 4294967296 ^ (lb - 1) ≤ n by
    have h2 := IB.out.pow_le (by omega) (by intro e; have := LB.out; rw [e] at this; simp at this; omega)
    rw [LB.out] at h2
    have := ipow_pos (B := 4294967296) (by omega) (lb - 1)
    exact ⟨by omega, (is_lt IB.out (p := lb) (by rw [LB.out]; exact Nat.le_refl _)).2, h2⟩)
  have n0 := N0.out.1
  have B1 := Lib.hid (show Below w.heap.size w w1 from (Below.refl _ _).grown HG.out (Nat.le_refl _) (fun g hg => by cases hg))
  have M0 := Lib.hid (show Mine w1 w.heap.size (List.replicate K 0) by
    have := HO.out
    rw [made_zeros] at this
    exact mine_of_owns this)
  have D0 := Lib.hid (show Is 4294967296 (za.drop K) (val 4294967296 (za.drop K)) from ⟨IA.out.1.drop K, top_drop IA.out.2.1 (by rw [LA.out]; exact k3), rfl⟩)
  have L0 := Lib.hid (show val 4294967296 (za.drop K) < n by
    have := (is_lt D0.out (p := lb - 1) (by rw [List.length_drop, LA.out]; have := KK.out; omega)).2
    have := N0.out.2.2
    omega)
  clear HO HG k1
  go_loopw [5, 9] (fun v u wr => ∃ (j : Nat) (c : Int) (a2 : Option Addr) (l2 c2 : Nat) (z2 : List Int) (r : Int) (ds : List Int), u = .int .i64 c ∧ c = (j : Int) - 1 ∧ j ≤ K ∧ v = .slice a2 l2 c2 ∧ Row .u32 wr a2 l2 c2 z2 ∧ Is 4294967296 z2 r ∧ r < n ∧ ds.length = K ∧ Digs 4294967296 ds ∧ Mine wr w.heap.size ds ∧ val 4294967296 (ds.drop j) * n + r = val 4294967296 (za.drop j) ∧ Below w.heap.size w wr) (fun _ u _ => (intOf u + 1).toNat)
  case atStart =>
    refine ⟨K, _, _, _, _, za.drop K, val 4294967296 (za.drop K), _, rfl, rfl, Nat.le_refl _, rfl, (HA.out.below B1.out).drop (by omega), D0.out, L0.out, List.length_replicate, digs_zeroB _, M0.out, ?_, B1.out⟩
    rw [List.drop_eq_nil_of_le (by rw [List.length_replicate]; exact Nat.le_refl _)]
    simp [val]
  case round =>
    clear M0 D0 L0 B1
    obtain ⟨j, c, a2, l2', c2', z2, r, ds, rfl, hc, hj, rfl, hr2, hi2, hr, hdl, hdg, hmi, hval, hbel⟩ := hrel
    have R2 := Lib.hid hr2; have I2 := Lib.hid hi2; have DL := Lib.hid hdl; have DG := Lib.hid hdg; have MI := Lib.hid hmi; have VA := Lib.hid hval; have BE := Lib.hid hbel
    have r0 := hi2.nonneg (by omega)
    have L2 : l2' ≤ lb := by
      have := hi2.len_le (L := lb) (by omega) (by have := N0.out.2.1; omega)
      rw [hr2.len] at this; exact this
    clear hr2 hi2 hdl hdg hmi hval hbel
    cases j with
    | zero =>
      obtain rfl : c = -1 := by omega
      clear hc hj
      obtain ⟨L, hL⟩ : ∃ L, K = L + 1 := ⟨K - 1, by omega⟩
      have QD := Lib.hid (quo_digits (L := L) IA.out IB.out (by rw [LA.out, LB.out]; have := KK.out; omega) (by intro e; have := LA.out; rw [e] at this; simp at this; omega) n0 (by rw [DL.out]; exact hL) DG.out (by
        have h := VA.out
        rw [List.drop_zero, List.drop_zero, IA.out.2.2] at h
        have := (Int.ediv_emod_unique n0 (a := m) (r := r) (q := val 4294967296 ds)).mpr ⟨by rw [Int.mul_comm]; omega, r0, hr⟩
        exact this.1.symm))
      have RM := Lib.hid (show m % n = r by
        have h := VA.out
        rw [List.drop_zero, List.drop_zero, IA.out.2.2] at h
        exact ((Int.ediv_emod_unique n0 (a := m) (r := r) (q := val 4294967296 ds)).mpr ⟨by rw [Int.mul_comm]; omega, r0, hr⟩).2)
      have hcell := MI.out.cell (i := L) (by rw [DL.out]; omega)
      obtain ⟨x, hx⟩ : ∃ x, ds.getD L 0 = x := ⟨_, rfl⟩
      rw [hx] at hcell QD
      have e9 : (K : Int) - 1 = (L : Int) := by omega
      have RW := Lib.hid (MI.out.row (cap := K) (by rw [DL.out]; omega) (by omega))
      rw [DL.out] at RW
      have lK : L < K := by omega
      clear hx hL
      by_cases g : x = 0
      · subst g
        go_wp2
        go_ret2
        exact ⟨_, _, _, _, _, _, _, _, rfl, RW.out.trim (by omega), QD.out.2 (by trivial), R2.out, by rw [RM.out]; exact I2.out, BE.out⟩
      · have g' : (x == 0) = false := by simp [g]
        go_wp2
        go_ret2
        exact ⟨_, _, _, _, _, _, _, _, rfl, RW.out, QD.out.1 g, R2.out, by rw [RM.out]; exact I2.out, BE.out⟩
    | succ i =>
      obtain rfl : c = (i : Int) := by omega
      clear hc
      obtain ⟨b', o', he, hx⟩ := (HA.out.below BE.out).cell (show i < la by omega)
      simp only [Option.some.injEq, Addr.mk.injEq, and_true] at he
      obtain ⟨rfl, rfl⟩ := he
      obtain ⟨x0, x1⟩ := IA.out.1.getD (show (0 : Int) < 4294967296 by omega) i
      obtain ⟨x, hxx⟩ : ∃ x, za.getD i 0 = x := ⟨_, rfl⟩
      rw [hxx] at hx x0 x1
      have EX := Lib.hid hxx
      clear hxx
      have mn : x + 4294967296 * r < n * 4294967296 := by omega
      have il : i < la := by omega
      go_wp2_with fail
      refine (below_any a2 l2' c2' z2 r x wr R2.out I2.out x0 x1 (by omega)).mono ?_
      rintro e w2 ⟨a3, l3', c3', z3, rfl, hr3, hi3, hl3, hb3⟩
      have R3 := Lib.hid hr3; have I3 := Lib.hid hi3; have B3 := Lib.hid hb3
      clear hr3 hi3 hb3
      go_wp2_with fail
      refine (step_any a3 l3' c3' z3 _ b lb cb zb n w2 R3.out I3.out ((HB.out.below BE.out).below B3.out) IB.out l2 (by omega) (by omega) mn n0).mono ?_
      rintro e w3 ⟨a4, l4', c4', z4, rfl, hr4, hi4, hf4, hb4⟩
      have R4 := Lib.hid hr4; have I4 := Lib.hid hi4; have B4 := Lib.hid hb4
      have gl := MI.out.lt
      have gl2 : w.heap.size < w2.heap.size := Nat.lt_of_lt_of_le gl B3.out.size
      have M4 := Lib.hid ((MI.out.below B3.out gl).below B4.out gl2)
      have NE := Lib.hid (show ∀ ad : Addr, a4 = some ad → ad.block ≠ w.heap.size from fun ad e => by have := hf4 ad e; omega)
      have hcell := M4.out.cell (i := i) (by rw [DL.out]; omega)
      have hfree := M4.out.free i
      obtain ⟨y, hy⟩ : ∃ y, ds.getD i 0 = y := ⟨_, rfl⟩
      rw [hy] at hcell
      clear hy hr4 hi4 hf4 hb4
      obtain ⟨N, hN⟩ : ∃ N, x + 4294967296 * r = N := ⟨_, rfl⟩
      have q0 : 0 ≤ N / n := Int.ediv_nonneg (by omega) (by omega)
      have q1 : N / n < 4294967296 := Int.ediv_lt_of_lt_mul n0 (by rw [Int.mul_comm]; omega)
      have m1 := Int.emod_lt_of_pos N n0
      have NX := Lib.hid (show val 4294967296 ((ds.set i (N / n)).drop i) * n + N % n = val 4294967296 (za.drop i) by
        rw [drop_set (by rw [DL.out]; omega), val, val_drop 4294967296 za i, EX.out]
        exact limb_step (show r * 4294967296 + x = N by omega) VA.out (quo_rem _ _))
      rw [hN] at I4 ⊢
      clear hN mn
      obtain ⟨Q, hQ⟩ : ∃ Q, N / n = Q := ⟨_, rfl⟩
      rw [hQ] at q0 q1 NX ⊢
      clear hQ
      go_wp2
      go_roundw
      case rel =>
        refine ⟨i, _, a4, l4', c4', z4, N % n, ds.set i Q, rfl, by omega, by omega, rfl, R4.out.setCell _ _ NE.out, I4.out, m1, by rw [List.length_set]; exact DL.out, digs_setB DG.out ⟨q0, q1⟩, M4.out.set i _, NX.out, ?_⟩
        exact (below_next (below_next BE.out B3.out) B4.out).setCell (Nat.le_refl _) _
      case measure => simp [intOf]

theorem divide_is (a : Option Addr) (la ca : Nat) (za : List Int) (m : Int) (b : Option Addr) (lb cb : Nat) (zb : List Int) (n : Int) (w : World)
    (ha : Row .u32 w a la ca za) (ia : Is 4294967296 za m) (hb : Row .u32 w b lb cb zb) (ib : Is 4294967296 zb n) (n0 : 0 < n) (hla : la ≤ 800) :
    Calls Try.prog 121 #[.slice a la ca, .slice b lb cb] w (DivMods w m n) := by
  have l1 : 1 ≤ lb := by
    rcases Nat.eq_zero_or_pos lb with h | h
    · exfalso
      have := is_none_limb ib (by rw [hb.len]; exact h)
      omega
    · exact h
  rcases Nat.lt_or_ge 1 lb with h | h
  · rcases Nat.lt_or_ge la lb with g | g
    · exact divide_less a la ca za m b lb cb zb n w ha ia hb ib h g
    · exact divide_long a la ca za m b lb cb zb n w ha ia hb ib h g hla
  · obtain rfl : lb = 1 := by omega
    exact divide_one a la ca za m b cb zb n w ha ia hb ib (by omega)

theorem part_any (a : Option Addr) (la ca : Nat) (za : List Int) (m : Int) (b : Option Addr) (lb cb : Nat) (zb : List Int) (n : Int) (w : World)
    (ha : Row .u32 w a la ca za) (ia : Is 4294967296 za m) (hb : Row .u32 w b lb cb zb) (ib : Is 4294967296 zb n) (n0 : 0 < n) (hla : la ≤ 800) :
    Calls Try.prog 113 #[.slice a la ca, .slice b lb cb] w (GivesL w la (m / n)) := by
  have D := Lib.hid (divide_is a la ca za m b lb cb zb n w ha ia hb ib n0 hla)
  have L := Lib.hid (show m / n < 4294967296 ^ la by
    have h1 := is_lt ia (p := la) (by rw [ha.len]; exact Nat.le_refl _)
    have := Int.ediv_le_self (b := n) h1.1
    omega)
  clear ha hb ia ib
  go_enter Try.func113, Try.ntmps113
  go_wp2_with fail
  refine D.out.mono ?_
  rintro e w1 ⟨a1, l1, c1, z1, a2, l2, c2, z2, rfl, hr, hi, _, _, hb1⟩
  have HR1 := Lib.hid hr; have HI1 := Lib.hid hi; have HB1 := Lib.hid hb1
  have L1 := Lib.hid (show l1 ≤ la by rw [← hr.len]; exact hi.len_le (by omega) L.out)
  clear hr hi hb1
  go_wp2
  go_ret
  exact ⟨_, _, _, _, rfl, HR1.out, HI1.out, L1.out, HB1.out⟩
end Go.Proofs.Ytnlgophgglgneaa
namespace Go.Proofs.Ytnlgophgglgneaa
open Go.RowKit

theorem ecommon_any (a b : Int) (w : World) (ha : 0 ≤ a) (ha' : a ≤ 9223372036854775807) (hb : 0 ≤ b) (hb' : b ≤ 9223372036854775807) :
    Calls Try.prog 95 #[.int .i64 a, .int .i64 b] w fun e w' => e = .returned (.int .i64 (gc a b)) ∧ ∃ n, w' = w.drewN n := by
  go_enter Try.func95, Try.ntmps95
  go_wp2
  go_step3
  go_wp2
  go_step3
  go_wp2
  go_loopw [0, 1] (fun u v wr => ∃ p q : Int, ∃ n : Nat, 0 ≤ p ∧ p ≤ 9223372036854775807 ∧ 0 ≤ q ∧ q ≤ 9223372036854775807 ∧ gc p q = gc a b ∧ u = .int .i64 p ∧ v = .int .i64 q ∧ wr = w.drewN n) (fun _ v _ => (intOf v).toNat)
  case atStart => exact ⟨a, b, 0, ha, ha', hb, hb', rfl, rfl, rfl, rfl⟩
  case round =>
    obtain ⟨p, q, n, hp, hp', hq, hq', hg, rfl, rfl, rfl⟩ := hrel
    have HG := Lib.hid hg
    clear hg
    by_cases h : q = 0
    · subst h
      go_wp2
      try rw [Exit.noGoto_ret]
      go_ret
      exact ⟨ret_one (by rw [← HG.out, gc_zero hp]), n, rfl⟩
    · have h0 : 0 ≤ p % q := Int.emod_nonneg _ h
      have h1 : p % q < q := Int.emod_lt_of_pos _ (by omega)
      go_wp2
      go_region
      all_goals
        go_wp2
        go_roundw
        case rel => exact ⟨q, p % q, n + 1, hq, hq', h0, by omega, by rw [gc_step hp hq]; exact HG.out, rfl, rfl, rfl⟩
        case measure => simp [intOf]; omega

theorem egcd_any (a b : Int) (w : World) (ha : 0 ≤ a) (ha' : a ≤ 9223372036854775807) (hb : 0 ≤ b) (hb' : b ≤ 9223372036854775807) :
    Calls Try.prog 119 #[.int .i64 a, .int .i64 b] w fun e w' => e = .returned (.tuple #[.int .i64 (gc a b), .int .i64 0]) ∧ Below w.heap.size w w' := by
  go_enter Try.func119, Try.ntmps119
  go_wp2_with fail
  refine (ecommon_any a b w ha ha' hb hb').mono ?_
  rintro e w' ⟨rfl, n, rfl⟩
  go_wp2
  go_ret2
  exact ⟨rfl, below_drewN w _⟩

theorem common_any (a : Option Addr) (la ca : Nat) (za : List Int) (m : Int) (b : Option Addr) (lb cb : Nat) (zb : List Int) (n : Int) (w : World)
    (ha : Row .u32 w a la ca za) (ia : Is 4294967296 za m) (hb : Row .u32 w b lb cb zb) (ib : Is 4294967296 zb n) (hla : la ≤ 800) (hlb : lb ≤ 800) :
    Calls Try.prog 112 #[.slice a la ca, .slice b lb cb] w (GivesL w 800 (gc m n)) := by
  have HA := Lib.hid ha; have IA := Lib.hid ia; have HB := Lib.hid hb; have IB := Lib.hid ib
  clear ha ia hb ib
  go_enter Try.func112, Try.ntmps112
  go_wp2
  go_step3
  go_wp2
  go_step3
  go_wp2
  go_loopg [0, 1] n.toNat (fun k u v wr => ∃ (a1 : Option Addr) (l1 c1 : Nat) (z1 : List Int) (p : Int) (a2 : Option Addr) (l2 c2 : Nat) (z2 : List Int) (q : Int), u = .slice a1 l1 c1 ∧ v = .slice a2 l2 c2 ∧ Row .u32 wr a1 l1 c1 z1 ∧ Is 4294967296 z1 p ∧ Row .u32 wr a2 l2 c2 z2 ∧ Is 4294967296 z2 q ∧ l1 ≤ 800 ∧ l2 ≤ 800 ∧ q.toNat = k ∧ gc p q = gc m n ∧ Below w.heap.size w wr)
  case atStart => exact ⟨_, _, _, za, m, _, _, _, zb, n, rfl, rfl, HA.out, IA.out, HB.out, IB.out, hla, hlb, rfl, rfl, Below.refl _ _⟩
  case round =>
    obtain ⟨a1, l1, c1, z1, p, a2, l2, c2, z2, q, rfl, rfl, hr1, hi1, hr2, hi2, hl1, hl2, hk, hg, hbel⟩ := hrel
    have p0 := hi1.nonneg (by omega)
    have q0 := hi2.nonneg (by omega)
    have ⟨d1, d2⟩ := hr2.cap_le
    have ⟨d3, d4⟩ := hr1.cap_le
    have R1 := Lib.hid hr1; have I1 := Lib.hid hi1; have R2 := Lib.hid hr2; have I2 := Lib.hid hi2; have G := Lib.hid hg; have BE := Lib.hid hbel; have KK := Lib.hid hk
    have LL2 := Lib.hid hr2.len
    clear hr1 hi1 hr2 hi2 hg hbel hk
    by_cases h : l2 = 0
    · obtain rfl := is_none_limb I2.out (by rw [LL2.out]; exact h)
      have bl : decide (0 < l2) = false := by simp; omega
      have bl' : decide ((0 : Int) < (l2 : Int)) = false := by simp; omega
      clear h
      go_wp2
      try rw [Exit.noGoto_ret]
      go_ret
      exact ⟨_, _, _, _, rfl, R1.out, by rw [← G.out, gc_zero p0]; exact I1.out, hl1, BE.out⟩
    · have qp : 0 < q := by
        rcases Int.lt_or_eq_of_le q0 with g | g
        · exact g
        · exfalso
          have := top_zero (by omega) I2.out.1 I2.out.2.1 (I2.out.2.2.trans g.symm)
          have h2 := LL2.out
          rw [this] at h2; simp at h2; omega
      have bl : decide (0 < l2) = true := by simp; omega
      have bl' : decide ((0 : Int) < (l2 : Int)) = true := by simp; omega
      have M1 := Int.emod_lt_of_pos p qp
      have M0 := Int.emod_nonneg p (show q ≠ 0 by omega)
      have GS := Lib.hid (show gc q (p % q) = gc m n by rw [gc_step p0 q0]; exact G.out)
      have MM := Lib.hid (show p % q < 4294967296 ^ 800 by
        have := (is_lt I2.out (p := 800) (by rw [LL2.out]; exact hl2)).2
        omega)
      go_wp2_with fail
      refine (short_any a1 l1 c1 z1 p wr R1.out I1.out).mono ?_
      rintro e w1 ⟨s1, rfl, hs1, rfl⟩
      have S1 := Lib.hid hs1
      clear hs1
      cases s1
      · go_wp2_with fail
        refine (divide_is a1 l1 c1 z1 p a2 l2 c2 z2 q wr R1.out I1.out R2.out I2.out qp hl1).mono ?_
        rintro e w2 ⟨a3, l3, c3, z3, a4, l4, c4, z4, rfl, _, _, hr4, hi4, hb4⟩
        have R4 := Lib.hid hr4; have I4 := Lib.hid hi4; have B4 := Lib.hid hb4
        have L4 := Lib.hid (show l4 ≤ 800 by rw [← hr4.len]; exact hi4.len_le (by omega) MM.out)
        clear hr4 hi4 hb4
        go_wp2
        go_roundg (p % q).toNat
        case rel => exact ⟨_, _, _, z2, q, _, _, _, z4, p % q, rfl, rfl, R2.out.below B4.out, I2.out, R4.out, I4.out, hl2, L4.out, rfl, GS.out, below_next BE.out B4.out⟩
        case measure => have := KK.out; omega
      · go_wp2_with fail
        refine (short_any a2 l2 c2 z2 q wr R2.out I2.out).mono ?_
        rintro e w1 ⟨s2, rfl, hs2, rfl⟩
        have S2 := Lib.hid hs2
        clear hs2
        cases s2
        · go_wp2_with fail
          refine (divide_is a1 l1 c1 z1 p a2 l2 c2 z2 q wr R1.out I1.out R2.out I2.out qp hl1).mono ?_
          rintro e w2 ⟨a3, l3, c3, z3, a4, l4, c4, z4, rfl, _, _, hr4, hi4, hb4⟩
          have R4 := Lib.hid hr4; have I4 := Lib.hid hi4; have B4 := Lib.hid hb4
          have L4 := Lib.hid (show l4 ≤ 800 by rw [← hr4.len]; exact hi4.len_le (by omega) MM.out)
          clear hr4 hi4 hb4
          go_wp2
          go_roundg (p % q).toNat
          case rel => exact ⟨_, _, _, z2, q, _, _, _, z4, p % q, rfl, rfl, R2.out.below B4.out, I2.out, R4.out, I4.out, hl2, L4.out, rfl, GS.out, below_next BE.out B4.out⟩
          case measure => have := KK.out; omega
        · have ⟨t1, t2⟩ := S1.out (by trivial)
          have ⟨t3, t4⟩ := S2.out (by trivial)
          have g0 : 1 ≤ gc p q := gc_pos qp
          have g1 : gc p q ≤ q := gc_le qp
          obtain ⟨g, hg⟩ : ∃ g, gc p q = g := ⟨_, rfl⟩
          have EG := Lib.hid (egcd_any p q wr p0 t2 q0 t4)
          rw [hg] at EG g0 g1 G
          clear hg S1 S2
          go_wp2_with fail
          refine (number_any a1 l1 c1 z1 p wr R1.out I1.out t1 t2).mono ?_
          rintro e w1 ⟨rfl, rfl⟩
          go_wp2_with fail
          refine (number_any a2 l2 c2 z2 q wr R2.out I2.out t3 t4).mono ?_
          rintro e w1 ⟨rfl, rfl⟩
          go_wp2_with fail
          refine EG.out.mono ?_
          rintro e w1 ⟨rfl, hb1⟩
          have B1 := Lib.hid hb1
          clear hb1
          go_wp2_with fail
          refine (nOf_is g w1 (by omega) (by omega)).mono ?_
          rintro e w2 ⟨a5, l5, c5, z5, rfl, hr5, hi5, hl5, hb5⟩
          have R5 := Lib.hid hr5; have I5 := Lib.hid hi5; have B5 := Lib.hid hb5
          clear hr5 hi5 hb5
          go_wp2
          try rw [Exit.noGoto_ret]
          go_ret
          exact ⟨_, _, _, _, rfl, R5.out, by rw [← G.out]; exact I5.out, by omega, below_next (below_next BE.out B1.out) B5.out⟩
end Go.Proofs.Ytnlgophgglgneaa
namespace Go.Proofs.Ytnlgophgglgneaa
open Go.RowKit

/-- a row of numbers is as it was where cells that hold slices are written -/
theorem Row.box {k : IntKind} {W : World} {a : Option Addr} {len cap : Nat} {zs : List Int} {g o1 o2 : Nat} {x1 x2 : Option Addr} {l1 c1 l2 c2 : Nat} {T : TypeId} (h : Row k W a len cap zs)
    (hg : W.heap[g]? = some (.cells #[.slice x1 l1 c1, .slice x2 l2 c2] T (0, 0))) (u v : Value) : Row k ((W.setCell ⟨g, o1, none⟩ u).setCell ⟨g, o2, none⟩ v) a len cap zs := by
  refine ⟨h.1, h.2.1, h.2.2.1, h.2.2.2.1, fun i hi => ?_⟩
  obtain ⟨b, off, ha, hc⟩ := h.2.2.2.2 i hi
  refine ⟨b, off, ha, ?_⟩
  have hb : b ≠ g := by
    rintro rfl
    rw [block_cell hg] at hc
    match off + i, hc with
    | 0, hc => simp at hc
    | 1, hc => simp at hc
    | j + 2, hc => simp at hc
  have e : ((W.setCell ⟨g, o1, none⟩ u).setCell ⟨g, o2, none⟩ v).heap[b]? = W.heap[b]? := by
    rw [Below.heap_setCell _ _ _ _ (by simpa using hb), Below.heap_setCell _ _ _ _ (by simpa using hb)]
  exact (World.cell?_of_block (w := W) e).trans hc
/-- a call that answers a ratio, wherever its rows lie -/
def GivesQ (w : World) (L : Nat) (n d : Int) (e : Ending) (w' : World) : Prop :=
  ∃ v, e = .returned v ∧ Rat w' 0 L v n d ∧ Below w.heap.size w w'
theorem fresh0 (a : Option Addr) : Fresh 0 a := fun _ _ => Nat.zero_le _
theorem GivesR.q {w : World} {L : Nat} {n d : Int} {e : Ending} {w' : World} (h : GivesR w L n d e w') : GivesQ w L n d e w' := by
  obtain ⟨v, h1, h2, h3⟩ := h
  exact ⟨v, h1, h2.mono (Nat.zero_le _) (Nat.le_refl _), h3⟩

theorem whole_any (n : Int) (w : World) (n0 : 0 ≤ n) (n1 : n ≤ 18446744073709551615) : Calls Try.prog 61 #[.int .u64 n] w (GivesQ w 2 n 1) := by
  have B0 := Lib.hid (below_box w (.cells #[.slice none 0 0, .slice none 0 0] 58))
  have H0 := Lib.hid (show (w.alloc (.cells #[.slice none 0 0, .slice none 0 0] 58)).heap[w.heap.size]? = some (.cells #[.slice none 0 0, .slice none 0 0] 58 (0, 0)) from heap_alloc_new _ _)
  go_enter Try.func61, Try.ntmps61
  go_wp2_with fail
  obtain ⟨W0, hW0⟩ : ∃ W0, w.alloc (Obj.cells #[Value.slice none 0 0, Value.slice none 0 0] 58) = W0 := ⟨_, rfl⟩
  rw [hW0] at B0 H0 ⊢
  clear hW0
  refine (nOf_is n W0 n0 n1).mono ?_
  rintro e w1 ⟨a1, l1, c1, z1, rfl, hr, hi, hl1, hb⟩
  have R1 := Lib.hid hr; have I1 := Lib.hid hi; have B1 := Lib.hid hb
  clear hr hi hb
  go_wp2_with fail
  refine (nOf_is 1 w1 (by omega) (by omega)).mono ?_
  rintro e w2 ⟨a2, l2, c2, z2, rfl, hr, hi, hl2, hb⟩
  have R2 := Lib.hid hr; have I2 := Lib.hid hi; have B2 := Lib.hid hb
  clear hr hi hb
  have H2 := Lib.hid (((B1.out.block _ (lt_of_block H0.out)).trans H0.out))
  have H3 := Lib.hid (((B2.out.block _ (lt_of_block H2.out)).trans H2.out))
  have s0 : w2.cell? ⟨w.heap.size, 0, none⟩ = some (.slice none 0 0) := block_cell H3.out
  have s1 : w2.cell? ⟨w.heap.size, 1, none⟩ = some (.slice none 0 0) := block_cell H3.out
  have s2 : w2.frozen? ⟨w.heap.size, 0, none⟩ = false := block_free H3.out
  have s3 : w2.frozen? ⟨w.heap.size, 1, none⟩ = false := block_free H3.out
  go_wp2
  refine bodyPost_ret (v := .agg #[.slice a1 l1 c1, .slice a2 l2 c2]) (by simp [results, Try.results61, go_sem, s0, s1]) rfl ⟨_, rfl, ⟨a1, l1, c1, z1, a2, l2, c2, z2, rfl, (R1.out.below B2.out).box H3.out _ _, I1.out, R2.out.box H3.out _ _, I2.out, hl1, hl2, fresh0 _, fresh0 _⟩, ?_⟩
  exact ((below_next (below_next B0.out B1.out) B2.out).setCell (Nat.le_refl _) _).setCell (Nat.le_refl _) _

theorem qof_any (E P : Int) (w : World) (e0 : 0 ≤ E) (e1 : E < 4294967296) (p0 : 1 ≤ P) (p1 : P < 4294967296) :
    Calls Try.prog 80 #[.agg #[.int .i64 E, .int .i64 P]] w (GivesQ w 1 E P) := by
  have E9 : E ≤ 18446744073709551615 := by omega
  have P9 : P ≤ 18446744073709551615 := by omega
  have p00 : 0 ≤ P := by omega
  have x1 : IntKind.u64.wrap E = E := IntWalk.u64_in _ (by omega)
  have x2 : IntKind.u64.wrap P = P := IntWalk.u64_in _ (by omega)
  have bE : decide (E < 0) = false := by simp; omega
  have bP : decide (P < 1) = false := by simp; omega
  go_enter Try.func80, Try.ntmps80
  go_wp2
  obtain ⟨W0, hW0⟩ : ∃ W0, (w.alloc (Obj.cells #[Value.int .i64 E, Value.int .i64 P] 32)).alloc (Obj.cells #[Value.slice none 0 0, Value.slice none 0 0] 58) = W0 := ⟨_, rfl⟩
  have BX := two_boxes w #[Value.int .i64 E, Value.int .i64 P] #[Value.slice none 0 0, Value.slice none 0 0] 32 58
  have H0 := Lib.hid (show W0.drew.heap[w.heap.size + 1]? = some (.cells #[.slice none 0 0, .slice none 0 0] 58 (0, 0)) by rw [← hW0, ← size_alloc w (.cells #[Value.int .i64 E, Value.int .i64 P] 32)]; exact heap_alloc_new _ _)
  rw [hW0] at BX
  have k1 : W0.drew.cell? ⟨w.heap.size, 0, none⟩ = some (.int .i64 E) := BX.1 0
  have k2 : W0.drew.cell? ⟨w.heap.size, 1, none⟩ = some (.int .i64 P) := BX.1 1
  have B0 := Lib.hid (show Below w.heap.size w W0.drew from BX.2.2.2.1.drew)
  have SZ : W0.drew.heap.size = w.heap.size + 2 := BX.2.2.2.2
  have Z0 : w.heap.size < W0.drew.heap.size := by omega
  have Y0 := Lib.hid (show w.heap.size + 1 < W0.drew.heap.size by omega)
  have K1 := Lib.hid k1; have K2 := Lib.hid k2
  clear BX SZ
  rw [hW0]
  clear hW0
  go_region_held3 (fun w' => w'.cell? ⟨w.heap.size, 0, none⟩ = some (.int .i64 E) ∧ w'.cell? ⟨w.heap.size, 1, none⟩ = some (.int .i64 P))
    (first | exact ⟨K1.out, K2.out⟩ | exact pair_kept2 (pair_kept HB2.out (pair_kept HB1.out ⟨K1.out, K2.out⟩ Z0) Z1) | exact pair_kept HB2.out (pair_kept HB1.out ⟨K1.out, K2.out⟩ Z0) Z1 | exact pair_kept HB1.out ⟨K1.out, K2.out⟩ Z0)
    (first
      | (go_at_call 79; ((with_reducible refine (nOf_is E W0.drew e0 E9).mono ?_)); rintro e w1 ⟨a1, l1, c1, z1, rfl, hr, hi, _, hb⟩; have HR1 := Lib.hid hr; have HI1 := Lib.hid hi; have HB1 := Lib.hid hb; have Z1 := Nat.lt_of_lt_of_le Z0 hb.size; clear hr hi hb)
      | (go_at_call 79; ((with_reducible refine (nOf_is P w1 p00 P9).mono ?_)); rintro e w2 ⟨a2, l2, c2, z2, rfl, hr, hi, _, hb⟩; have HR2 := Lib.hid hr; have HI2 := Lib.hid hi; have HB2 := Lib.hid hb; have BB := Lib.hid (below_next HB1.out hb); have H3 := Lib.hid ((BB.out.block _ Y0.out).trans H0.out); have s0 : w2.cell? ⟨w.heap.size + 1, 0, none⟩ = some (.slice none 0 0) := block_cell H3.out; have s1 : w2.cell? ⟨w.heap.size + 1, 1, none⟩ = some (.slice none 0 0) := block_cell H3.out; have s2 : w2.frozen? ⟨w.heap.size + 1, 0, none⟩ = false := block_free H3.out; have s3 : w2.frozen? ⟨w.heap.size + 1, 1, none⟩ = false := block_free H3.out; clear hr hi hb))
  all_goals
    go_wp2
    refine bodyPost_ret (v := .agg #[.slice a1 l1 c1, .slice a2 l2 c2]) (by simp [results, Try.results80, go_sem, s0, s1]) rfl ⟨_, rfl, ⟨a1, l1, c1, z1, a2, l2, c2, z2, rfl, (HR1.out.below HB2.out).box H3.out _ _, HI1.out, HR2.out.box H3.out _ _, HI2.out, ?_, ?_, fresh0 _, fresh0 _⟩, ?_⟩
    · rw [← HR1.out.len]; exact one_limb HI1.out e1
    · rw [← HR2.out.len]; exact one_limb HI2.out p1
    · exact ((below_next B0.out BB.out).setCell (show w.heap.size ≤ w.heap.size + 1 by omega) _).setCell (show w.heap.size ≤ w.heap.size + 1 by omega) _

theorem qcheck_any (a1 : Option Addr) (l1 c1 : Nat) (z1 : List Int) (a2 : Option Addr) (l2 c2 : Nat) (z2 : List Int) (w : World) (h1 : Row .u32 w a1 l1 c1 z1) (h2 : Row .u32 w a2 l2 c2 z2) (r : Bool) (hr : r = true ↔ (Top z1 ∧ Top z2 ∧ z2 ≠ [])) :
    Calls Try.prog 101 #[.agg #[.slice a1 l1 c1, .slice a2 l2 c2]] w fun e w' => e = .returned (.bool r) ∧ Below w.heap.size w w' := by
  obtain ⟨r1, hr1⟩ : ∃ r : Bool, r = true ↔ Top z1 := by
    by_cases h : Top z1
    · exact ⟨true, ⟨fun _ => h, fun _ => rfl⟩⟩
    · exact ⟨false, ⟨fun e => (by cases e), fun e => absurd e h⟩⟩
  obtain ⟨r2, hr2⟩ : ∃ r : Bool, r = true ↔ Top z2 := by
    by_cases h : Top z2
    · exact ⟨true, ⟨fun _ => h, fun _ => rfl⟩⟩
    · exact ⟨false, ⟨fun e => (by cases e), fun e => absurd e h⟩⟩
  have ⟨c9, c8⟩ := h2.cap_le
  have E := Lib.hid (show r = (r1 && (r2 && decide (0 < l2))) by
    rw [Bool.eq_iff_iff, hr, Bool.and_eq_true, Bool.and_eq_true, hr1, hr2, decide_eq_true_eq, ← h2.len, List.length_pos_iff])
  have H1 := Lib.hid h1; have H2 := Lib.hid h2; have HR1 := Lib.hid hr1; have HR2 := Lib.hid hr2
  clear h1 h2 hr1 hr2 hr
  have B0 := Lib.hid (below_box w (.cells #[.slice a1 l1 c1, .slice a2 l2 c2] 58))
  go_enter Try.func101, Try.ntmps101
  go_wp2_with fail
  refine (nCheck_any a1 l1 c1 z1 _ r1 (H1.out.below B0.out) HR1.out).mono ?_
  rintro e w' ⟨rfl, rfl⟩
  cases r1
  · go_wp2
    go_ret
    exact ⟨by rw [E.out]; rfl, B0.out⟩
  · go_wp2_with fail
    refine (nCheck_any a2 l2 c2 z2 _ r2 (H2.out.below B0.out) HR2.out).mono ?_
    rintro e w' ⟨rfl, rfl⟩
    cases r2
    · go_wp2
      go_ret
      exact ⟨by rw [E.out]; rfl, B0.out⟩
    · by_cases h0 : 0 < l2
      · have b0 : decide (0 < l2) = true := by simp; omega
        rw [b0] at E
        go_wp2
        go_ret
        exact ⟨by rw [E.out]; rfl, B0.out⟩
      · have b0 : decide (0 < l2) = false := by simp; omega
        rw [b0] at E
        go_wp2
        go_ret
        exact ⟨by rw [E.out]; rfl, B0.out⟩
theorem is_some {zs : List Int} {n : Int} (h : Is 4294967296 zs n) (hn : 0 < n) : zs ≠ [] := by
  intro e
  subst e
  have := h.2.2
  simp [val] at this
  omega
theorem qcheck_yes (v : Value) (n d : Int) (L b : Nat) (w : World) (h : Rat w b L v n d) (hd : 0 < d) : Calls Try.prog 101 #[v] w fun e w' => e = .returned (.bool true) ∧ Below w.heap.size w w' := by
  obtain ⟨a1, l1, c1, z1, a2, l2, c2, z2, rfl, r1, i1, r2, i2, _, _, _, _⟩ := h
  exact qcheck_any a1 l1 c1 z1 a2 l2 c2 z2 w r1 r2 true ⟨fun _ => ⟨i1.2.1, i2.2.1, is_some i2 hd⟩, fun _ => rfl⟩
end Go.Proofs.Ytnlgophgglgneaa
namespace Go.Proofs.Ytnlgophgglgneaa
open Go.RowKit

theorem is_up {n g : Int} {z : List Int} {l L : Nat} {k : IntKind} {W : World} {a : Option Addr} {c : Nat} (hr : Row k W a l c z) (h : Is 4294967296 z n) (hn : n ≤ g) (hg : g < 4294967296 ^ L) : l ≤ L := by
  rw [← hr.len]; exact h.len_le (by omega) (by omega)

theorem least_any (v : Value) (n d : Int) (b L : Nat) (w : World) (h : Rat w b L v n d) (hd : 0 < d) (hL : L ≤ 800) :
    Calls Try.prog 102 #[v] w (GivesQ w L (n / gc n d) (d / gc n d)) := by
  obtain ⟨a1, l1, c1, z1, a2, l2, c2, z2, rfl, r1, i1, r2, i2, hl1, hl2, _, _⟩ := h
  have R1 := Lib.hid r1; have R2 := Lib.hid r2; have I1 := Lib.hid i1; have I2 := Lib.hid i2
  have g0 : 0 < gc n d := by have := gc_pos (a := n) hd; omega
  clear r1 r2 i1 i2
  go_enter Try.func102, Try.ntmps102
  go_wp2_with fail
  obtain ⟨W0, hW0⟩ : ∃ W0, (w.alloc (Obj.cells #[Value.slice a1 l1 c1, Value.slice a2 l2 c2] 58)).alloc (Obj.cells #[Value.slice none 0 0, Value.slice none 0 0] 58) = W0 := ⟨_, rfl⟩
  have BX := two_boxes w #[Value.slice a1 l1 c1, Value.slice a2 l2 c2] #[Value.slice none 0 0, Value.slice none 0 0] 58 58
  have H0 := Lib.hid (show W0.heap[w.heap.size + 1]? = some (.cells #[.slice none 0 0, .slice none 0 0] 58 (0, 0)) by rw [← hW0, ← size_alloc w (.cells #[Value.slice a1 l1 c1, Value.slice a2 l2 c2] 58)]; exact heap_alloc_new _ _)
  rw [hW0] at BX ⊢
  clear hW0
  have B0 := Lib.hid (show Below w.heap.size w W0 from BX.2.2.2.1)
  have K0 := Lib.hid (show W0.cell? ⟨w.heap.size, 0, none⟩ = some (.slice a1 l1 c1) ∧ W0.cell? ⟨w.heap.size, 1, none⟩ = some (.slice a2 l2 c2) from ⟨BX.1 0, BX.1 1⟩)
  have Z0 := Lib.hid (show w.heap.size + 1 < W0.heap.size by have := BX.2.2.2.2; omega)
  clear BX
  refine (qcheck_yes _ n d L 0 W0 ⟨a1, l1, c1, z1, a2, l2, c2, z2, rfl, R1.out.below B0.out, I1.out, R2.out.below B0.out, I2.out, hl1, hl2, fresh0 _, fresh0 _⟩ hd).mono ?_
  rintro e w1 ⟨rfl, hb1⟩
  have B1 := Lib.hid (below_next B0.out hb1)
  have KK1 := Lib.hid (pair_kept hb1 K0.out (by have := Z0.out; omega))
  have H1 := Lib.hid ((hb1.block _ Z0.out).trans H0.out)
  have Z1 := Lib.hid (Nat.lt_of_lt_of_le Z0.out hb1.size)
  have t1 := KK1.out.1
  have t2 := KK1.out.2
  clear hb1 K0 H0 Z0 B0
  go_wp2_with fail
  clear t1 t2
  refine (common_any a1 l1 c1 z1 n a2 l2 c2 z2 d w1 (R1.out.below B1.out) I1.out (R2.out.below B1.out) I2.out (by omega) (by omega)).mono ?_
  rintro e w2 ⟨a3, l3, c3, z3, rfl, hr3, hi3, _, hb2⟩
  have R3 := Lib.hid hr3; have I3 := Lib.hid hi3
  have B2 := Lib.hid (below_next B1.out hb2).drew
  have KK2 := Lib.hid (pair_kept hb2 KK1.out (by have := Z1.out; omega))
  have H2 := Lib.hid (show w2.drew.heap[w.heap.size + 1]? = _ from (hb2.block _ Z1.out).trans H1.out)
  have Z2 := Lib.hid (show w.heap.size + 1 < w2.drew.heap.size from Nat.lt_of_lt_of_le Z1.out hb2.size)
  have zz : w.heap.size < w2.drew.heap.size := Nat.lt_trans (Nat.lt_succ_self _) Z2.out
  have K1 := Lib.hid (show w2.drew.cell? ⟨w.heap.size, 0, none⟩ = some (.slice a1 l1 c1) from KK2.out.1)
  have K2 := Lib.hid (show w2.drew.cell? ⟨w.heap.size, 1, none⟩ = some (.slice a2 l2 c2) from KK2.out.2)
  have k1 := K1.out
  have k2 := K2.out
  have o1 : l1 ≤ 800 := by omega
  have o2 : l2 ≤ 800 := by omega
  clear hr3 hi3 hb2 KK1 KK2 H1 Z1 B1
  go_wp2
  go_region_held3 (fun w' => w'.cell? ⟨w.heap.size, 0, none⟩ = some (.slice a1 l1 c1) ∧ w'.cell? ⟨w.heap.size, 1, none⟩ = some (.slice a2 l2 c2))
    (first | exact ⟨K1.out, K2.out⟩ | exact pair_kept2 (pair_kept HB5.out (pair_kept HB4.out ⟨K1.out, K2.out⟩ zz) Z4) | exact pair_kept HB5.out (pair_kept HB4.out ⟨K1.out, K2.out⟩ zz) Z4 | exact pair_kept HB4.out ⟨K1.out, K2.out⟩ zz)
    (first
      | (go_at_call 113; ((with_reducible refine (part_any a1 l1 c1 z1 n a3 l3 c3 z3 (gc n d) w2.drew (R1.out.below B2.out) I1.out R3.out.drew I3.out g0 o1).mono ?_)); rintro e w4 ⟨x4, m4, q4, y4, rfl, hr, hi, hl4, hb⟩; have HR4 := Lib.hid hr; have HI4 := Lib.hid hi; have HB4 := Lib.hid hb; have Z4 := Nat.lt_of_lt_of_le zz hb.size; clear hr hi hb)
      | (go_at_call 113; ((with_reducible refine (part_any a2 l2 c2 z2 d a3 l3 c3 z3 (gc n d) w4 ((R2.out.below B2.out).below HB4.out) I2.out (R3.out.drew.below HB4.out) I3.out g0 o2).mono ?_)); rintro e w5 ⟨x5, m5, q5, y5, rfl, hr, hi, hl5, hb⟩; have HR5 := Lib.hid hr; have HI5 := Lib.hid hi; have HB5 := Lib.hid hb; have BB := Lib.hid (below_next HB4.out hb); have H5 := Lib.hid ((BB.out.block _ Z2.out).trans H2.out); have s0 : w5.cell? ⟨w.heap.size + 1, 0, none⟩ = some (.slice none 0 0) := block_cell H5.out; have s1 : w5.cell? ⟨w.heap.size + 1, 1, none⟩ = some (.slice none 0 0) := block_cell H5.out; have s2 : w5.frozen? ⟨w.heap.size + 1, 0, none⟩ = false := block_free H5.out; have s3 : w5.frozen? ⟨w.heap.size + 1, 1, none⟩ = false := block_free H5.out; clear hr hi hb))
  all_goals
    go_wp2
    refine bodyPost_ret (v := .agg #[.slice x4 m4 q4, .slice x5 m5 q5]) (by simp [results, Try.results102, go_sem, s0, s1]) rfl ⟨_, rfl, ⟨x4, m4, q4, y4, x5, m5, q5, y5, rfl, (HR4.out.below HB5.out).box H5.out _ _, HI4.out, HR5.out.box H5.out _ _, HI5.out, by omega, by omega, fresh0 _, fresh0 _⟩, ?_⟩
    exact ((below_next B2.out BB.out).setCell (show w.heap.size ≤ w.heap.size + 1 by omega) _).setCell (show w.heap.size ≤ w.heap.size + 1 by omega) _
end Go.Proofs.Ytnlgophgglgneaa
namespace Go.Proofs.Ytnlgophgglgneaa
open Go.RowKit

def Levels (w : World) (L : Nat) (x y g : Int) (e : Ending) (w' : World) : Prop :=
  ∃ a1 l1 c1 z1 a2 l2 c2 z2 a3 l3 c3 z3, e = .returned (.tuple #[.slice a1 l1 c1, .slice a2 l2 c2, .slice a3 l3 c3]) ∧ Row .u32 w' a1 l1 c1 z1 ∧ Is 4294967296 z1 x ∧ Row .u32 w' a2 l2 c2 z2 ∧ Is 4294967296 z2 y ∧ Row .u32 w' a3 l3 c3 z3 ∧ Is 4294967296 z3 g ∧ l1 ≤ L ∧ l2 ≤ L ∧ l3 ≤ 800 ∧ Below w.heap.size w w'

theorem level_any (v u : Value) (n1 d1 n2 d2 : Int) (b1 b2 L1 L2 : Nat) (w : World) (h1 : Rat w b1 L1 v n1 d1) (h2 : Rat w b2 L2 u n2 d2) (p2 : 0 < d2) (hL1 : L1 ≤ 800) (hL2 : L2 ≤ 800) :
    Calls Try.prog 103 #[v, u] w (Levels w (L1 + L2) (n1 * (d2 / gc d1 d2)) (n2 * (d1 / gc d1 d2)) (gc d1 d2)) := by
  obtain ⟨a1, l1, c1, z1, a2, l2, c2, z2, rfl, r1, i1, r2, i2, hl1, hl2, _, _⟩ := h1
  obtain ⟨a3, l3, c3, z3, a4, l4, c4, z4, rfl, r3, i3, r4, i4, hl3, hl4, _, _⟩ := h2
  have R1 := Lib.hid r1; have R2 := Lib.hid r2; have R3 := Lib.hid r3; have R4 := Lib.hid r4
  have I1 := Lib.hid i1; have I2 := Lib.hid i2; have I3 := Lib.hid i3; have I4 := Lib.hid i4
  have g0 : 0 < gc d1 d2 := by have := gc_pos (a := d1) p2; omega
  obtain ⟨g, hg⟩ : ∃ g, gc d1 d2 = g := ⟨_, rfl⟩
  rw [hg] at g0 ⊢
  have HGG := Lib.hid hg
  clear r1 r2 r3 r4 i1 i2 i3 i4 hg
  go_enter Try.func103, Try.ntmps103
  go_wp2_with fail
  obtain ⟨W0, hW0⟩ : ∃ W0, (w.alloc (Obj.cells #[Value.slice a1 l1 c1, Value.slice a2 l2 c2] 58)).alloc (Obj.cells #[Value.slice a3 l3 c3, Value.slice a4 l4 c4] 58) = W0 := ⟨_, rfl⟩
  have BX := two_boxes w #[Value.slice a1 l1 c1, Value.slice a2 l2 c2] #[Value.slice a3 l3 c3, Value.slice a4 l4 c4] 58 58
  rw [hW0] at BX ⊢
  clear hW0
  have KA := Lib.hid (show W0.cell? ⟨w.heap.size, 0, none⟩ = some (.slice a1 l1 c1) ∧ W0.cell? ⟨w.heap.size, 1, none⟩ = some (.slice a2 l2 c2) ∧ W0.cell? ⟨w.heap.size + 1, 0, none⟩ = some (.slice a3 l3 c3) ∧ W0.cell? ⟨w.heap.size + 1, 1, none⟩ = some (.slice a4 l4 c4) from ⟨BX.1 0, BX.1 1, BX.2.1 0, BX.2.1 1⟩)
  have BA := Lib.hid (show Below w.heap.size w W0 from BX.2.2.2.1)
  have ZA := Lib.hid (show w.heap.size + 2 ≤ W0.heap.size from Nat.le_of_eq BX.2.2.2.2.symm)
  clear BX
  have o1 : l1 ≤ 800 := by omega
  have o2 : l2 ≤ 800 := by omega
  have o3 : l3 ≤ 800 := by omega
  have o4 : l4 ≤ 800 := by omega
  have o9 : L1 ≤ 1000 := by omega
  have o8 : L2 ≤ 1000 := by omega
  refine (common_any a2 l2 c2 z2 d1 a4 l4 c4 z4 d2 W0 (R2.out.below BA.out) I2.out (R4.out.below BA.out) I4.out o2 o4).mono ?_
  rintro e w0 ⟨a5, l5, c5, z5, rfl, hr, hi, hl5, hb⟩
  rw [HGG.out] at hi
  have R5 := Lib.hid hr; have I5 := Lib.hid hi
  have B0 := Lib.hid (show Below w.heap.size w w0.drew from (below_next BA.out hb).drew)
  have FK := Lib.hid (four_kept hb KA.out ZA.out)
  have Z0 : w.heap.size + 2 ≤ w0.drew.heap.size := Nat.le_trans ZA.out hb.size
  have K1 := Lib.hid (show w0.drew.cell? ⟨w.heap.size, 0, none⟩ = some (.slice a1 l1 c1) from FK.out.1)
  have K2 := Lib.hid (show w0.drew.cell? ⟨w.heap.size, 1, none⟩ = some (.slice a2 l2 c2) from FK.out.2.1)
  have K3 := Lib.hid (show w0.drew.cell? ⟨w.heap.size + 1, 0, none⟩ = some (.slice a3 l3 c3) from FK.out.2.2.1)
  have K4 := Lib.hid (show w0.drew.cell? ⟨w.heap.size + 1, 1, none⟩ = some (.slice a4 l4 c4) from FK.out.2.2.2)
  have k1 := K1.out; have k2 := K2.out; have k3 := K3.out; have k4 := K4.out
  clear hr hi hb KA BA ZA FK
  go_wp2
  go_region_held3 (fun w' => w'.cell? ⟨w.heap.size, 0, none⟩ = some (.slice a1 l1 c1) ∧ w'.cell? ⟨w.heap.size, 1, none⟩ = some (.slice a2 l2 c2) ∧ w'.cell? ⟨w.heap.size + 1, 0, none⟩ = some (.slice a3 l3 c3) ∧ w'.cell? ⟨w.heap.size + 1, 1, none⟩ = some (.slice a4 l4 c4))
    (first | exact ⟨K1.out, K2.out, K3.out, K4.out⟩ | exact four_kept HB4.out (four_kept HB3.out (four_kept HB2.out (four_kept HB1.out ⟨K1.out, K2.out, K3.out, K4.out⟩ Z0) Z1) Z2) Z3 | exact four_kept HB3.out (four_kept HB2.out (four_kept HB1.out ⟨K1.out, K2.out, K3.out, K4.out⟩ Z0) Z1) Z2 | exact four_kept HB2.out (four_kept HB1.out ⟨K1.out, K2.out, K3.out, K4.out⟩ Z0) Z1 | exact four_kept HB1.out ⟨K1.out, K2.out, K3.out, K4.out⟩ Z0)
    (first
      | (go_at_call 113; ((with_reducible refine (part_any a4 l4 c4 z4 d2 a5 l5 c5 z5 g w0.drew (R4.out.below B0.out) I4.out R5.out.drew I5.out g0 o4).mono ?_)); rintro e w1 ⟨x1, m1, q1, y1, rfl, hr, hi, hm1, hb⟩; have HR1 := Lib.hid hr; have HI1 := Lib.hid hi; have HB1 := Lib.hid hb; have Z1 := Nat.le_trans Z0 hb.size; clear hr hi hb)
      | (go_at_call 114; ((with_reducible refine (nMul_is L1 L2 a1 l1 c1 z1 n1 x1 m1 q1 y1 (d2 / g) w1 ((R1.out.below B0.out).below HB1.out) I1.out HR1.out HI1.out o9 o8 hl1 (Nat.le_trans hm1 hl4)).mono ?_)); rintro e w2 ⟨x2, m2, q2, y2, rfl, hr, hi, hm2, hb⟩; have HR2 := Lib.hid hr; have HI2 := Lib.hid hi; have HB2 := Lib.hid hb; have Z2 := Nat.le_trans Z1 hb.size; clear hr hi hb)
      | (go_at_call 113; ((with_reducible refine (part_any a2 l2 c2 z2 d1 a5 l5 c5 z5 g w2 (((R2.out.below B0.out).below HB1.out).below HB2.out) I2.out ((R5.out.drew.below HB1.out).below HB2.out) I5.out g0 o2).mono ?_)); rintro e w3 ⟨x3, m3, q3, y3, rfl, hr, hi, hm3, hb⟩; have HR3 := Lib.hid hr; have HI3 := Lib.hid hi; have HB3 := Lib.hid hb; have Z3 := Nat.le_trans Z2 hb.size; clear hr hi hb)
      | (go_at_call 114; ((with_reducible refine (nMul_is L2 L1 a3 l3 c3 z3 n2 x3 m3 q3 y3 (d1 / g) w3 ((((R3.out.below B0.out).below HB1.out).below HB2.out).below HB3.out) I3.out HR3.out HI3.out o8 o9 hl3 (Nat.le_trans hm3 hl2)).mono ?_)); rintro e w4 ⟨x4, m4, q4, y4, rfl, hr, hi, hm4, hb⟩; have HR4 := Lib.hid hr; have HI4 := Lib.hid hi; have HB4 := Lib.hid hb; clear hr hi hb))
  all_goals
    go_wp2
    go_ret3
    exact ⟨_, _, _, _, _, _, _, _, _, _, _, _, rfl, (HR2.out.below HB3.out).below HB4.out, HI2.out, HR4.out, HI4.out, (((R5.out.drew.below HB1.out).below HB2.out).below HB3.out).below HB4.out, I5.out, hm2, by omega, hl5, below_next (below_next (below_next (below_next B0.out HB1.out) HB2.out) HB3.out) HB4.out⟩

theorem lower_any (a1 : Option Addr) (l1 c1 : Nat) (z1 : List Int) (t : Int) (a2 : Option Addr) (l2 c2 : Nat) (z2 : List Int) (d1 : Int) (a3 : Option Addr) (l3 c3 : Nat) (z3 : List Int) (d2 : Int) (a4 : Option Addr) (l4 c4 : Nat) (z4 : List Int) (g : Int) (L : Nat) (w : World)
    (h1 : Row .u32 w a1 l1 c1 z1) (i1 : Is 4294967296 z1 t) (h2 : Row .u32 w a2 l2 c2 z2) (i2 : Is 4294967296 z2 d1) (h3 : Row .u32 w a3 l3 c3 z3) (i3 : Is 4294967296 z3 d2) (h4 : Row .u32 w a4 l4 c4 z4) (i4 : Is 4294967296 z4 g)
    (g0 : 0 < g) (o1 : l1 ≤ 800) (o2 : l2 ≤ 800) (o3 : l3 ≤ 800) (o4 : l4 ≤ 800) (hL1 : l1 ≤ L) (hL2 : l2 + l3 ≤ L) :
    Calls Try.prog 104 #[.slice a1 l1 c1, .slice a2 l2 c2, .slice a3 l3 c3, .slice a4 l4 c4] w (GivesQ w L (t / gc t g) (d1 / g * (d2 / gc t g))) := by
  have R1 := Lib.hid h1; have R2 := Lib.hid h2; have R3 := Lib.hid h3; have R4 := Lib.hid h4
  have I1 := Lib.hid i1; have I2 := Lib.hid i2; have I3 := Lib.hid i3; have I4 := Lib.hid i4
  have q0 : 0 < gc t g := by have := gc_pos (a := t) g0; omega
  obtain ⟨q, hq⟩ : ∃ q, gc t g = q := ⟨_, rfl⟩
  rw [hq] at q0 ⊢
  have HQQ := Lib.hid hq
  clear h1 h2 h3 h4 i1 i2 i3 i4 hq
  have B0 := Lib.hid (below_box w (.cells #[.slice none 0 0, .slice none 0 0] 58))
  have H0 := Lib.hid (show (w.alloc (.cells #[.slice none 0 0, .slice none 0 0] 58)).heap[w.heap.size]? = some (.cells #[.slice none 0 0, .slice none 0 0] 58 (0, 0)) from heap_alloc_new _ _)
  go_enter Try.func104, Try.ntmps104
  go_wp2_with fail
  obtain ⟨W0, hW0⟩ : ∃ W0, w.alloc (Obj.cells #[Value.slice none 0 0, Value.slice none 0 0] 58) = W0 := ⟨_, rfl⟩
  rw [hW0] at B0 H0 ⊢
  clear hW0
  refine (common_any a1 l1 c1 z1 t a4 l4 c4 z4 g W0 (R1.out.below B0.out) I1.out (R4.out.below B0.out) I4.out o1 o4).mono ?_
  rintro e w1 ⟨a5, l5, c5, z5, rfl, hr, hi, hl5, hb⟩
  rw [HQQ.out] at hi
  have R5 := Lib.hid hr; have I5 := Lib.hid hi; have HB1 := Lib.hid hb
  have BB1 := Lib.hid (below_next B0.out hb)
  clear hr hi hb
  go_wp2_with fail
  refine (part_any a1 l1 c1 z1 t a5 l5 c5 z5 q w1 (R1.out.below BB1.out) I1.out R5.out I5.out q0 o1).mono ?_
  rintro e w2 ⟨a6, l6, c6, z6, rfl, hr, hi, hl6, hb⟩
  have R6 := Lib.hid hr; have I6 := Lib.hid hi; have HB2 := Lib.hid hb
  have BB2 := Lib.hid (below_next BB1.out hb)
  clear hr hi hb
  go_wp2_with fail
  refine (part_any a2 l2 c2 z2 d1 a4 l4 c4 z4 g w2 (R2.out.below BB2.out) I2.out (R4.out.below BB2.out) I4.out g0 o2).mono ?_
  rintro e w3 ⟨a7, l7, c7, z7, rfl, hr, hi, hl7, hb⟩
  have R7 := Lib.hid hr; have I7 := Lib.hid hi; have HB3 := Lib.hid hb
  have BB3 := Lib.hid (below_next BB2.out hb)
  clear hr hi hb
  go_wp2_with fail
  refine (part_any a3 l3 c3 z3 d2 a5 l5 c5 z5 q w3 (R3.out.below BB3.out) I3.out ((R5.out.below HB2.out).below HB3.out) I5.out q0 o3).mono ?_
  rintro e w4 ⟨a8, l8, c8, z8, rfl, hr, hi, hl8, hb⟩
  have R8 := Lib.hid hr; have I8 := Lib.hid hi; have HB4 := Lib.hid hb
  have BB4 := Lib.hid (below_next BB3.out hb)
  clear hr hi hb
  go_wp2_with fail
  refine (nMul_is l2 l3 a7 l7 c7 z7 (d1 / g) a8 l8 c8 z8 (d2 / q) w4 (R7.out.below HB4.out) I7.out R8.out I8.out (by omega) (by omega) hl7 hl8).mono ?_
  rintro e w5 ⟨a9, l9, c9, z9, rfl, hr, hi, hl9, hb⟩
  have R9 := Lib.hid hr; have I9 := Lib.hid hi; have HB5 := Lib.hid hb
  have BB5 := Lib.hid (below_next BB4.out hb)
  clear hr hi hb
  have H5 := Lib.hid (((below_next (below_next (below_next (below_next HB1.out HB2.out) HB3.out) HB4.out) HB5.out).block _ (lt_of_block H0.out)).trans H0.out)
  have s0 : w5.cell? ⟨w.heap.size, 0, none⟩ = some (.slice none 0 0) := block_cell H5.out
  have s1 : w5.cell? ⟨w.heap.size, 1, none⟩ = some (.slice none 0 0) := block_cell H5.out
  have s2 : w5.frozen? ⟨w.heap.size, 0, none⟩ = false := block_free H5.out
  have s3 : w5.frozen? ⟨w.heap.size, 1, none⟩ = false := block_free H5.out
  go_wp2
  refine bodyPost_ret (v := .agg #[.slice a6 l6 c6, .slice a9 l9 c9]) (by simp [results, Try.results104, go_sem, s0, s1]) rfl ⟨_, rfl, ⟨a6, l6, c6, z6, a9, l9, c9, z9, rfl, (((R6.out.below HB3.out).below HB4.out).below HB5.out).box H5.out _ _, I6.out, R9.out.box H5.out _ _, I9.out, by omega, by omega, fresh0 _, fresh0 _⟩, ?_⟩
  exact (BB5.out.setCell (Nat.le_refl _) _).setCell (Nat.le_refl _) _
end Go.Proofs.Ytnlgophgglgneaa
namespace Go.Proofs.Ytnlgophgglgneaa
open Go.RowKit

/-- a slice of ratios that reads as rs, of at most L limbs each -/
def RowR (W : World) (a : Option Addr) (len cap L : Nat) (rs : List (Int × Int)) : Prop :=
  rs.length = len ∧ len ≤ cap ∧ cap ≤ 9223372036854775807 ∧
    ∀ i, i < len → ∃ b off an ln cn zn ad ld cd zd, a = some ⟨b, off, none⟩ ∧ W.cell? ⟨b, off + i * 2, none⟩ = some (.slice an ln cn) ∧ W.cell? ⟨b, off + i * 2 + 1, none⟩ = some (.slice ad ld cd) ∧
      Row .u32 W an ln cn zn ∧ Is 4294967296 zn (rs.getD i (0, 1)).1 ∧ Row .u32 W ad ld cd zd ∧ Is 4294967296 zd (rs.getD i (0, 1)).2 ∧ ln ≤ L ∧ ld ≤ L
theorem RowR.below {W W' : World} {a : Option Addr} {len cap L : Nat} {rs : List (Int × Int)} (h : RowR W a len cap L rs) (hb : Below W.heap.size W W') : RowR W' a len cap L rs := by
  refine ⟨h.1, h.2.1, h.2.2.1, fun i hi => ?_⟩
  obtain ⟨b, off, an, ln, cn, zn, ad, ld, cd, zd, ha, hc1, hc2, h1, h2, h3, h4, h5, h6⟩ := h.2.2.2 i hi
  exact ⟨b, off, an, ln, cn, zn, ad, ld, cd, zd, ha, (hb.cell (World.block_lt_of_cell? _ _ hc1)).trans hc1, (hb.cell (World.block_lt_of_cell? _ _ hc2)).trans hc2, h1.below hb, h2, h3.below hb, h4, h5, h6⟩
/-- the least ratio that is as much as N by D -/
def GivesLo (w : World) (L : Nat) (N D : Int) (e : Ending) (w' : World) : Prop :=
  ∃ v n d, e = .returned v ∧ Rat w' 0 L v n d ∧ Lo n d ∧ n * D = N * d ∧ Below w.heap.size w w'

theorem frac_add {n d N D an ad ni di Num Den : Int} (hd : 0 < d) (had : 0 < ad) (e1 : n * D = N * d) (e2 : an * di = ni * ad) (e3 : Num * (d * ad) = (n * ad + an * d) * Den) : Num * (D * di) = (N * di + ni * D) * Den := by
  have hp : d * ad ≠ 0 := by have := Int.mul_pos hd had; omega
  refine Int.eq_of_mul_eq_mul_right hp ?_
  have s1 : Num * (D * di) * (d * ad) = (Num * (d * ad)) * (D * di) := by grind
  have s2 : (n * ad + an * d) * Den * (D * di) = Den * ((n * D) * (ad * di) + (an * di) * (d * D)) := by grind
  rw [s1, e3, s2, e1, e2]
  grind
theorem lev_sum {n d an ad g : Int} (h1 : g ∣ d) (h2 : g ∣ ad) : (n * (ad / g) + an * (d / g)) * g = n * ad + an * d := by
  have e1 := Int.ediv_mul_cancel h1
  have e2 := Int.ediv_mul_cancel h2
  have : (n * (ad / g) + an * (d / g)) * g = n * (ad / g * g) + an * (d / g * g) := by grind
  rw [this, e1, e2]
theorem takeR {rs : List (Int × Int)} {t : Nat} (h : t < rs.length) : rs.take (t + 1) = rs.take t ++ [rs.getD t (0, 1)] := by
  rw [List.take_succ_eq_append_getElem h, List.getD_eq_getElem?_getD, List.getElem?_eq_getElem h]; rfl

set_option maxHeartbeats 4000000 in
theorem total_any (a : Option Addr) (len cap L : Nat) (rs : List (Int × Int)) (w : World) (h : RowR w a len cap L rs) (hp : ∀ p ∈ rs, 0 ≤ p.1 ∧ 0 < p.2) (hl : 1 + len * (L + 1) ≤ 800) :
    Calls Try.prog 81 #[.slice a len cap] w (GivesLo w (1 + len * (L + 1)) (sumR rs).1 (sumR rs).2) := by
  have H := Lib.hid h
  have HP := Lib.hid hp
  have LN := Lib.hid h.1
  have c1 := h.2.1
  have c2 := h.2.2.1
  clear h hp
  go_enter Try.func81, Try.ntmps81
  go_wp2_with fail
  obtain ⟨W0, hW0⟩ : ∃ W0, w.alloc (Obj.cells #[Value.slice none 0 0, Value.slice none 0 0] 58) = W0 := ⟨_, rfl⟩
  have B0 := Lib.hid (show Below w.heap.size w W0 by rw [← hW0]; exact below_box _ _)
  have H0 := Lib.hid (show W0.heap[w.heap.size]? = some (.cells #[.slice none 0 0, .slice none 0 0] 58 (0, 0)) by rw [← hW0]; exact heap_alloc_new _ _)
  rw [hW0]
  clear hW0
  refine (whole_any 0 W0 (by omega) (by omega)).mono ?_
  rintro e w1 ⟨_, rfl, ⟨an, ln, cn, zn, ad, ld, cd, zd, rfl, q1, q2, q3, q4, q5, q6, _, _⟩, hb1⟩
  have Q1 := Lib.hid q1; have Q2 := Lib.hid q2; have Q3 := Lib.hid q3; have Q4 := Lib.hid q4
  have B1 := Lib.hid (below_next B0.out hb1)
  have H1 := Lib.hid ((hb1.block _ (lt_of_block H0.out)).trans H0.out)
  clear q1 q2 q3 q4 hb1 H0
  go_wp2
  obtain ⟨W1, hW1⟩ : ∃ W1, w1.alloc (Obj.cells #[Value.slice an ln cn, Value.slice ad ld cd] 58) = W1 := ⟨_, rfl⟩
  obtain ⟨bs, hbs⟩ : ∃ bs, w1.heap.size = bs := ⟨_, rfl⟩
  have BW1 := Lib.hid (show Below w1.heap.size w1 W1 by rw [← hW1]; exact below_box _ _)
  have S1 := Lib.hid (show W1.heap[bs]? = some (.cells #[.slice an ln cn, .slice ad ld cd] 58 (0, 0)) by rw [← hW1, ← hbs]; exact heap_alloc_new _ _)
  have T1 := Lib.hid ((BW1.out.block _ (lt_of_block H1.out)).trans H1.out)
  have B2 := Lib.hid (below_next B1.out BW1.out)
  have BS := Lib.hid (show w.heap.size < bs by rw [← hbs]; exact lt_of_block H1.out)
  have L1 := Lib.hid (show ln ≤ 1 ∧ ld ≤ 1 from ⟨by rw [← Q1.out.len]; exact one_limb Q2.out (by omega), by rw [← Q3.out.len]; exact one_limb Q4.out (by omega)⟩)
  rw [hW1, hbs]
  clear hW1 hbs B1 H1 q5 q6
  go_loopw [12] (fun u wr => ∃ (i : Nat) (an : Option Addr) (ln cn : Nat) (zn : List Int) (ad : Option Addr) (ld cd : Nat) (zd : List Int) (n d : Int), u = .int .i64 i ∧ i ≤ len ∧ wr.heap[bs]? = some (.cells #[.slice an ln cn, .slice ad ld cd] 58 (0, 0)) ∧ wr.heap[w.heap.size]? = some (.cells #[.slice none 0 0, .slice none 0 0] 58 (0, 0)) ∧ Row .u32 wr an ln cn zn ∧ Is 4294967296 zn n ∧ Row .u32 wr ad ld cd zd ∧ Is 4294967296 zd d ∧ ln ≤ 1 + i * (L + 1) ∧ ld ≤ 1 + i * (L + 1) ∧ Lo n d ∧ n * (sumR (rs.take i)).2 = (sumR (rs.take i)).1 * d ∧ Below w.heap.size w wr) (fun u _ => len - (intOf u).toNat)
  case atStart => exact ⟨0, an, ln, cn, zn, ad, ld, cd, zd, 0, 1, rfl, Nat.zero_le _, S1.out, T1.out, Q1.out.below BW1.out, Q2.out, Q3.out.below BW1.out, Q4.out, by have := L1.out.1; omega, by have := L1.out.2; omega, ⟨by omega, by omega, by decide⟩, by simp [sumR], B2.out⟩
  case round =>
    clear Q1 Q2 Q3 Q4 S1 T1 L1 B2 BW1
    obtain ⟨i, an, ln, cn, zn, ad, ld, cd, zd, n, d, rfl, il, hS, hT, hrn, hin, hrd, hid, hln, hld, hlo, heq, hbel⟩ := hrel
    have HS := Lib.hid hS; have HT := Lib.hid hT
    have RN := Lib.hid hrn; have IN := Lib.hid hin; have RD := Lib.hid hrd; have ID := Lib.hid hid; have LO := Lib.hid hlo; have EQ := Lib.hid heq
    have HW := Lib.hid hbel
    have d0 := hlo.2.1
    have n0 := hlo.1
    clear hS hT hrn hin hrd hid hlo heq hbel
    by_cases go : i < len
    · have t1 : decide (i < len) = true := by simp; omega
      have hb1 : 1 + i * (L + 1) + (L + 1) ≤ 800 := by
        have : (i + 1) * (L + 1) ≤ len * (L + 1) := Nat.mul_le_mul_right _ (by omega)
        rw [Nat.add_mul] at this; omega
      have EL := Lib.hid (show 1 + (i + 1) * (L + 1) = 1 + i * (L + 1) + (L + 1) by rw [Nat.add_mul]; omega)
      obtain ⟨p, hp9⟩ : ∃ p, 1 + i * (L + 1) = p := ⟨_, rfl⟩
      rw [hp9] at hln hld hb1 EL
      clear hp9
      obtain ⟨ba, oa, bn, mn, kn, yn, bd, md, kd, yd, rfl, hx0, hy0, rn, in_, rd, id_, hmn, hmd⟩ := (H.out.below HW.out).2.2.2 i go
      obtain ⟨pr, hpr⟩ : ∃ pr, rs.getD i (0, 1) = pr := ⟨_, rfl⟩
      have hok : 0 ≤ pr.1 ∧ 0 < pr.2 := by
        rw [← hpr, List.getD_eq_getElem?_getD, List.getElem?_eq_getElem (by rw [LN.out]; exact go)]
        exact HP.out _ (List.getElem_mem _)
      obtain ⟨E, P⟩ := pr
      rw [hpr] at in_ id_
      have e0 : 0 ≤ E := hok.1
      have p0 : 0 < P := hok.2
      have SN := Lib.hid (sumR_snoc (rs.take i) (E, P))
      have TK := Lib.hid (show rs.take (i + 1) = rs.take i ++ [(E, P)] by rw [takeR (by rw [LN.out]; exact go), hpr])
      obtain ⟨N, hN⟩ : ∃ N, (sumR (rs.take i)).1 = N := ⟨_, rfl⟩
      obtain ⟨D, hD⟩ : ∃ D, (sumR (rs.take i)).2 = D := ⟨_, rfl⟩
      rw [hN, hD] at SN EQ
      have YN := Lib.hid rn; have JN := Lib.hid in_; have YD := Lib.hid rd; have JD := Lib.hid id_
      clear hpr hok hN hD rn in_ rd id_
      have j1 : (i : Int) < (len : Int) := by omega
      have j2 : 0 ≤ (i : Int) := by omega
      have zb := lt_of_block HS.out
      go_wp2_with fail
      obtain ⟨W2, hW2⟩ : ∃ W2, wr.alloc (Obj.cells #[Value.slice bn mn kn, Value.slice bd md kd] 58) = W2 := ⟨_, rfl⟩
      obtain ⟨ga, hga⟩ : ∃ ga, wr.heap.size = ga := ⟨_, rfl⟩
      have BW2 := Lib.hid (show Below wr.heap.size wr W2 by rw [← hW2]; exact below_box _ _)
      have A2 := Lib.hid (show W2.heap[ga]? = some (.cells #[.slice bn mn kn, .slice bd md kd] 58 (0, 0)) by rw [← hW2, ← hga]; exact heap_alloc_new _ _)
      have GB := Lib.hid (show bs < ga by rw [← hga]; exact zb)
      have WG := Lib.hid (show w.heap.size < ga by rw [← hga]; exact lt_of_block HT.out)
      have S2 := Lib.hid ((BW2.out.block _ zb).trans HS.out)
      have T2 := Lib.hid ((BW2.out.block _ (lt_of_block HT.out)).trans HT.out)
      have BB2 := Lib.hid (below_next HW.out BW2.out)
      rw [hW2, hga]
      clear hx0 hy0 hW2 hga zb
      refine (qcheck_yes _ E P L 0 W2 ⟨bn, mn, kn, yn, bd, md, kd, yd, rfl, YN.out.below BW2.out, JN.out, YD.out.below BW2.out, JD.out, hmn, hmd, fresh0 _, fresh0 _⟩ p0).mono ?_
      rintro e w3 ⟨rfl, hb3⟩
      have A3 := Lib.hid ((hb3.block _ (lt_of_block A2.out)).trans A2.out)
      have S3 := Lib.hid ((hb3.block _ (lt_of_block S2.out)).trans S2.out)
      have T3 := Lib.hid ((hb3.block _ (lt_of_block T2.out)).trans T2.out)
      have BR3 := Lib.hid (below_next BW2.out hb3)
      have BB3 := Lib.hid (below_next BB2.out hb3)
      clear hb3 A2 S2 T2 BB2 BW2
      have u0 : w3.cell? ⟨ga, 0, none⟩ = some (.slice bn mn kn) := block_cell A3.out
      have u1 : w3.cell? ⟨ga, 1, none⟩ = some (.slice bd md kd) := block_cell A3.out
      go_wp2_with fail
      clear u0 u1
      refine (least_any _ E P 0 L w3 ⟨bn, mn, kn, yn, bd, md, kd, yd, rfl, YN.out.below BR3.out, JN.out, YD.out.below BR3.out, JD.out, hmn, hmd, fresh0 _, fresh0 _⟩ p0 (by omega)).mono ?_
      rintro e w4 ⟨_, rfl, ⟨fn, gn, en, xn, fd, gd, ed, xd, rfl, q1, q2, q3, q4, q5, q6, _, _⟩, hb4⟩
      have LE := Lib.hid (lo_least e0 p0)
      obtain ⟨an', han⟩ : ∃ x, E / gc E P = x := ⟨_, rfl⟩
      obtain ⟨ad', had⟩ : ∃ x, P / gc E P = x := ⟨_, rfl⟩
      rw [han] at q2 LE
      rw [had] at q4 LE
      have Q1 := Lib.hid q1; have Q2 := Lib.hid q2; have Q3 := Lib.hid q3; have Q4 := Lib.hid q4
      have A4 := Lib.hid ((hb4.block _ (lt_of_block A3.out)).trans A3.out)
      have S4 := Lib.hid ((hb4.block _ (lt_of_block S3.out)).trans S3.out)
      have T4 := Lib.hid ((hb4.block _ (lt_of_block T3.out)).trans T3.out)
      have BR4 := Lib.hid (below_next BR3.out hb4)
      have BB4 := Lib.hid (below_next BB3.out hb4)
      clear hb4 A3 S3 T3 BB3 BR3 q1 q2 q3 q4 han had
      have v0 : w4.cell? ⟨ga, 0, none⟩ = some (.slice bn mn kn) := block_cell A4.out
      have v1 : w4.cell? ⟨ga, 1, none⟩ = some (.slice bd md kd) := block_cell A4.out
      have v2 : w4.frozen? ⟨ga, 0, none⟩ = false := block_free A4.out
      have v3 : w4.frozen? ⟨ga, 1, none⟩ = false := block_free A4.out
      have v4 : w4.cell? ⟨bs, 0, none⟩ = some (.slice an ln cn) := block_cell S4.out
      have v5 : w4.cell? ⟨bs, 1, none⟩ = some (.slice ad ld cd) := block_cell S4.out
      have v6 : bs ≠ ga := by have := GB.out; omega
      go_wp2_with fail
      obtain ⟨W5, hW5⟩ : ∃ W5, (w4.setCell ⟨ga, 0, none⟩ (.slice fn gn en)).setCell ⟨ga, 1, none⟩ (.slice fd gd ed) = W5 := ⟨_, rfl⟩
      have A5 := Lib.hid (show W5.heap[ga]? = some (.cells #[.slice fn gn en, .slice fd gd ed] 58 (0, 0)) by rw [← hW5]; exact two_set A4.out)
      have S5 := Lib.hid (show W5.heap[bs]? = some (.cells #[.slice an ln cn, .slice ad ld cd] 58 (0, 0)) by rw [← hW5, Below.heap_setCell _ _ _ _ (by simpa using v6), Below.heap_setCell _ _ _ _ (by simpa using v6)]; exact S4.out)
      have T5 := Lib.hid (show W5.heap[w.heap.size]? = some (.cells #[.slice none 0 0, .slice none 0 0] 58 (0, 0)) by
        have hne : w.heap.size ≠ ga := by have := WG.out; omega
        rw [← hW5, Below.heap_setCell _ _ _ _ (by simpa using hne), Below.heap_setCell _ _ _ _ (by simpa using hne)]; exact T4.out)
      have XN := Lib.hid (show Row .u32 W5 fn gn en xn by rw [← hW5]; exact Q1.out.box A4.out _ _)
      have XD := Lib.hid (show Row .u32 W5 fd gd ed xd by rw [← hW5]; exact Q3.out.box A4.out _ _)
      have RN5 := Lib.hid (show Row .u32 W5 an ln cn zn by rw [← hW5]; exact (RN.out.below BR4.out).box A4.out _ _)
      have RD5 := Lib.hid (show Row .u32 W5 ad ld cd zd by rw [← hW5]; exact (RD.out.below BR4.out).box A4.out _ _)
      have BB5 := Lib.hid (show Below w.heap.size w W5 by rw [← hW5]; exact (BB4.out.setCell (Nat.le_of_lt WG.out) _).setCell (Nat.le_of_lt WG.out) _)
      rw [hW5]
      clear hW5 v0 v1 v2 v3 v4 v5 v6 A4 S4 T4 Q1 Q3 BR4 BB4 YN YD RN RD
      have ad0 : 0 < ad' := LE.out.1.2.1
      refine (level_any _ _ n d an' ad' 0 0 p L W5 ⟨an, ln, cn, zn, ad, ld, cd, zd, rfl, RN5.out, IN.out, RD5.out, ID.out, hln, hld, fresh0 _, fresh0 _⟩ ⟨fn, gn, en, xn, fd, gd, ed, xd, rfl, XN.out, Q2.out, XD.out, Q4.out, q5, q6, fresh0 _, fresh0 _⟩ ad0 (by omega) (by omega)).mono ?_
      rintro e w6 ⟨a1, l1, k1, z1, a2, l2, k2, z2, a3, l3, k3, z3, rfl, hr1, hi1, hr2, hi2, hr3, hi3, hl1, hl2, hl3, hb6⟩
      obtain ⟨g, hg⟩ : ∃ g, gc d ad' = g := ⟨_, rfl⟩
      have g0 : 0 < g := by have := gc_pos (a := d) ad0; omega
      have SUM := Lib.hid (lo_sum (t := n * (ad' / g) + an' * (d / g)) LO.out LE.out.1 (Int.add_nonneg (Int.mul_nonneg n0 (Int.ediv_nonneg (by omega) (by omega))) (Int.mul_nonneg LE.out.1.1 (Int.ediv_nonneg (by omega) (by omega)))) (.inl (by rw [hg])))
      rw [hg] at hi1 hi2 hi3 SUM
      have LV := Lib.hid (lev_sum (n := n) (an := an') (show g ∣ d by rw [← hg]; exact gc_dvd) (show g ∣ ad' by rw [← hg]; exact gc_dvd'))
      have R1 := Lib.hid hr1; have R2 := Lib.hid hr2; have R3 := Lib.hid hr3; have I1 := Lib.hid hi1; have I2 := Lib.hid hi2; have I3 := Lib.hid hi3
      have A6 := Lib.hid (show w6.drew.heap[ga]? = _ from (hb6.block _ (lt_of_block A5.out)).trans A5.out)
      have S6 := Lib.hid (show w6.drew.heap[bs]? = _ from (hb6.block _ (lt_of_block S5.out)).trans S5.out)
      have T6 := Lib.hid (show w6.drew.heap[w.heap.size]? = _ from (hb6.block _ (lt_of_block T5.out)).trans T5.out)
      have RDen := Lib.hid (show Row .u32 w6.drew ad ld cd zd from RD5.out.below hb6.drew)
      have XDen := Lib.hid (show Row .u32 w6.drew fd gd ed xd from XD.out.below hb6.drew)
      have BB6 := Lib.hid (show Below w.heap.size w w6.drew from (below_next BB5.out hb6).drew)
      clear hr1 hr2 hr3 hi1 hi2 hi3 hb6 hg A5 S5 T5 RN5 RD5 XN XD BB5
      have x1 : w6.cell? ⟨bs, 1, none⟩ = some (.slice ad ld cd) := block_cell S6.out
      have x2 : w6.cell? ⟨ga, 1, none⟩ = some (.slice fd gd ed) := block_cell A6.out
      have o1 : p + L ≤ 1000 := by omega
      have o3 : ld ≤ 800 := by omega
      have o4 : gd ≤ 800 := by omega
      have o5 : ld + gd ≤ p + (L + 1) := by omega
      have o6 : p + (L + 1) ≤ 800 := by omega
      have sz1 := lt_of_block S6.out
      have sz2 := lt_of_block A6.out
      have sz3 := lt_of_block T6.out
      go_wp2
      go_region_with
        (first
          | (go_at_call 105; refine (nAdd_is (p + L) a1 l1 k1 z1 _ a2 l2 k2 z2 _ w6.drew R1.out.drew I1.out R2.out.drew I2.out o1 hl1 hl2).mono ?_; rintro e w7 ⟨a4, l4, k4, z4, rfl, hr, hi, hl4, hb⟩; have R4 := Lib.hid hr; have I4 := Lib.hid hi; have B7 := Lib.hid hb; have S7 := Lib.hid ((hb.block _ sz1).trans S6.out); have A7 := Lib.hid ((hb.block _ sz2).trans A6.out); have m0 : w7.cell? ⟨bs, 1, none⟩ = some (.slice ad ld cd) := block_cell S7.out; have m1 : w7.cell? ⟨ga, 1, none⟩ = some (.slice fd gd ed) := block_cell A7.out; clear hr hi hb)
          | (go_at_call 104; refine (lower_any a4 l4 k4 z4 _ ad ld cd zd d fd gd ed xd ad' a3 l3 k3 z3 g (p + (L + 1)) w7 R4.out I4.out (RDen.out.below B7.out) ID.out (XDen.out.below B7.out) Q4.out (R3.out.drew.below B7.out) I3.out g0 (Nat.le_trans hl4 o6) o3 o4 hl3 hl4 o5).mono ?_; rintro e w8 ⟨_, rfl, ⟨a5, l5, k5, z5, a6, l6, k6, z6, rfl, hr5, hi5, hr6, hi6, hl5, hl6, _, _⟩, hb⟩; have R5 := Lib.hid hr5; have I5 := Lib.hid hi5; have R6 := Lib.hid hr6; have I6 := Lib.hid hi6; have B8 := Lib.hid hb; have S8 := Lib.hid ((hb.block _ (lt_of_block S7.out)).trans S7.out); have y0 : w8.cell? ⟨bs, 0, none⟩ = some (.slice an ln cn) := block_cell S8.out; have y1 : w8.cell? ⟨bs, 1, none⟩ = some (.slice ad ld cd) := block_cell S8.out; have y2 : w8.frozen? ⟨bs, 0, none⟩ = false := block_free S8.out; have y3 : w8.frozen? ⟨bs, 1, none⟩ = false := block_free S8.out; clear hr5 hi5 hr6 hi6 hb))
      all_goals
        go_wp2
        go_roundw
        case rel =>
          refine ⟨i + 1, a5, l5, k5, z5, a6, l6, k6, z6, _, _, by go_num, by omega, two_set S8.out, ?_, R5.out.box S8.out _ _, I5.out, R6.out.box S8.out _ _, I6.out, by rw [EL.out]; exact hl5, by rw [EL.out]; exact hl6, SUM.out.1, ?_, ?_⟩
          · have hne : w.heap.size ≠ bs := by have := BS.out; omega
            rw [Below.heap_setCell _ _ _ _ (by simpa using hne), Below.heap_setCell _ _ _ _ (by simpa using hne)]
            exact (B8.out.block _ (Nat.lt_of_lt_of_le sz3 B7.out.size)).trans ((B7.out.block _ sz3).trans T6.out)
          · rw [TK.out, SN.out]
            exact frac_add d0 ad0 EQ.out LE.out.2 (by rw [SUM.out.2, LV.out])
          · exact ((below_next (below_next BB6.out B7.out) B8.out).setCell (Nat.le_of_lt BS.out) _).setCell (Nat.le_of_lt BS.out) _
        case measure => simp [intOf]; omega
    · have t1 : decide (i < len) = false := by simp; omega
      obtain rfl : i = len := by omega
      have EL := Lib.hid (show rs.take i = rs by rw [List.take_of_length_le (by rw [LN.out]; omega)])
      rw [EL.out] at EQ
      have k0 : wr.cell? ⟨bs, 0, none⟩ = some (.slice an ln cn) := block_cell HS.out
      have k1 : wr.cell? ⟨bs, 1, none⟩ = some (.slice ad ld cd) := block_cell HS.out
      have r0 : wr.cell? ⟨w.heap.size, 0, none⟩ = some (.slice none 0 0) := block_cell HT.out
      have r1 : wr.cell? ⟨w.heap.size, 1, none⟩ = some (.slice none 0 0) := block_cell HT.out
      have f0 : wr.frozen? ⟨w.heap.size, 0, none⟩ = false := block_free HT.out
      have f1 : wr.frozen? ⟨w.heap.size, 1, none⟩ = false := block_free HT.out
      go_wp2
      refine bodyPost_ret (v := .agg #[.slice an ln cn, .slice ad ld cd]) (by simp [results, Try.results81, go_sem, r0, r1]) rfl ⟨_, n, d, rfl, ⟨an, ln, cn, zn, ad, ld, cd, zd, rfl, RN.out.box HT.out _ _, IN.out, RD.out.box HT.out _ _, ID.out, hln, hld, fresh0 _, fresh0 _⟩, LO.out, EQ.out, ?_⟩
      exact (HW.out.setCell (Nat.le_refl _) _).setCell (Nat.le_refl _) _
end Go.Proofs.Ytnlgophgglgneaa
namespace Go.Proofs.Ytnlgophgglgneaa
open Go.RowKit

theorem sumR_two (n1 d1 n2 d2 : Int) : sumR [(n1, d1), (n2, d2)] = (n1 * d2 + n2 * d1, d1 * d2) := by
  unfold sumR
  simp
end Go.Proofs.Ytnlgophgglgneaa
namespace Go.Proofs.Ytnlgophgglgneaa
open Go.RowKit

/-- a row of numbers is as it was where cells of a block without numbers are written -/
theorem Row.far {k : IntKind} {W : World} {a : Option Addr} {len cap : Nat} {zs : List Int} {g o1 o2 : Nat} {cs : Array Value} {T : TypeId} (h : Row k W a len cap zs)
    (hg : W.heap[g]? = some (.cells cs T (0, 0))) (hno : ∀ (j : Nat) (x : Int), cs[j]? ≠ some (Value.int k x)) (u v : Value) : Row k ((W.setCell ⟨g, o1, none⟩ u).setCell ⟨g, o2, none⟩ v) a len cap zs := by
  refine ⟨h.1, h.2.1, h.2.2.1, h.2.2.2.1, fun i hi => ?_⟩
  obtain ⟨b, off, ha, hc⟩ := h.2.2.2.2 i hi
  refine ⟨b, off, ha, ?_⟩
  have hb : b ≠ g := by
    rintro rfl
    rw [block_cell hg] at hc
    exact hno _ _ hc
  have e : ((W.setCell ⟨g, o1, none⟩ u).setCell ⟨g, o2, none⟩ v).heap[b]? = W.heap[b]? := by
    rw [Below.heap_setCell _ _ _ _ (by simpa using hb), Below.heap_setCell _ _ _ _ (by simpa using hb)]
  exact (World.cell?_of_block (w := W) e).trans hc
/-- block g has room for len ratios; the first i of them are there -/
def Filled (W : World) (g len L i : Nat) (rs : List (Int × Int)) : Prop :=
  ∃ cur : Array Value, W.heap[g]? = some (.cells cur 58 (0, 0)) ∧ cur.size = len * 2 ∧ (∀ j, j < len * 2 → ∃ a l c, cur[j]? = some (.slice a l c)) ∧
    ∀ j, j < i → ∃ an ln cn zn ad ld cd zd, cur[j * 2]? = some (.slice an ln cn) ∧ cur[j * 2 + 1]? = some (.slice ad ld cd) ∧ Row .u32 W an ln cn zn ∧ Is 4294967296 zn (rs.getD j (0, 1)).1 ∧ Row .u32 W ad ld cd zd ∧ Is 4294967296 zd (rs.getD j (0, 1)).2 ∧ ln ≤ L ∧ ld ≤ L
theorem Filled.lt {W : World} {g len L i : Nat} {rs : List (Int × Int)} (h : Filled W g len L i rs) : g < W.heap.size := by
  obtain ⟨cur, h1, _⟩ := h; exact lt_of_block h1
theorem Filled.below {W W' : World} {g len L i : Nat} {rs : List (Int × Int)} (h : Filled W g len L i rs) (hb : Below W.heap.size W W') : Filled W' g len L i rs := by
  have hlt := h.lt
  obtain ⟨cur, h1, h2, h3, h4⟩ := h
  refine ⟨cur, (hb.block g hlt).trans h1, h2, h3, fun j hj => ?_⟩
  obtain ⟨an, ln, cn, zn, ad, ld, cd, zd, q1, q2, q3, q4, q5, q6, q7, q8⟩ := h4 j hj
  exact ⟨an, ln, cn, zn, ad, ld, cd, zd, q1, q2, q3.below hb, q4, q5.below hb, q6, q7, q8⟩
theorem Filled.room {W : World} {g len L i : Nat} {rs : List (Int × Int)} (h : Filled W g len L i rs) {j : Nat} (hj : j < len * 2) : (∃ a l c, W.cell? ⟨g, j, none⟩ = some (.slice a l c)) ∧ W.frozen? ⟨g, j, none⟩ = false := by
  obtain ⟨cur, h1, h2, h3, h4⟩ := h
  obtain ⟨a, l, c, e⟩ := h3 j hj
  exact ⟨⟨a, l, c, (block_cell h1).trans e⟩, block_free h1⟩
theorem no_int {cur : Array Value} {n : Nat} (h2 : cur.size = n) (h3 : ∀ j, j < n → ∃ a l c, cur[j]? = some (.slice a l c)) (k : IntKind) : ∀ (j : Nat) (x : Int), cur[j]? ≠ some (Value.int k x) := by
  intro j x e
  by_cases hj : j < n
  · obtain ⟨a, l, c, e'⟩ := h3 j hj
    rw [e'] at e; cases e
  · rw [Array.getElem?_eq_none (by omega)] at e; cases e
theorem Filled.more {W : World} {g len L i : Nat} {rs : List (Int × Int)} (h : Filled W g len L i rs) (hi : i < len) {an : Option Addr} {ln cn : Nat} {zn : List Int} {ad : Option Addr} {ld cd : Nat} {zd : List Int}
    (r1 : Row .u32 W an ln cn zn) (i1 : Is 4294967296 zn (rs.getD i (0, 1)).1) (r2 : Row .u32 W ad ld cd zd) (i2 : Is 4294967296 zd (rs.getD i (0, 1)).2) (l1 : ln ≤ L) (l2 : ld ≤ L) :
    Filled ((W.setCell ⟨g, i * 2, none⟩ (.slice an ln cn)).setCell ⟨g, i * 2 + 1, none⟩ (.slice ad ld cd)) g len L (i + 1) rs := by
  obtain ⟨cur, h1, h2, h3, h4⟩ := h
  have n1 := no_int h2 h3 .u32
  have s1 := heap_setCell_same W g (i * 2) cur 58 (.slice an ln cn) h1
  have s2 := heap_setCell_same _ g (i * 2 + 1) _ 58 (.slice ad ld cd) s1
  refine ⟨_, s2, by simp [h2], fun j hj => ?_, fun j hj => ?_⟩
  · by_cases e1 : j = i * 2 + 1
    · subst e1; exact ⟨ad, ld, cd, by rw [Array.getElem?_setIfInBounds_self_of_lt (by simp [h2]; omega)]⟩
    · by_cases e2 : j = i * 2
      · subst e2; exact ⟨an, ln, cn, by rw [Array.getElem?_setIfInBounds_ne (by omega), Array.getElem?_setIfInBounds_self_of_lt (by omega)]⟩
      · obtain ⟨a, l, c, e⟩ := h3 j hj
        exact ⟨a, l, c, by rw [Array.getElem?_setIfInBounds_ne (by omega), Array.getElem?_setIfInBounds_ne (by omega)]; exact e⟩
  · by_cases e : j = i
    · subst e
      exact ⟨an, ln, cn, zn, ad, ld, cd, zd, by rw [Array.getElem?_setIfInBounds_ne (by omega), Array.getElem?_setIfInBounds_self_of_lt (by omega)], by rw [Array.getElem?_setIfInBounds_self_of_lt (by simp [h2]; omega)], r1.far h1 n1 _ _, i1, r2.far h1 n1 _ _, i2, l1, l2⟩
    · obtain ⟨an', ln', cn', zn', ad', ld', cd', zd', q1, q2, q3, q4, q5, q6, q7, q8⟩ := h4 j (by omega)
      exact ⟨an', ln', cn', zn', ad', ld', cd', zd', by rw [Array.getElem?_setIfInBounds_ne (by omega), Array.getElem?_setIfInBounds_ne (by omega)]; exact q1, by rw [Array.getElem?_setIfInBounds_ne (by omega), Array.getElem?_setIfInBounds_ne (by omega)]; exact q2, q3.far h1 n1 _ _, q4, q5.far h1 n1 _ _, q6, q7, q8⟩
theorem Filled.row {W : World} {g len L : Nat} {rs : List (Int × Int)} (h : Filled W g len L len rs) (hl : rs.length = len) (hm : len ≤ 9223372036854775807) : RowR W (some ⟨g, 0, none⟩) len len L rs := by
  obtain ⟨cur, h1, h2, h3, h4⟩ := h
  refine ⟨hl, Nat.le_refl _, hm, fun i hi => ?_⟩
  obtain ⟨an, ln, cn, zn, ad, ld, cd, zd, q1, q2, q3, q4, q5, q6, q7, q8⟩ := h4 i hi
  exact ⟨g, 0, an, ln, cn, zn, ad, ld, cd, zd, rfl, by rw [Nat.zero_add]; exact (block_cell h1).trans q1, by rw [Nat.zero_add]; exact (block_cell h1).trans q2, q3, q4, q5, q6, q7, q8⟩
theorem made_nil (n j : Nat) (h : j < n * 2) : (madeCells (Value.agg #[.slice none 0 0, .slice none 0 0]).cells (n * 2))[j]? = some (.slice none 0 0) := by
  have e : (Value.agg #[.slice none 0 0, .slice none 0 0]).cells = #[.slice none 0 0, .slice none 0 0] := rfl
  rw [e]
  unfold madeCells
  have h2 : j % 2 < 2 := Nat.mod_lt _ (by omega)
  simp [h]
  match j % 2, h2 with
  | 0, _ => rfl
  | 1, _ => rfl
theorem filled_made {W : World} {base g n L : Nat} {rs : List (Int × Int)} (h : W.ownsRow base 58 2 (.slice (some ⟨g, 0, none⟩) n n) n (madeCells (Value.agg #[.slice none 0 0, .slice none 0 0]).cells (n * 2)).toList) : Filled W g n L 0 rs := by
  rcases h.2 with ⟨h', _⟩ | ⟨g', cap', cur, h', _, hg, _, _, hsz, htake⟩
  · simp at h'
  · simp only [Value.slice.injEq, Option.some.injEq, Addr.mk.injEq, and_true, true_and] at h'
    obtain ⟨rfl, rfl⟩ := h'
    have e : cur = madeCells (Value.agg #[.slice none 0 0, .slice none 0 0]).cells (n * 2) := by
      apply Array.toList_inj.mp
      rw [← htake, List.take_of_length_le (by rw [Array.length_toList]; omega)]
    subst e
    exact ⟨_, hg, hsz, fun j hj => ⟨none, 0, 0, made_nil n j hj⟩, fun j hj => by omega⟩
end Go.Proofs.Ytnlgophgglgneaa
namespace Go.Proofs.Ytnlgophgglgneaa
open Go.RowKit

/-- a weight that may be -/
def FitW (p : Int × Int) : Prop := 0 ≤ p.1 ∧ p.1 < 4294967296 ∧ 1 ≤ p.2 ∧ p.2 < 4294967296

set_option maxHeartbeats 4000000 in
theorem qsum_any (a : Option Addr) (len cap : Nat) (ws : List (Int × Int)) (w : World) (h : RowP w a len cap ws) (hw : ∀ p ∈ ws, FitW p) (hl : len ≤ 100) :
    Calls Try.prog 62 #[.slice a len cap] w (GivesLo w (1 + len * 2) (sumR ws).1 (sumR ws).2) := by
  obtain ⟨i0, hi, hz0, hz1, hz2⟩ := info_parts Try.infoRat
  have H := Lib.hid h
  have HWs := Lib.hid hw
  have LN := Lib.hid h.len
  have ⟨c1, c2⟩ := h.cap_le
  clear h hw
  have HBY := Lib.hid (show i0.bytes * len ≤ 281474976710656 by rw [hz2]; omega)
  go_enter Try.func62, Try.ntmps62
  go_wp2_with (at_make; refine wpList_make_full _ rfl _ _ 113 rfl (w.heap.size + 1) 58 i0 (.agg #[.slice none 0 0, .slice none 0 0]) 2 Try.underlying113 hi hz0 hz1 _ _ _ _ len rfl rfl rfl rfl HBY.out (by unfold maxLen; omega) (by simp) ?_; intro w1 hown hgrow; have HO := Lib.hid hown; have HG := Lib.hid hgrow; clear hown hgrow)
  have B0 := Lib.hid (below_box w (.cells #[.slice none 0 0, .slice none 0 0] 58))
  have H0 := Lib.hid (show w1.heap[w.heap.size]? = some (.cells #[.slice none 0 0, .slice none 0 0] 58 (0, 0)) from (HG.out.block _ (by simp) (by simp)).trans (heap_alloc_new _ _))
  have B1 := Lib.hid (show Below w.heap.size w w1 from B0.out.grown HG.out (by simp) (fun g hg => by cases hg))
  have F0 := Lib.hid (show Filled w1 (w.heap.size + 1) len 1 0 ws from filled_made (by have := HO.out; rw [size_alloc] at this; exact this))
  clear HO HG
  go_loopw [11] (fun u wr => ∃ i : Nat, u = .int .i64 i ∧ i ≤ len ∧ Filled wr (w.heap.size + 1) len 1 i ws ∧ wr.heap[w.heap.size]? = some (.cells #[.slice none 0 0, .slice none 0 0] 58 (0, 0)) ∧ Below w.heap.size w wr) (fun u _ => len - (intOf u).toNat)
  case atStart => exact ⟨0, rfl, Nat.zero_le _, F0.out, H0.out, B1.out⟩
  case round =>
    clear F0 H0 B1
    obtain ⟨i, rfl, il, hF, hT, hbel⟩ := hrel
    have HF := Lib.hid hF; have HT := Lib.hid hT; have HW := Lib.hid hbel
    clear hF hT hbel
    by_cases go : i < len
    · have t1 : decide (i < len) = true := by simp; omega
      obtain ⟨ba, oa, rfl, hx0, hy0⟩ := (H.out.below HW.out).cell go
      obtain ⟨pr, hpr⟩ : ∃ pr, ws.getD i (0, 0) = pr := ⟨_, rfl⟩
      have hpr1 : ws.getD i (0, 1) = pr := by
        rw [← hpr, List.getD_eq_getElem?_getD, List.getD_eq_getElem?_getD, List.getElem?_eq_getElem (by rw [LN.out]; exact go)]; rfl
      have hok : FitW pr := by
        rw [← hpr, List.getD_eq_getElem?_getD, List.getElem?_eq_getElem (by rw [LN.out]; exact go)]
        exact HWs.out _ (List.getElem_mem _)
      rw [hpr] at hx0 hy0
      obtain ⟨E, P⟩ := pr
      obtain ⟨e0, e1, p0, p1⟩ := hok
      have PR := Lib.hid hpr1
      clear hpr hpr1
      have j1 : (i : Int) < (len : Int) := by omega
      have j2 : 0 ≤ (i : Int) := by omega
      go_wp2_with fail
      obtain ⟨W2, hW2⟩ : ∃ W2, wr.alloc (Obj.cells #[Value.int .i64 E, Value.int .i64 P] 32) = W2 := ⟨_, rfl⟩
      have BW2 := Lib.hid (show Below wr.heap.size wr W2 by rw [← hW2]; exact below_box _ _)
      rw [hW2]
      clear hW2 hx0 hy0
      refine (qof_any E P W2 e0 e1 p0 p1).mono ?_
      rintro e w3 ⟨_, rfl, ⟨an, ln, cn, zn, ad, ld, cd, zd, rfl, q1, q2, q3, q4, q5, q6, _, _⟩, hb3⟩
      have Q1 := Lib.hid q1; have Q2 := Lib.hid q2; have Q3 := Lib.hid q3; have Q4 := Lib.hid q4
      have BR3 := Lib.hid (below_next BW2.out hb3)
      have BB3 := Lib.hid (below_next HW.out BR3.out)
      have F3 := Lib.hid (HF.out.below BR3.out)
      have T3 := Lib.hid ((BR3.out.block _ (lt_of_block HT.out)).trans HT.out)
      obtain ⟨⟨r1, r2, r3, m0⟩, f0⟩ := F3.out.room (j := i * 2) (by omega)
      obtain ⟨⟨r4, r5, r6, m1⟩, f1⟩ := F3.out.room (j := i * 2 + 1) (by omega)
      clear q1 q2 q3 q4 hb3
      go_wp2
      go_roundw
      case rel =>
        refine ⟨i + 1, by go_num, by omega, F3.out.more go Q1.out (by rw [PR.out]; exact Q2.out) Q3.out (by rw [PR.out]; exact Q4.out) q5 q6, ?_, ?_⟩
        · rw [Below.heap_setCell _ _ _ _ (by simp), Below.heap_setCell _ _ _ _ (by simp)]; exact T3.out
        · exact (BB3.out.setCell (show w.heap.size ≤ w.heap.size + 1 by omega) _).setCell (show w.heap.size ≤ w.heap.size + 1 by omega) _
      case measure => simp [intOf]; omega
    · have t1 : decide (i < len) = false := by simp; omega
      obtain rfl : i = len := by omega
      have RR := Lib.hid (HF.out.row LN.out (by omega))
      go_wp2_with fail
      refine (total_any _ i i 1 ws wr RR.out (fun p hp => by have := HWs.out p hp; exact ⟨this.1, by have := this.2.2.1; omega⟩) (by omega)).mono ?_
      rintro e w5 ⟨_, n, d, rfl, ⟨a5, l5, c5, z5, a6, l6, c6, z6, rfl, r5, i5, r6, i6, hl5, hl6, _, _⟩, hlo, heq, hb5⟩
      have R5 := Lib.hid r5; have R6 := Lib.hid r6; have I5 := Lib.hid i5; have I6 := Lib.hid i6; have LO := Lib.hid hlo; have EQ := Lib.hid heq
      have H5 := Lib.hid ((hb5.block _ (lt_of_block HT.out)).trans HT.out)
      have B5 := Lib.hid (below_next HW.out hb5)
      clear r5 r6 i5 i6 hlo heq hb5
      have s0 : w5.cell? ⟨w.heap.size, 0, none⟩ = some (.slice none 0 0) := block_cell H5.out
      have s1 : w5.cell? ⟨w.heap.size, 1, none⟩ = some (.slice none 0 0) := block_cell H5.out
      have s2 : w5.frozen? ⟨w.heap.size, 0, none⟩ = false := block_free H5.out
      have s3 : w5.frozen? ⟨w.heap.size, 1, none⟩ = false := block_free H5.out
      go_wp2
      refine bodyPost_ret (v := .agg #[.slice a5 l5 c5, .slice a6 l6 c6]) (by simp [results, Try.results62, go_sem, s0, s1]) rfl ⟨_, n, d, rfl, ⟨a5, l5, c5, z5, a6, l6, c6, z6, rfl, R5.out.box H5.out _ _, I5.out, R6.out.box H5.out _ _, I6.out, by omega, by omega, fresh0 _, fresh0 _⟩, LO.out, EQ.out, ?_⟩
      exact (B5.out.setCell (Nat.le_refl _) _).setCell (Nat.le_refl _) _
end Go.Proofs.Ytnlgophgglgneaa
namespace Go.Proofs.Ytnlgophgglgneaa
open Go.RowKit

theorem frac_sub {n1 d1 n2 d2 an ad bn bd Num Den : Int} (had : 0 < ad) (hbd : 0 < bd) (e1 : an * d1 = n1 * ad) (e2 : bn * d2 = n2 * bd) (e3 : Num * (ad * bd) = (an * bd - bn * ad) * Den) : Num * (d1 * d2) = (n1 * d2 - n2 * d1) * Den := by
  have hp : ad * bd ≠ 0 := by have := Int.mul_pos had hbd; omega
  refine Int.eq_of_mul_eq_mul_right hp ?_
  have s1 : Num * (d1 * d2) * (ad * bd) = (Num * (ad * bd)) * (d1 * d2) := by grind
  have s2 : (an * bd - bn * ad) * Den * (d1 * d2) = Den * ((an * d1) * (bd * d2) - (bn * d2) * (ad * d1)) := by grind
  rw [s1, e3, s2, e1, e2]
  grind
theorem lev_one {n d g : Int} (h : g ∣ d) : n * (d / g) * g = n * d := by
  have e1 := Int.ediv_mul_cancel h
  rw [Int.mul_assoc, e1]
theorem sub_cmp {n1 d1 n2 d2 an ad bn bd g : Int} (h1 : g ∣ ad) (h2 : g ∣ bd) (g0 : 0 < g) (had : 0 < ad) (hbd : 0 < bd) (hd1 : 0 < d1) (hd2 : 0 < d2) (e1 : an * d1 = n1 * ad) (e2 : bn * d2 = n2 * bd) : an * (bd / g) < bn * (ad / g) ↔ n1 * d2 < n2 * d1 := by
  have k1 := lev_one (n := an) h2
  have k2 := lev_one (n := bn) h1
  have P := Int.mul_pos had hbd
  have Q := Int.mul_pos hd1 hd2
  have s1 : (an * bd) * (d1 * d2) = (n1 * d2) * (ad * bd) := by
    have : (an * bd) * (d1 * d2) = (an * d1) * (bd * d2) := by grind
    rw [this, e1]; grind
  have s2 : (bn * ad) * (d1 * d2) = (n2 * d1) * (ad * bd) := by
    have : (bn * ad) * (d1 * d2) = (bn * d2) * (ad * d1) := by grind
    rw [this, e2]; grind
  constructor
  · intro h
    have h3 := Int.mul_lt_mul_of_pos_right h g0
    rw [k1, k2] at h3
    have h4 := Int.mul_lt_mul_of_pos_right h3 Q
    rw [s1, s2] at h4
    exact Int.lt_of_mul_lt_mul_right h4 (by omega)
  · intro h
    have h4 := Int.mul_lt_mul_of_pos_right h P
    rw [← s1, ← s2] at h4
    have h3 := Int.lt_of_mul_lt_mul_right h4 (by omega)
    rw [← k1, ← k2] at h3
    exact Int.lt_of_mul_lt_mul_right h3 (by omega)
/-- what is left, at its least; or too great -/
def GivesSub (w : World) (L : Nat) (n1 d1 n2 d2 : Int) (e : Ending) (w' : World) : Prop :=
  ∃ v er, e = .returned (.tuple #[v, .int .i64 er]) ∧ Below w.heap.size w w' ∧ ((n1 * d2 < n2 * d1 ∧ er = 16 ∧ v = .agg #[.slice none 0 0, .slice none 0 0]) ∨ (n2 * d1 ≤ n1 * d2 ∧ er = 0 ∧ ∃ n d, Rat w' 0 L v n d ∧ Lo n d ∧ n * (d1 * d2) = (n1 * d2 - n2 * d1) * d))

end Go.Proofs.Ytnlgophgglgneaa
namespace Go.Proofs.Ytnlgophgglgneaa
open Go.RowKit

/-- a ratio's text, by its numbers' decimal digits -/
def texR (dn dd : List Int) (d : Int) : List UInt8 := if d = 1 then textL dn else textL dn ++ [47] ++ textL dd
theorem ret_str {a b : ByteArray} (h : a = b) : Ending.returned (.string a) = .returned (.string b) := by rw [h]
theorem text_cat (x y : List UInt8) : (⟨(x ++ [47] ++ y).toArray⟩ : ByteArray) = (⟨x.toArray⟩ : ByteArray) ++ (⟨#[47]⟩ : ByteArray) ++ (⟨y.toArray⟩ : ByteArray) := by
  apply ByteArray.ext
  simp [ByteArray.data_append]
theorem one_kept {w w' : World} {b o : Nat} {v : Value} (hb : Below w.heap.size w w') (h : w.cell? ⟨b, o, none⟩ = some v) (hz : b < w.heap.size) : w'.cell? ⟨b, o, none⟩ = some v := (hb.cell (p := ⟨b, o, none⟩) hz).trans h
end Go.Proofs.Ytnlgophgglgneaa
namespace Go.Proofs.Ytnlgophgglgneaa
open Go.RowKit

theorem lo_half : Lo 1 2 := ⟨by omega, by omega, by decide⟩
theorem awake_text1 : texR [1] [2] 2 = [49, 47, 50] := by decide +kernel
theorem awake_text2 : texR [7] [1] 1 = [55] := by decide +kernel
theorem is_dig {x : Int} (h0 : 0 < x) (h1 : x < 10) : Is 10 [x] x := ⟨fun z hz => by simp at hz; subst hz; omega, by simp [Top]; omega, by simp [val]⟩

end Go.Proofs.Ytnlgophgglgneaa
namespace Go.Proofs.Ytnlgophgglgneaa
open Go.RowKit

/-- block g holds just the two values -/
def Box (W : World) (T : TypeId) (g : Nat) (x y : Value) : Prop := W.heap[g]? = some (.cells #[x, y] T (0, 0))
theorem Box.below {W W' : World} {T : TypeId} {g : Nat} {x y : Value} (h : Box W T g x y) (hb : Below W.heap.size W W') : Box W' T g x y := (hb.block g (lt_of_block h)).trans h
theorem Box.c0 {W : World} {T : TypeId} {g : Nat} {x y : Value} (h : Box W T g x y) : W.cell? ⟨g, 0, none⟩ = some x := block_cell h
theorem Box.c1 {W : World} {T : TypeId} {g : Nat} {x y : Value} (h : Box W T g x y) : W.cell? ⟨g, 1, none⟩ = some y := block_cell h
theorem Box.drew {W : World} {T : TypeId} {g : Nat} {x y : Value} (h : Box W T g x y) : Box W.drew T g x y := h
theorem Box.new (W : World) (T : TypeId) (x y : Value) : Box (W.alloc (.cells #[x, y] T)) T W.heap.size x y := heap_alloc_new _ _
theorem Rat.drew {W : World} {base L : Nat} {v : Value} {n d : Int} (h : Rat W base L v n d) : Rat W.drew base L v n d := h
theorem RowP.drew {W : World} {a : Option Addr} {len cap : Nat} {ps : List (Int × Int)} (h : RowP W a len cap ps) : RowP W.drew a len cap ps := h
/-- a slice of one pair, as it is built -/
theorem rowP_one (W : World) (x y : Int) (T : TypeId) : RowP (W.alloc (.cells #[.int .i64 x, .int .i64 y] T)) (some ⟨W.heap.size, 0, none⟩) 1 1 [(x, y)] := by
  refine ⟨rfl, Nat.le_refl _, by omega, (fun e => by cases e), fun i hi => ?_⟩
  obtain rfl : i = 0 := by omega
  exact ⟨W.heap.size, 0, rfl, World.cell?_alloc_at _ _ _ _ rfl, World.cell?_alloc_at _ _ _ _ rfl⟩
theorem fit_mk (p : Int × Int) : FitW (mkW p) ∧ (mkW p).1 ≤ 1048575 ∧ (mkW p).2 ≤ 1048576 := by
  have h1 := and_bd p.1
  have h2 := and_bd p.2
  unfold mkW FitW
  refine ⟨⟨h1.1, ?_, ?_, ?_⟩, ?_, ?_⟩ <;> simp only <;> omega
theorem fit_ok {p : Int × Int} (h : FitW p) : OkW p := ⟨h.1, h.2.1, by have := h.2.2.1; omega, h.2.2.2⟩
theorem fits_mk (ps : List (Int × Int)) : ∀ p ∈ (ps.take 8).map mkW, FitW p := by
  intro p hp
  obtain ⟨q, _, rfl⟩ := List.mem_map.mp hp
  exact (fit_mk q).1
theorem oks_mk (ps : List (Int × Int)) : ∀ p ∈ (ps.take 8).map mkW, OkW p := fun p hp => fit_ok (fits_mk ps p hp)
/-- a ratio of fewer limbs, by its numbers -/
theorem Rat.shrink {W : World} {base L : Nat} {v : Value} {n d : Int} (h : Rat W base L v n d) {L' : Nat} (hn : n < 4294967296 ^ L') (hd : d < 4294967296 ^ L') : Rat W base L' v n d := by
  obtain ⟨an, ln, cn, zn, ad, ld, cd, zd, rfl, h1, h2, h3, h4, h5, h6, h7⟩ := h
  exact ⟨an, ln, cn, zn, ad, ld, cd, zd, rfl, h1, h2, h3, h4, by rw [← h1.len]; exact h2.len_le (by omega) hn, by rw [← h3.len]; exact h4.len_le (by omega) hd, h7⟩
theorem Rat.nonneg {W : World} {base L : Nat} {v : Value} {n d : Int} (h : Rat W base L v n d) : 0 ≤ n ∧ 0 ≤ d := by
  obtain ⟨an, ln, cn, zn, ad, ld, cd, zd, rfl, h1, h2, h3, h4, _⟩ := h
  exact ⟨h2.nonneg (by omega), h4.nonneg (by omega)⟩
end Go.Proofs.Ytnlgophgglgneaa
