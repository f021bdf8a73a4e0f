/-
  Plain facts on sums of weights; no Go in sight.
-/
import Derived.Test.YtenibpnifnlfeaaRq6
namespace Go.Proofs.Ytenibpnifnlfeaa
open Go.RowKit

/-- a least ratio's numbers are not greater than those of one that is as much -/
theorem lo_le {n d N D : Int} (h : Lo n d) (hN : 0 ≤ N) (hD : 0 < D) (e : n * D = N * d) : n ≤ N ∧ d ≤ D := by
  have hd : d ∣ D := by
    obtain ⟨x, y, rfl, rfl, y0, g⟩ := h.nat
    obtain ⟨X, rfl⟩ := Int.eq_ofNat_of_zero_le hN
    obtain ⟨Y, rfl⟩ := Int.eq_ofNat_of_zero_le (show 0 ≤ D by omega)
    have e' : x * Y = X * y := by exact_mod_cast e
    have d1 : y ∣ Y := (Nat.Coprime.symm g).dvd_of_dvd_mul_left (e' ▸ Nat.dvd_mul_left y X)
    exact Int.natCast_dvd_natCast.mpr d1
  have dD := Int.le_of_dvd hD hd
  refine ⟨?_, dD⟩
  have h1 : N * d ≤ N * D := Int.mul_le_mul_of_nonneg_left dD hN
  exact Int.le_of_mul_le_mul_right (show n * D ≤ N * D by omega) hD
/-- sums of weights to 2^20 -/
def Small (p : Int × Int) : Prop := 0 ≤ p.1 ∧ p.1 ≤ 1048576 ∧ 1 ≤ p.2 ∧ p.2 ≤ 1048576
theorem sum_bd_take (ws : List (Int × Int)) (h : ∀ p ∈ ws, Small p) (k : Nat) (hk : k ≤ ws.length) : 0 ≤ (sumR (ws.take k)).1 ∧ (sumR (ws.take k)).1 ≤ k * 1048576 ^ k ∧ 1 ≤ (sumR (ws.take k)).2 ∧ (sumR (ws.take k)).2 ≤ 1048576 ^ k := by
  induction k with
  | zero => simp [sumR]
  | succ k ih =>
    obtain ⟨a1, a2, a3, a4⟩ := ih (by omega)
    rw [takeP (show k < ws.length by omega), sumR_snoc, Int.pow_succ]
    obtain ⟨p, hp⟩ : ∃ p, ws.getD k (0, 0) = p := ⟨_, rfl⟩
    have hs : Small p := by
      rw [← hp, List.getD_eq_getElem?_getD, List.getElem?_eq_getElem (show k < ws.length by omega)]
      exact h _ (List.getElem_mem _)
    rw [hp]
    obtain ⟨b1, b2, b3, b4⟩ := hs
    obtain ⟨x, hx⟩ : ∃ x, (sumR (ws.take k)).1 = x := ⟨_, rfl⟩
    obtain ⟨y, hy⟩ : ∃ y, (sumR (ws.take k)).2 = y := ⟨_, rfl⟩
    rw [hx] at a1 a2 ⊢
    rw [hy] at a3 a4 ⊢
    have q0 := ipow_pos (B := 1048576) (by omega) k
    have m1 : x * p.2 ≤ (k * 1048576 ^ k) * 1048576 := Int.mul_le_mul a2 b4 (by omega) (Int.mul_nonneg (by omega) (by omega))
    have m2 : p.1 * y ≤ 1048576 * 1048576 ^ k := Int.mul_le_mul b2 a4 (by omega) (by omega)
    have m3 : y * p.2 ≤ 1048576 ^ k * 1048576 := Int.mul_le_mul a4 b4 (by omega) (by omega)
    have m4 : 0 ≤ x * p.2 := Int.mul_nonneg a1 (by omega)
    have m5 : 0 ≤ p.1 * y := Int.mul_nonneg b1 (by omega)
    have m6 : 1 * 1 ≤ y * p.2 := Int.mul_le_mul a3 b3 (by omega) (by omega)
    have e : ((k + 1 : Nat) : Int) * (1048576 ^ k * 1048576) = (k * 1048576 ^ k) * 1048576 + 1048576 * 1048576 ^ k := by
      rw [Int.natCast_add]; grind
    refine ⟨?_, ?_, ?_, ?_⟩
    · simp only; omega
    · simp only; rw [e]; omega
    · simp only; omega
    · exact m3
theorem sum_bd (ws : List (Int × Int)) (h : ∀ p ∈ ws, Small p) : 0 ≤ (sumR ws).1 ∧ (sumR ws).1 ≤ ws.length * 1048576 ^ ws.length ∧ 1 ≤ (sumR ws).2 ∧ (sumR ws).2 ≤ 1048576 ^ ws.length := by
  have := sum_bd_take ws h ws.length (Nat.le_refl _)
  rwa [List.take_length] at this
theorem small_mk (p : Int × Int) : Small (mkW p) := by
  obtain ⟨⟨h1, h2, h3, h4⟩, h5, h6⟩ := fit_mk p
  exact ⟨h1, by omega, h3, h6⟩
theorem smalls_mk (ps : List (Int × Int)) : ∀ p ∈ (ps.take 8).map mkW, Small p := by
  intro p hp
  obtain ⟨q, _, rfl⟩ := List.mem_map.mp hp
  exact small_mk q
/-- of at most 17 such weights, in 12 limbs (8: in 6) -/
theorem sum_lt8 {ws : List (Int × Int)} (h : ∀ p ∈ ws, Small p) (hl : ws.length ≤ 8) : 0 ≤ (sumR ws).1 ∧ (sumR ws).1 < 4294967296 ^ 6 ∧ 0 < (sumR ws).2 ∧ (sumR ws).2 < 4294967296 ^ 6 := by
  obtain ⟨a1, a2, a3, a4⟩ := sum_bd ws h
  have p := ipow_le (B := 1048576) (by omega) hl
  have e : (1048576 : Int) ^ 8 = 1461501637330902918203684832716283019655932542976 := by decide +kernel
  have e2 : (4294967296 : Int) ^ 6 = 6277101735386680763835789423207666416102355444464034512896 := by decide +kernel
  have m : (ws.length : Int) * 1048576 ^ ws.length ≤ 8 * 1048576 ^ 8 := Int.mul_le_mul (by omega) p (Int.le_of_lt (ipow_pos (by omega) _)) (by omega)
  rw [e2]
  omega
theorem take8_len (ps : List (Int × Int)) : ((ps.take 8).map mkW).length ≤ 8 := by rw [List.length_map, List.length_take]; omega
/-- two ratios are in the order of two that are as much -/
theorem cmp_frac {n1 d1 n2 d2 N1 D1 N2 D2 : Int} (hd1 : 0 < d1) (hd2 : 0 < d2) (hD1 : 0 < D1) (hD2 : 0 < D2) (e1 : n1 * D1 = N1 * d1) (e2 : n2 * D2 = N2 * d2) : cmpI (n1 * d2) (n2 * d1) = cmpI (N1 * D2) (N2 * D1) := by
  have P := Int.mul_pos hD1 hD2
  have Q := Int.mul_pos hd1 hd2
  have s1 : (n1 * d2) * (D1 * D2) = (N1 * D2) * (d1 * d2) := by
    have : (n1 * d2) * (D1 * D2) = (n1 * D1) * (d2 * D2) := by grind
    rw [this, e1]; grind
  have s2 : (n2 * d1) * (D1 * D2) = (N2 * D1) * (d1 * d2) := by
    have : (n2 * d1) * (D1 * D2) = (n2 * D2) * (d1 * D1) := by grind
    rw [this, e2]; grind
  rw [← cmpI_mul (n1 * d2) (n2 * d1) P, s1, s2, cmpI_mul _ _ Q]
theorem qsame_yes (v u : Value) (n d : Int) (b1 b2 L1 L2 : Nat) (w : World) (h1 : Rat w b1 L1 v n d) (h2 : Rat w b2 L2 u n d) :
    Calls Try.prog 25 #[v, u] w fun e w' => e = .returned (.bool true) ∧ Below w.heap.size w w' := by
  obtain ⟨a1, l1, c1, z1, a2, l2, c2, z2, rfl, r1, i1, r2, i2, _, _, _, _⟩ := h1
  obtain ⟨a3, l3, c3, z3, a4, l4, c4, z4, rfl, r3, i3, r4, i4, _, _, _, _⟩ := h2
  exact rsame_any a1 l1 c1 z1 a2 l2 c2 z2 a3 l3 c3 z3 a4 l4 c4 z4 w r1 r2 r3 r4 true ⟨fun _ => ⟨is_unique (by omega) i1 i3, is_unique (by omega) i2 i4⟩, fun _ => rfl⟩
theorem lt_of_cmp {m n : Int} (h : cmpI m n < 0) : m < n := by
  rcases Int.lt_trichotomy m n with g | g | g
  · exact g
  · rw [cmpI_eq g] at h; omega
  · rw [cmpI_gt g] at h; omega
theorem ge_of_cmp {m n : Int} (h : 0 ≤ cmpI m n) : n ≤ m := by
  rcases Int.lt_trichotomy m n with g | g | g
  · rw [cmpI_lt g] at h; omega
  · omega
  · omega
end Go.Proofs.Ytenibpnifnlfeaa
