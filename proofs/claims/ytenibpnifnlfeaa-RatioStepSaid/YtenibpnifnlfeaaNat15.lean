/-
  The contracts once more, as the laws want them: by numbers, with the lengths of what is told.
-/
import Derived.Test.YtenibpnifnlfeaaNat14
namespace Go.Proofs.Ytenibpnifnlfeaa
open Go.RowKit

/-- a row of at most L limbs that is the number n; nothing that was there is written -/
def GivesL (w : World) (L : Nat) (n : Int) (e : Ending) (w' : World) : Prop :=
  ∃ a len cap zs, e = .returned (.slice a len cap) ∧ Row .u32 w' a len cap zs ∧ Is 4294967296 zs n ∧ len ≤ L ∧ Below w.heap.size w w'

theorem is_lt {zs : List Int} {n : Int} {p : Nat} (h : Is 4294967296 zs n) (hl : zs.length ≤ p) : 0 ≤ n ∧ n < 4294967296 ^ p := by
  have h1 := val_lt (by omega) h.1
  rw [h.2.2] at h1
  have h2 := ipow_le (B := 4294967296) (by omega) hl
  exact ⟨h.nonneg (by omega), by omega⟩
theorem len_sum {zs : List Int} {m n : Int} {p : Nat} (h : Is 4294967296 zs (m + n)) (hm : m < 4294967296 ^ p) (hn : n < 4294967296 ^ p) : zs.length ≤ p + 1 := by
  refine h.len_le (by omega) ?_
  rw [Int.pow_succ]
  have := ipow_pos (B := 4294967296) (by omega) p
  omega
theorem len_prod {zs : List Int} {m n : Int} {p q : Nat} (h : Is 4294967296 zs (m * n)) (hm : 0 ≤ m ∧ m < 4294967296 ^ p) (hn : 0 ≤ n ∧ n < 4294967296 ^ q) : zs.length ≤ p + q := by
  refine h.len_le (by omega) ?_
  rw [Int.pow_add]
  have h1 : m * n ≤ m * 4294967296 ^ q := Int.mul_le_mul_of_nonneg_left (by omega) hm.1
  have h2 : m * 4294967296 ^ q < 4294967296 ^ p * 4294967296 ^ q := Int.mul_lt_mul_of_pos_right hm.2 (ipow_pos (by omega) q)
  omega

theorem nAdd_is (p : Nat) (a : Option Addr) (la ca : Nat) (za : List Int) (m : Int) (b : Option Addr) (lb cb : Nat) (zb : List Int) (n : Int) (w : World)
    (ha : Row .u32 w a la ca za) (ia : Is 4294967296 za m) (hb : Row .u32 w b lb cb zb) (ib : Is 4294967296 zb n) (hp : p ≤ 1000) (h1 : la ≤ p) (h2 : lb ≤ p) :
    Calls Try.prog 48 #[.slice a la ca, .slice b lb cb] w (GivesL w (p + 1) (m + n)) := by
  refine (nAdd_any a la ca za b lb cb zb w ha ia.1 hb ib.1 (by omega) (by omega)).mono ?_
  rintro e w' ⟨a', l, c, r, rfl, hr, hi, hbl, _⟩
  rw [ia.2.2, ib.2.2] at hi
  exact ⟨a', l, c, r, rfl, hr, hi, by rw [← hr.len]; exact len_sum hi (is_lt ia (by rw [ha.len]; exact h1)).2 (is_lt ib (by rw [hb.len]; exact h2)).2, hbl⟩
theorem nMul_is (p q : Nat) (a : Option Addr) (la ca : Nat) (za : List Int) (m : Int) (b : Option Addr) (lb cb : Nat) (zb : List Int) (n : Int) (w : World)
    (ha : Row .u32 w a la ca za) (ia : Is 4294967296 za m) (hb : Row .u32 w b lb cb zb) (ib : Is 4294967296 zb n) (hp : p ≤ 1000) (hq : q ≤ 1000) (h1 : la ≤ p) (h2 : lb ≤ q) :
    Calls Try.prog 35 #[.slice a la ca, .slice b lb cb] w (GivesL w (p + q) (m * n)) := by
  refine (nMul_any a la ca za b lb cb zb w ha ia.1 hb ib.1 (by omega) (by omega)).mono ?_
  rintro e w' ⟨a', l, c, r, rfl, hr, hi, hbl, _⟩
  rw [ia.2.2, ib.2.2] at hi
  exact ⟨a', l, c, r, rfl, hr, hi, by rw [← hr.len]; exact len_prod hi (is_lt ia (by rw [ha.len]; exact h1)) (is_lt ib (by rw [hb.len]; exact h2)), hbl⟩
theorem nOf_is (n : Int) (w : World) (n0 : 0 ≤ n) (n1 : n ≤ 18446744073709551615) :
    Calls Try.prog 44 #[.int .u64 n] w (GivesL w 2 n) := by
  refine (nOf_any n w n0 n1).mono ?_
  rintro e w' ⟨a', l, c, r, rfl, hr, hi, hbl, _⟩
  exact ⟨a', l, c, r, rfl, hr, hi, by rw [← hr.len]; exact hi.len_le (by omega) (by rw [show (4294967296 : Int) ^ 2 = 18446744073709551616 by decide +kernel]; omega), hbl⟩
theorem below_drewN (w : World) (k : Nat) : Below w.heap.size w (w.drewN k) := ⟨rfl, rfl, rfl, Nat.le_refl _, fun _ _ => rfl⟩
theorem nCmp_is (a : Option Addr) (la ca : Nat) (za : List Int) (m : Int) (b : Option Addr) (lb cb : Nat) (zb : List Int) (n : Int) (w : World)
    (ha : Row .u32 w a la ca za) (ia : Is 4294967296 za m) (hb : Row .u32 w b lb cb zb) (ib : Is 4294967296 zb n) (k : Int) (hk : cmpI m n = k) :
    Calls Try.prog 34 #[.slice a la ca, .slice b lb cb] w fun e w' => e = .returned (.int .i64 k) ∧ Below w.heap.size w w' := by
  refine (nCmp_any a la ca za b lb cb zb w ha ia.1 hb ib.1).mono ?_
  rintro e w' ⟨rfl, k, rfl⟩
  rw [ia.2.2, ib.2.2, hk]
  exact ⟨rfl, below_drewN w _⟩
theorem same_is (a : Option Addr) (la ca : Nat) (za : List Int) (m : Int) (b : Option Addr) (lb cb : Nat) (zb : List Int) (n : Int) (w : World) (r : Bool)
    (ha : Row .u32 w a la ca za) (ia : Is 4294967296 za m) (hb : Row .u32 w b lb cb zb) (ib : Is 4294967296 zb n) (hr : r = true ↔ m = n) :
    Calls Try.prog 46 #[.slice a la ca, .slice b lb cb] w fun e w' => e = .returned (.bool r) ∧ Below w.heap.size w w' := by
  refine (same_any a la ca za b lb cb zb w r ha hb (hr.trans ⟨fun e => ?_, fun e => ?_⟩)).mono ?_
  · subst e; exact is_unique (by omega) ia ib
  · subst e; rw [← ia.2.2, ← ib.2.2]
  · rintro e w' ⟨rfl, k, rfl⟩
    exact ⟨rfl, below_drewN w _⟩
theorem same_yes (a : Option Addr) (la ca : Nat) (za : List Int) (m : Int) (b : Option Addr) (lb cb : Nat) (zb : List Int) (n : Int) (w : World)
    (ha : Row .u32 w a la ca za) (ia : Is 4294967296 za m) (hb : Row .u32 w b lb cb zb) (ib : Is 4294967296 zb n) (hr : m = n) :
    Calls Try.prog 46 #[.slice a la ca, .slice b lb cb] w fun e w' => e = .returned (.bool true) ∧ Below w.heap.size w w' :=
  same_is a la ca za m b lb cb zb n w true ha ia hb ib ⟨fun _ => hr, fun _ => rfl⟩
theorem nCheck_yes (a : Option Addr) (la ca : Nat) (za : List Int) (m : Int) (w : World) (ha : Row .u32 w a la ca za) (ia : Is 4294967296 za m) :
    Calls Try.prog 31 #[.slice a la ca] w fun e w' => e = .returned (.bool true) ∧ w = w' :=
  nCheck_any a la ca za w true ha ⟨fun _ => ia.2.1, fun _ => rfl⟩
/-- made, of a slice that came in -/
def Mades (w : World) (a : Option Addr) (cap : Nat) (e : Ending) (w' : World) : Prop :=
  ∃ l zs m, l ≤ 6 ∧ e = .returned (.slice a l cap) ∧ Row .u32 w a l cap zs ∧ Is 4294967296 zs m ∧ w = w'
theorem lit_one (w : World) : Row .u32 (w.alloc (.cells #[.int .u32 1] 38)) (some ⟨w.heap.size, 0, none⟩) 1 1 [1] := by
  obtain ⟨a5, c5, hv5, hrow5, _⟩ := row_of_owns (k := .u32) (zs := [1]) (World.ownsRow_lit (base := w.heap.size) (e := 38) (size := 1) w #[.int .u32 1] 1 (Nat.le_refl _) (by unfold maxLen; omega) rfl)
  simp only [Value.slice.injEq] at hv5
  obtain ⟨rfl, _, rfl⟩ := hv5
  exact hrow5
theorem is_one : Is 4294967296 [1] 1 := ⟨fun z hz => by simp at hz; subst hz; omega, by unfold Top; decide, by simp [val]⟩
theorem below_lit (w : World) (o : Obj) : Below w.heap.size w (w.alloc o) := (Below.refl _ _).alloc (Nat.le_refl _) _
theorem cmpI_neg (m n : Int) : cmpI n m = - cmpI m n := by
  rcases Int.lt_trichotomy m n with g | g | g
  · rw [cmpI_lt g, cmpI_gt g]; rfl
  · rw [cmpI_eq g, cmpI_eq g.symm]; rfl
  · rw [cmpI_gt g, cmpI_lt g]
theorem cmpI_add (m n c : Int) : cmpI (m + c) (n + c) = cmpI m n := by
  rcases Int.lt_trichotomy m n with g | g | g
  · rw [cmpI_lt g, cmpI_lt (by omega)]
  · rw [cmpI_eq g, cmpI_eq (by omega)]
  · rw [cmpI_gt g, cmpI_gt (by omega)]
theorem cmpI_mul (m n : Int) {c : Int} (hc : 0 < c) : cmpI (m * c) (n * c) = cmpI m n := by
  rcases Int.lt_trichotomy m n with g | g | g
  · rw [cmpI_lt g, cmpI_lt (Int.mul_lt_mul_of_pos_right g hc)]
  · rw [cmpI_eq g, cmpI_eq (by rw [g])]
  · rw [cmpI_gt g, cmpI_gt (Int.mul_lt_mul_of_pos_right g hc)]
theorem cmpI_zero {m n : Int} : cmpI m n = 0 ↔ m = n := by
  constructor
  · intro h
    rcases Int.lt_trichotomy m n with g | g | g
    · rw [cmpI_lt g] at h; cases h
    · exact g
    · rw [cmpI_gt g] at h; cases h
  · exact cmpI_eq
theorem cmpI_bd (m n : Int) : -1 ≤ cmpI m n ∧ cmpI m n ≤ 1 := by
  rcases Int.lt_trichotomy m n with g | g | g
  · rw [cmpI_lt g]; omega
  · rw [cmpI_eq g]; omega
  · rw [cmpI_gt g]; omega
end Go.Proofs.Ytenibpnifnlfeaa
