/-
  The contracts once more, as the laws want them: by numbers, with the lengths of what is told.
  Sub and Div once more, as the laws want them: one contract each, whichever way it goes.
  Parse, Text and Of once more, as the laws want them; every number has its decimal digits.
  Texts of numbers: they are read back; a 0 ahead, or nothing, is none; their order is the numbers' order. No Go in sight.
  The order of texts of numbers is the numbers' order. No Go in sight.
-/
import Derived.Test.YtnlgophgglgneaaNatB
namespace Go.Proofs.Ytnlgophgglgneaa
open Go.RowKit

/-- a row of at most L limbs that is the number n; nothing that was there is written -/
def GivesL (w : World) (L : Nat) (n : Int) (e : Ending) (w' : World) : Prop :=
  ∃ a len cap zs, e = .returned (.slice a len cap) ∧ Row .u32 w' a len cap zs ∧ Is 4294967296 zs n ∧ len ≤ L ∧ Below w.heap.size w w'

theorem is_lt {zs : List Int} {n : Int} {p : Nat} (h : Is 4294967296 zs n) (hl : zs.length ≤ p) : 0 ≤ n ∧ n < 4294967296 ^ p := by
  have h1 := val_lt (by omega) h.1
  rw [h.2.2] at h1
  have h2 := ipow_le (B := 4294967296) (by omega) hl
  exact ⟨h.nonneg (by omega), by omega⟩
theorem len_sum {zs : List Int} {m n : Int} {p : Nat} (h : Is 4294967296 zs (m + n)) (hm : m < 4294967296 ^ p) (hn : n < 4294967296 ^ p) : zs.length ≤ p + 1 := by
  refine h.len_le (by omega) ?_
  rw [Int.pow_succ]
  have := ipow_pos (B := 4294967296) (by omega) p
  omega
theorem len_prod {zs : List Int} {m n : Int} {p q : Nat} (h : Is 4294967296 zs (m * n)) (hm : 0 ≤ m ∧ m < 4294967296 ^ p) (hn : 0 ≤ n ∧ n < 4294967296 ^ q) : zs.length ≤ p + q := by
  refine h.len_le (by omega) ?_
  rw [Int.pow_add]
  have h1 : m * n ≤ m * 4294967296 ^ q := Int.mul_le_mul_of_nonneg_left (by omega) hm.1
  have h2 : m * 4294967296 ^ q < 4294967296 ^ p * 4294967296 ^ q := Int.mul_lt_mul_of_pos_right hm.2 (ipow_pos (by omega) q)
  omega

theorem nAdd_is (p : Nat) (a : Option Addr) (la ca : Nat) (za : List Int) (m : Int) (b : Option Addr) (lb cb : Nat) (zb : List Int) (n : Int) (w : World)
    (ha : Row .u32 w a la ca za) (ia : Is 4294967296 za m) (hb : Row .u32 w b lb cb zb) (ib : Is 4294967296 zb n) (hp : p ≤ 1000) (h1 : la ≤ p) (h2 : lb ≤ p) :
    Calls Try.prog 105 #[.slice a la ca, .slice b lb cb] w (GivesL w (p + 1) (m + n)) := by
  refine (nAdd_any a la ca za b lb cb zb w ha ia.1 hb ib.1 (by omega) (by omega)).mono ?_
  rintro e w' ⟨a', l, c, r, rfl, hr, hi, hbl, _⟩
  rw [ia.2.2, ib.2.2] at hi
  exact ⟨a', l, c, r, rfl, hr, hi, by rw [← hr.len]; exact len_sum hi (is_lt ia (by rw [ha.len]; exact h1)).2 (is_lt ib (by rw [hb.len]; exact h2)).2, hbl⟩
theorem nMul_is (p q : Nat) (a : Option Addr) (la ca : Nat) (za : List Int) (m : Int) (b : Option Addr) (lb cb : Nat) (zb : List Int) (n : Int) (w : World)
    (ha : Row .u32 w a la ca za) (ia : Is 4294967296 za m) (hb : Row .u32 w b lb cb zb) (ib : Is 4294967296 zb n) (hp : p ≤ 1000) (hq : q ≤ 1000) (h1 : la ≤ p) (h2 : lb ≤ q) :
    Calls Try.prog 114 #[.slice a la ca, .slice b lb cb] w (GivesL w (p + q) (m * n)) := by
  refine (nMul_any a la ca za b lb cb zb w ha ia.1 hb ib.1 (by omega) (by omega)).mono ?_
  rintro e w' ⟨a', l, c, r, rfl, hr, hi, hbl, _⟩
  rw [ia.2.2, ib.2.2] at hi
  exact ⟨a', l, c, r, rfl, hr, hi, by rw [← hr.len]; exact len_prod hi (is_lt ia (by rw [ha.len]; exact h1)) (is_lt ib (by rw [hb.len]; exact h2)), hbl⟩
theorem nOf_is (n : Int) (w : World) (n0 : 0 ≤ n) (n1 : n ≤ 18446744073709551615) :
    Calls Try.prog 79 #[.int .u64 n] w (GivesL w 2 n) := by
  refine (nOf_any n w n0 n1).mono ?_
  rintro e w' ⟨a', l, c, r, rfl, hr, hi, hbl, _⟩
  exact ⟨a', l, c, r, rfl, hr, hi, by rw [← hr.len]; exact hi.len_le (by omega) (by rw [show (4294967296 : Int) ^ 2 = 18446744073709551616 by decide +kernel]; omega), hbl⟩
theorem below_drewN (w : World) (k : Nat) : Below w.heap.size w (w.drewN k) := ⟨rfl, rfl, rfl, Nat.le_refl _, fun _ _ => rfl⟩
theorem nCmp_is (a : Option Addr) (la ca : Nat) (za : List Int) (m : Int) (b : Option Addr) (lb cb : Nat) (zb : List Int) (n : Int) (w : World)
    (ha : Row .u32 w a la ca za) (ia : Is 4294967296 za m) (hb : Row .u32 w b lb cb zb) (ib : Is 4294967296 zb n) (k : Int) (hk : cmpI m n = k) :
    Calls Try.prog 130 #[.slice a la ca, .slice b lb cb] w fun e w' => e = .returned (.int .i64 k) ∧ Below w.heap.size w w' := by
  refine (nCmp_any a la ca za b lb cb zb w ha ia.1 hb ib.1).mono ?_
  rintro e w' ⟨rfl, k, rfl⟩
  rw [ia.2.2, ib.2.2, hk]
  exact ⟨rfl, below_drewN w _⟩
theorem nCheck_yes (a : Option Addr) (la ca : Nat) (za : List Int) (m : Int) (w : World) (ha : Row .u32 w a la ca za) (ia : Is 4294967296 za m) :
    Calls Try.prog 111 #[.slice a la ca] w fun e w' => e = .returned (.bool true) ∧ w = w' :=
  nCheck_any a la ca za w true ha ⟨fun _ => ia.2.1, fun _ => rfl⟩
/-- made, of a slice that came in -/
def Mades (w : World) (a : Option Addr) (cap : Nat) (e : Ending) (w' : World) : Prop :=
  ∃ l zs m, l ≤ 6 ∧ e = .returned (.slice a l cap) ∧ Row .u32 w a l cap zs ∧ Is 4294967296 zs m ∧ w = w'
theorem lit_one (w : World) : Row .u32 (w.alloc (.cells #[.int .u32 1] 107)) (some ⟨w.heap.size, 0, none⟩) 1 1 [1] := by
  obtain ⟨a5, c5, hv5, hrow5, _⟩ := row_of_owns (k := .u32) (zs := [1]) (World.ownsRow_lit (base := w.heap.size) (e := 107) (size := 1) w #[.int .u32 1] 1 (Nat.le_refl _) (by unfold maxLen; omega) rfl)
  simp only [Value.slice.injEq] at hv5
  obtain ⟨rfl, _, rfl⟩ := hv5
  exact hrow5
theorem is_one : Is 4294967296 [1] 1 := ⟨fun z hz => by simp at hz; subst hz; omega, by unfold Top; decide, by simp [val]⟩
theorem below_lit (w : World) (o : Obj) : Below w.heap.size w (w.alloc o) := (Below.refl _ _).alloc (Nat.le_refl _) _
theorem cmpI_neg (m n : Int) : cmpI n m = - cmpI m n := by
  rcases Int.lt_trichotomy m n with g | g | g
  · rw [cmpI_lt g, cmpI_gt g]; rfl
  · rw [cmpI_eq g, cmpI_eq g.symm]; rfl
  · rw [cmpI_gt g, cmpI_lt g]
theorem cmpI_add (m n c : Int) : cmpI (m + c) (n + c) = cmpI m n := by
  rcases Int.lt_trichotomy m n with g | g | g
  · rw [cmpI_lt g, cmpI_lt (by omega)]
  · rw [cmpI_eq g, cmpI_eq (by omega)]
  · rw [cmpI_gt g, cmpI_gt (by omega)]
theorem cmpI_mul (m n : Int) {c : Int} (hc : 0 < c) : cmpI (m * c) (n * c) = cmpI m n := by
  rcases Int.lt_trichotomy m n with g | g | g
  · rw [cmpI_lt g, cmpI_lt (Int.mul_lt_mul_of_pos_right g hc)]
  · rw [cmpI_eq g, cmpI_eq (by rw [g])]
  · rw [cmpI_gt g, cmpI_gt (Int.mul_lt_mul_of_pos_right g hc)]
theorem cmpI_zero {m n : Int} : cmpI m n = 0 ↔ m = n := by
  constructor
  · intro h
    rcases Int.lt_trichotomy m n with g | g | g
    · rw [cmpI_lt g] at h; cases h
    · exact g
    · rw [cmpI_gt g] at h; cases h
  · exact cmpI_eq
theorem cmpI_bd (m n : Int) : -1 ≤ cmpI m n ∧ cmpI m n ≤ 1 := by
  rcases Int.lt_trichotomy m n with g | g | g
  · rw [cmpI_lt g]; omega
  · rw [cmpI_eq g]; omega
  · rw [cmpI_gt g]; omega
end Go.Proofs.Ytnlgophgglgneaa
namespace Go.Proofs.Ytnlgophgglgneaa
open Go.RowKit

def GivesT (w : World) (n er : Int) (e : Ending) (w' : World) : Prop :=
  ∃ a len cap zs, e = .returned (.tuple #[.slice a len cap, .int .i64 er]) ∧ Row .u32 w' a len cap zs ∧ Is 4294967296 zs n ∧ Below w.heap.size w w'
def Subs (m n t er : Int) : Prop := (m < n ∧ t = 0 ∧ er = 16) ∨ (n ≤ m ∧ t = m - n ∧ er = 0)
def Divs (m d q r er : Int) : Prop := (d = 0 ∧ q = 0 ∧ r = 0 ∧ er = 17) ∨ (0 < d ∧ q = m / d ∧ r = m % d ∧ er = 0)
theorem subs_ex (m n : Int) : ∃ t er, Subs m n t er := by
  rcases Int.lt_or_le m n with h | h
  · exact ⟨_, _, .inl ⟨h, rfl, rfl⟩⟩
  · exact ⟨_, _, .inr ⟨h, rfl, rfl⟩⟩
theorem divs_ex (m : Int) {d : Int} (h : 0 ≤ d) : ∃ q r er, Divs m d q r er := by
  rcases Int.lt_or_eq_of_le h with h | h
  · exact ⟨_, _, _, .inr ⟨h, rfl, rfl, rfl⟩⟩
  · exact ⟨_, _, _, .inl ⟨h.symm, rfl, rfl, rfl⟩⟩
theorem nSub_is (a : Option Addr) (la ca : Nat) (za : List Int) (m : Int) (b : Option Addr) (lb cb : Nat) (zb : List Int) (n : Int) (w : World)
    (ha : Row .u32 w a la ca za) (ia : Is 4294967296 za m) (hb : Row .u32 w b lb cb zb) (ib : Is 4294967296 zb n) (la6 : la ≤ 1000) (t er : Int) (h : Subs m n t er) :
    Calls Try.prog 131 #[.slice a la ca, .slice b lb cb] w (GivesT w t er) := by
  rcases h with ⟨h, rfl, rfl⟩ | ⟨h, rfl, rfl⟩
  · refine (nSub_lt a la ca za b lb cb zb w ha ia.1 hb ib.1 (by rw [ia.2.2, ib.2.2]; exact h)).mono ?_
    rintro e w' ⟨rfl, hbl⟩
    exact ⟨none, 0, 0, [], rfl, Row.nil, is_nil, hbl⟩
  · refine (nSub_ge a la ca za m b lb cb zb n w ha ia hb ib h (by omega)).mono ?_
    rintro e w' ⟨a', l, c, r, rfl, hr, hi, _, hbl⟩
    exact ⟨a', l, c, r, rfl, hr, hi, hbl⟩
def GivesD (w : World) (q r er : Int) (e : Ending) (w' : World) : Prop :=
  ∃ a len cap zs, e = .returned (.tuple #[.slice a len cap, .int .u32 r, .int .i64 er]) ∧ Row .u32 w' a len cap zs ∧ Is 4294967296 zs q ∧ Below w.heap.size w w'
theorem nDiv_is (a : Option Addr) (la ca : Nat) (za : List Int) (m d : Int) (w : World) (ha : Row .u32 w a la ca za) (ia : Is 4294967296 za m) (la6 : la ≤ 1000) (d1 : d < 4294967296) (q r er : Int) (h : Divs m d q r er) :
    Calls Try.prog 124 #[.slice a la ca, .int .u32 d] w (GivesD w q r er) := by
  rcases h with ⟨rfl, rfl, rfl, rfl⟩ | ⟨h, rfl, rfl, rfl⟩
  · refine (nDiv_zero a la ca w).mono ?_
    rintro e w' ⟨rfl, rfl⟩
    exact ⟨none, 0, 0, [], rfl, Row.nil, is_nil, Below.refl _ _⟩
  · refine (nDiv_pos a la ca za d w ha ia.1 (by omega) h d1).mono ?_
    rintro e w' ⟨a', l, c, z, rfl, hr, hi, _, hbl⟩
    rw [ia.2.2] at hi ⊢
    exact ⟨a', l, c, z, rfl, hr, hi, hbl⟩
theorem Add_is (a : Option Addr) (la ca : Nat) (za : List Int) (m : Int) (b : Option Addr) (lb cb : Nat) (zb : List Int) (n : Int) (w : World)
    (ha : Row .u32 w a la ca za) (ia : Is 4294967296 za m) (hb : Row .u32 w b lb cb zb) (ib : Is 4294967296 zb n) (la5 : la ≤ 50) (lb5 : lb ≤ 50) :
    Calls Try.prog 58 #[.slice a la ca, .slice b lb cb] w (GivesL w 1000000 (m + n)) := by
  refine (Add_any a la ca za m b lb cb zb n w ha ia hb ib la5 lb5).mono ?_
  rintro e w' ⟨a', l, c, r, rfl, hr, hi, hbl, _⟩
  exact ⟨a', l, c, r, rfl, hr, hi, by have := len_sum hi (is_lt ia (p := 50) (by rw [ha.len]; exact la5)).2 (is_lt ib (p := 50) (by rw [hb.len]; exact lb5)).2; rw [← hr.len]; omega, hbl⟩
theorem Mul_is (a : Option Addr) (la ca : Nat) (za : List Int) (m : Int) (b : Option Addr) (lb cb : Nat) (zb : List Int) (n : Int) (w : World)
    (ha : Row .u32 w a la ca za) (ia : Is 4294967296 za m) (hb : Row .u32 w b lb cb zb) (ib : Is 4294967296 zb n) (la5 : la ≤ 50) (lb5 : lb ≤ 50) :
    Calls Try.prog 57 #[.slice a la ca, .slice b lb cb] w (GivesL w 1000000 (m * n)) := by
  refine (Mul_any a la ca za m b lb cb zb n w ha ia hb ib la5 lb5).mono ?_
  rintro e w' ⟨a', l, c, r, rfl, hr, hi, hbl, _⟩
  exact ⟨a', l, c, r, rfl, hr, hi, by have := len_prod hi (is_lt ia (p := 50) (by rw [ha.len]; exact la5)) (is_lt ib (p := 50) (by rw [hb.len]; exact lb5)); rw [← hr.len]; omega, hbl⟩
end Go.Proofs.Ytnlgophgglgneaa
namespace Go.Proofs.Ytnlgophgglgneaa
open Go.RowKit

theorem dec_ex (k : Nat) : ∀ n : Nat, n ≤ k → ∃ dd, Is 10 dd (n : Int) := by
  induction k with
  | zero =>
    intro n hn
    obtain rfl : n = 0 := (by omega)
    exact ⟨[], is_nil⟩
  | succ k ih =>
    intro n hn
    by_cases h0 : n = 0
    · subst h0; exact ⟨[], is_nil⟩
    · obtain ⟨r, hr⟩ := ih (n / 10) (by omega)
      refine ⟨((n % 10 : Nat) : Int) :: r, ?_, ?_, ?_⟩
      · intro z hz
        rw [List.mem_cons] at hz
        rcases hz with rfl | hz
        · omega
        · exact hr.1 z hz
      · cases r with
        | nil =>
          have : ((n / 10 : Nat) : Int) = 0 := hr.2.2.symm
          unfold Top
          simp
          omega
        | cons x l =>
          have := hr.2.1
          simpa [Top, List.getLast?_cons_cons] using this
      · rw [val, hr.2.2]; omega
theorem dec_of {m : Int} (h : 0 ≤ m) : ∃ dd, Is 10 dd m := by
  obtain ⟨n, rfl⟩ := Int.eq_ofNat_of_zero_le h
  exact dec_ex n n (Nat.le_refl _)

def Reads (l : List UInt8) (n er : Int) : Prop := (GoodS l ∧ n = val 10 (numL l) ∧ er = 0) ∨ (¬ GoodS l ∧ n = 0 ∧ er = 10)
theorem reads_ex (l : List UInt8) : ∃ n er, Reads l n er := by
  by_cases h : GoodS l
  · exact ⟨_, _, .inl ⟨h, rfl, rfl⟩⟩
  · exact ⟨_, _, .inr ⟨h, rfl, rfl⟩⟩
theorem Of_is (n : Int) (w : World) (n0 : 0 ≤ n) (n1 : n ≤ 18446744073709551615) :
    Calls Try.prog 55 #[.int .u64 n] w (GivesL w 1000000 n) := by
  refine (of_any n w n0 n1).mono ?_
  rintro e w' ⟨a', l, c, r, rfl, hr, hi, hbl, _⟩
  exact ⟨a', l, c, r, rfl, hr, hi, by have := hi.len_le (L := 2) (by omega) (by rw [show (4294967296 : Int) ^ 2 = 18446744073709551616 by decide +kernel]; omega); rw [← hr.len]; omega, hbl⟩
theorem bool_ex (p : Prop) : ∃ r : Bool, r = true ↔ p := by
  by_cases h : p
  · exact ⟨true, ⟨fun _ => h, fun _ => rfl⟩⟩
  · exact ⟨false, ⟨fun e => (by cases e), fun e => absurd e h⟩⟩
end Go.Proofs.Ytnlgophgglgneaa
namespace Go.Proofs.Ytnlgophgglgneaa
open Go.RowKit

theorem byteD_digB {d : Int} (h0 : 0 ≤ d) (h1 : d < 10) : byteD (digB d) = d := by
  unfold byteD
  rw [digB_toNat h0 h1]
  omega
theorem map_back {dd : List Int} (h : Digs 10 dd) : (dd.map digB).map byteD = dd := by
  induction dd with
  | nil => rfl
  | cons d r ih => rw [List.map_cons, List.map_cons, ih h.tail, byteD_digB h.head.1 h.head.2]
theorem rev_map (dd : List Int) : (dd.reverse.map digB).reverse = dd.map digB := by simp
theorem numL_text {dd : List Int} (h : Digs 10 dd) (hne : dd ≠ []) : numL (textL dd) = dd := by
  unfold numL textL
  rw [if_neg hne, rev_map, map_back h]
/-- the digits that a text shows: one 0 of 0 -/
def shown (dd : List Int) : List Int := if dd = [] then [0] else dd
theorem textL_shown (dd : List Int) : textL dd = (shown dd).reverse.map digB := by
  unfold textL shown
  by_cases h : dd = []
  · rw [if_pos h, if_pos h]; rfl
  · rw [if_neg h, if_neg h]
theorem shown_digs {dd : List Int} (h : Digs 10 dd) : Digs 10 (shown dd) := by
  unfold shown
  by_cases e : dd = []
  · rw [if_pos e]; intro z hz; simp at hz; subst hz; omega
  · rw [if_neg e]; exact h
theorem shown_val {dd : List Int} {m : Int} (h : Is 10 dd m) : val 10 (shown dd) = m := by
  unfold shown
  by_cases e : dd = []
  · rw [if_pos e]; subst e; have := h.2.2; simp [val] at this ⊢; exact this
  · rw [if_neg e]; exact h.2.2
theorem shown_ne (dd : List Int) : shown dd ≠ [] := by
  unfold shown
  by_cases e : dd = []
  · rw [if_pos e]; simp
  · rw [if_neg e]; exact e
theorem text_len (dd : List Int) : (textL dd).length = (shown dd).length := by rw [textL_shown]; simp
theorem text_val {dd : List Int} {m : Int} (h : Is 10 dd m) : val 10 (numL (textL dd)) = m := by
  rw [textL_shown]
  unfold numL
  rw [rev_map, map_back (shown_digs h.1)]
  exact shown_val h
theorem text_good {dd : List Int} {m : Int} (h : Is 10 dd m) : GoodS (textL dd) := by
  refine ⟨?_, ?_, ?_⟩
  · intro e
    have := text_len dd
    rw [e] at this
    exact shown_ne dd (List.length_eq_zero_iff.mp this.symm)
  · intro c hc
    rw [textL_shown, List.mem_map] at hc
    obtain ⟨d, hd, rfl⟩ := hc
    have h1 := shown_digs h.1 d (List.mem_reverse.mp hd)
    have h2 := digB_toNat h1.1 h1.2
    omega
  · rintro ⟨h1, h2⟩
    have hne : dd ≠ [] := by
      intro e
      subst e
      rw [text_len] at h2
      simp [shown] at h2
    unfold textL at h1
    rw [if_neg hne, List.head?_map, List.head?_reverse] at h1
    cases hl : dd.getLast? with
    | none => rw [hl] at h1; simp at h1
    | some d =>
      rw [hl] at h1
      have h3 := h.1 d (List.mem_of_getLast? hl)
      have h4 := digB_toNat h3.1 h3.2
      simp at h1
      rw [h1] at h4
      have : d = 0 := by
        have h5 : ((48 : UInt8).toNat : Int) = 48 := rfl
        omega
      subst this
      exact h.2.1 hl
theorem text_short {dd : List Int} {m : Int} (h : Is 10 dd m) (hm : m < 4294967296 ^ 6) : (textL dd).length ≤ 100 := by
  have h1 : (4294967296 : Int) ^ 6 ≤ 10 ^ 58 := by decide +kernel
  have h2 := h.len_le (L := 58) (by omega) (by omega)
  rw [text_len]
  unfold shown
  by_cases e : dd = []
  · rw [if_pos e]; simp
  · rw [if_neg e]; omega
theorem str_short {S : ByteArray} {dd : List Int} {m : Int} (hS : S.data.toList = textL dd) (h : Is 10 dd m) (hm : m < 4294967296 ^ 6) : S.size ≤ 100 := by
  have h1 : S.data.toList.length = S.size := by simp
  rw [← h1, hS]
  exact text_short h hm
theorem zero_bad (l : List UInt8) (h : l ≠ []) : ¬ GoodS (48 :: l) := fun g => g.2.2 ⟨rfl, by
  cases l with
  | nil => exact absurd rfl h
  | cons => simp⟩
theorem nil_bad : ¬ GoodS [] := fun g => g.1 rfl
end Go.Proofs.Ytnlgophgglgneaa
namespace Go.Proofs.Ytnlgophgglgneaa
open Go.RowKit

theorem digB_lt {a b : Int} (a0 : 0 ≤ a) (a1 : a < 10) (b0 : 0 ≤ b) (b1 : b < 10) : digB a < digB b ↔ a < b := by
  have h1 := digB_toNat a0 a1
  have h2 := digB_toNat b0 b1
  rw [UInt8.lt_iff_toNat_lt]
  omega
theorem digB_eq {a b : Int} (a0 : 0 ≤ a) (a1 : a < 10) (b0 : 0 ≤ b) (b1 : b < 10) : digB a = digB b ↔ a = b := by
  have h1 := digB_toNat a0 a1
  have h2 := digB_toNat b0 b1
  rw [← UInt8.toNat_inj]
  omega
theorem lead_lt {P u v a b : Int} (hP : 0 < P) (u1 : u < P) (v0 : 0 ≤ v) (h : a < b) : u + P * a < v + P * b := by
  have : P * (a + 1) ≤ P * b := Int.mul_le_mul_of_nonneg_left (by omega) (by omega)
  rw [Int.mul_add] at this
  omega
theorem digs_rev {x : List Int} (h : Digs 10 x) : Digs 10 x.reverse := fun z hz => h z (List.mem_reverse.mp hz)
theorem val_lead (d : Int) (x : List Int) : val 10 (d :: x).reverse = val 10 x.reverse + 10 ^ x.length * d := by
  rw [List.reverse_cons, val_append, List.length_reverse]
  simp [val]
theorem lex_text : ∀ {x y : List Int}, x.length = y.length → Digs 10 x → Digs 10 y → Op.bytesLess (x.map digB) (y.map digB) = decide (val 10 x.reverse < val 10 y.reverse)
  | [], [], _, _, _ => by simp [Op.bytesLess, val]
  | [], _ :: _, h, _, _ => by simp at h
  | _ :: _, [], h, _, _ => by simp at h
  | a :: x, b :: y, h, dx, dy => by
    have hl : x.length = y.length := by simpa using h
    have ih := lex_text hl dx.tail dy.tail
    have hP := ipow_pos (B := 10) (by omega) x.length
    have x0 := val_nonneg (by omega) (digs_rev dx.tail)
    have x1 := val_lt (by omega) (digs_rev dx.tail)
    have y0 := val_nonneg (by omega) (digs_rev dy.tail)
    have y1 := val_lt (by omega) (digs_rev dy.tail)
    rw [List.length_reverse] at x1 y1
    rw [← hl] at y1
    rw [val_lead, val_lead, ← hl, List.map_cons, List.map_cons, Op.bytesLess, ih]
    have e1 := digB_lt dx.head.1 dx.head.2 dy.head.1 dy.head.2
    have e2 := digB_eq dx.head.1 dx.head.2 dy.head.1 dy.head.2
    rcases Int.lt_trichotomy a b with g | g | g
    · have h1 := lead_lt hP x1 y0 g
      rw [decide_eq_true h1, decide_eq_true (e1.mpr g)]; rfl
    · subst g
      rw [decide_eq_false (show ¬ digB a < digB a from fun k => by have := e1.mp k; omega), beq_self_eq_true, Bool.false_or, Bool.true_and]
      congr 1
      apply propext
      constructor <;> intro k <;> omega
    · have h1 := lead_lt hP y1 x0 g
      rw [decide_eq_false (show ¬ val 10 x.reverse + 10 ^ x.length * a < val 10 y.reverse + 10 ^ x.length * b by omega), decide_eq_false (show ¬ digB a < digB b from fun k => by have := e1.mp k; omega)]
      have : (digB a == digB b) = false := by rw [beq_eq_false_iff_ne]; intro k; have := e2.mp k; omega
      rw [this]; rfl
theorem text_lex {da db : List Int} {m n : Int} (ha : Is 10 da m) (hb : Is 10 db n) (hl : (textL da).length = (textL db).length) : Op.bytesLess (textL da) (textL db) = decide (m < n) := by
  rw [text_len, text_len] at hl
  rw [textL_shown, textL_shown, lex_text (by rw [List.length_reverse, List.length_reverse]; exact hl) (digs_rev (shown_digs ha.1)) (digs_rev (shown_digs hb.1)), List.reverse_reverse, List.reverse_reverse, shown_val ha, shown_val hb]
theorem text_longer {da db : List Int} {m n : Int} (ha : Is 10 da m) (hb : Is 10 db n) (hl : (textL da).length < (textL db).length) : m < n := by
  rw [text_len, text_len] at hl
  have h1 : shown db = db := by
    unfold shown at hl ⊢
    by_cases e : db = []
    · rw [if_pos e] at hl
      by_cases e' : da = []
      · rw [if_pos e'] at hl; simp at hl
      · rw [if_neg e'] at hl
        simp at hl
        exact absurd hl e'
    · rw [if_neg e]
  rw [h1] at hl
  have h2 := val_lt (by omega) (shown_digs ha.1)
  rw [shown_val ha] at h2
  have h3 := Is.pow_le (by omega) hb (fun e => by rw [e] at hl; simp at hl)
  have h4 := ipow_le (B := 10) (by omega) (show (shown da).length ≤ db.length - 1 by omega)
  omega
theorem text_same {da db : List Int} {m : Int} (ha : Is 10 da m) (hb : Is 10 db m) : textL da = textL db := by rw [is_unique (by omega) ha hb]
theorem text_other {da db : List Int} {m n : Int} (ha : Is 10 da m) (hb : Is 10 db n) (h : m ≠ n) : textL da ≠ textL db := fun e => h (by rw [← text_val ha, ← text_val hb, e])
end Go.Proofs.Ytnlgophgglgneaa
