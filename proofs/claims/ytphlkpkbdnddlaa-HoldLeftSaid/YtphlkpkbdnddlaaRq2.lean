/-
  What package ratio's limb and guess give back: contracts.
  What package ratio's short, number, below and step give back: contracts.
  What package ratio's step gives back: contract.
  What package ratio's divide and part give back: contracts.
  What package exact's Gcd and package ratio's common give back: contracts.
-/
import Derived.Test.YtphlkpkbdnddlaaRq1
import Derived.Deep.LoopGhost
namespace Go.Proofs.Ytphlkpkbdnddlaa
open Go.RowKit

theorem div64_any (hi lo y : Int) (w : World) (y0 : 9223372036854775808 ≤ y) (y1 : y ≤ 18446744073709551615) (h0 : 0 ≤ hi) (h1 : hi < y) (l0 : 0 ≤ lo) (l1 : lo ≤ 18446744073709551615) :
    Calls Try.prog 97 #[.int .u64 hi, .int .u64 lo, .int .u64 y] w (Quo64 w ((hi * 18446744073709551616 + lo) / y)) := by
  rcases Int.lt_or_le 0 hi with g | g
  · exact div64_up hi lo y w y0 y1 g h1 l0 l1
  · obtain rfl : hi = 0 := by omega
    rw [show (0 : Int) * 18446744073709551616 + lo = lo by omega]
    exact div64_low lo y w y0 y1 l0 l1

/-- the limb at i: outside of a number there is 0 -/
def li (zs : List Int) (i : Int) : Int := if i < 0 then 0 else zs.getD i.toNat 0
theorem li_nat (zs : List Int) (i : Nat) : li zs (i : Int) = zs.getD i 0 := by unfold li; rw [if_neg (by omega), Int.toNat_natCast]
theorem li_neg (zs : List Int) {i : Int} (h : i < 0) : li zs i = 0 := if_pos h
theorem rlimb_any (a : Option Addr) (la ca : Nat) (za : List Int) (i : Int) (w : World) (ha : Row .u32 w a la ca za) :
    Calls Try.prog 89 #[.slice a la ca, .int .i64 i] w fun e w' => e = .returned (.int .u32 (li za i)) ∧ w = w' := by
  have HA := Lib.hid ha
  have LA := Lib.hid ha.len
  have ⟨c1, c2⟩ := ha.cap_le
  clear ha
  by_cases n : i < 0
  · have HX := Lib.hid (li_neg za n)
    have bn : decide (i < 0) = true := by simp; omega
    go_enter Try.func89, Try.ntmps89
    go_wp2
    go_ret
    exact ⟨ret_one HX.out.symm, rfl⟩
  · obtain ⟨i, rfl⟩ := Int.eq_ofNat_of_zero_le (show 0 ≤ i by omega)
    have bn : decide ((i : Int) < 0) = false := by simp
    by_cases p : i < la
    · obtain ⟨ba, oa, rfl, hca⟩ := HA.out.cell p
      obtain ⟨x, hx⟩ : ∃ x, za.getD i 0 = x := ⟨_, rfl⟩
      rw [hx] at hca
      have HX := Lib.hid (show li za (i : Int) = x by rw [li_nat, hx])
      clear hx
      have bp : decide (la ≤ i) = false := by simp; omega
      go_enter Try.func89, Try.ntmps89
      go_wp2
      go_ret
      exact ⟨ret_one HX.out.symm, rfl⟩
    · have HX := Lib.hid (show li za (i : Int) = 0 by rw [li_nat]; exact getD_out (zs := za) (i := i) (by rw [LA.out]; omega))
      have bp : decide (la ≤ i) = true := by simp; omega
      go_enter Try.func89, Try.ntmps89
      go_wp2
      go_ret
      exact ⟨ret_one HX.out.symm, rfl⟩

theorem or_up {c B : Int} {up : Nat} (c0 : 0 ≤ c) (B0 : 0 ≤ B) (B1 : B < 2 ^ up) (h : 2 ^ up * c + B < 4294967296) : bits .or .u32 (2 ^ up * c) B = 2 ^ up * c + B := by
  obtain ⟨m, rfl⟩ := Int.eq_ofNat_of_zero_le c0
  obtain ⟨n, rfl⟩ := Int.eq_ofNat_of_zero_le B0
  have kp : (2 : Int) ^ up = ((2 ^ up : Nat) : Int) := by simp
  have B1' : n < 2 ^ up := Int.ofNat_lt.mp (by rw [← kp]; exact B1)
  have h' : 2 ^ up * m + n < 4294967296 := Int.ofNat_lt.mp (by rw [Int.natCast_add, Int.natCast_mul, ← kp]; exact h)
  have e := u32_or_nat (2 ^ up * m) n (by omega) (by omega)
  have e2 : 2 ^ up * m ||| n = 2 ^ up * m + n := by
    have := Nat.shiftLeft_add_eq_or_of_lt (i := up) (b := n) B1' m
    rw [Nat.shiftLeft_eq, Nat.mul_comm] at this
    exact this.symm
  rw [e2] at e
  have k : (2 : Int) ^ up * (m : Int) = ((2 ^ up * m : Nat) : Int) := by simp
  rw [k, e]
  simp
/-- 2^32, by two powers -/
theorem pow_two {up : Nat} (h : up ≤ 31) : (4294967296 : Int) = 2 ^ (32 - up) * 2 ^ up := by
  rw [← Int.pow_add, show 32 - up + up = 32 by omega]; rfl
theorem up_mult {S T z : Int} (hB : 4294967296 = T * S) (hS : 0 < S) : ∃ c, 0 ≤ c ∧ (z * S) % 4294967296 = S * c := by
  refine ⟨z - T * (z * S / 4294967296), ?_, ?_⟩
  · have h0 := Int.emod_nonneg (z * S) (show (4294967296 : Int) ≠ 0 by omega)
    have h1 := Int.emod_def (z * S) 4294967296
    have h2 : 4294967296 * (z * S / 4294967296) = (T * S) * (z * S / 4294967296) := by rw [← hB]
    have h3 : z * S - (T * S) * (z * S / 4294967296) = (z - T * (z * S / 4294967296)) * S := by grind
    rw [h2, h3] at h1
    rw [h1] at h0
    exact Int.nonneg_of_mul_nonneg_left h0 hS
  · have h1 := Int.emod_def (z * S) 4294967296
    have h2 : 4294967296 * (z * S / 4294967296) = (T * S) * (z * S / 4294967296) := by rw [← hB]
    rw [h1, h2]; grind
theorem head_or {za : List Int} {i up : Nat} (da : Digs 4294967296 za) (u1 : up ≤ 31) : IntKind.u64.wrap (bits .or .u32 (li za (i : Int) * 2 ^ up % 4294967296) (li za ((i : Int) - 1) / 2 ^ (32 - up))) = hd (2 ^ up) (2 ^ (32 - up)) za i := by
  have S0 := ipow_pos (B := 2) (by omega) up
  have T0 := ipow_pos (B := 2) (by omega) (32 - up)
  have hB := pow_two u1
  have bd := hd_bd hB S0 T0 za da i
  have y0 := da.getD (by omega) (i - 1)
  have e1 : li za ((i : Int) - 1) / 2 ^ (32 - up) = (if i = 0 then 0 else za.getD (i - 1) 0 / 2 ^ (32 - up)) := by
    by_cases h : i = 0
    · subst h; rw [if_pos rfl, li_neg _ (by omega)]; simp
    · rw [if_neg h, show ((i : Int) - 1) = ((i - 1 : Nat) : Int) by omega, li_nat]
  have q0 : 0 ≤ (if i = 0 then 0 else za.getD (i - 1) 0 / 2 ^ (32 - up)) := by split; omega; exact Int.ediv_nonneg y0.1 (by omega)
  have q1 : (if i = 0 then 0 else za.getD (i - 1) 0 / 2 ^ (32 - up)) < 2 ^ up := by
    split
    · omega
    · exact Int.ediv_lt_of_lt_mul T0 (by rw [Int.mul_comm, ← hB]; exact y0.2)
  rw [li_nat, e1]
  obtain ⟨c, c0, hc⟩ := up_mult (z := za.getD i 0) hB S0
  unfold hd at bd ⊢
  rw [hc] at bd ⊢
  rw [or_up c0 q0 q1 bd.2]
  exact IntWalk.u64_in _ (by omega)
theorem head_any (a : Option Addr) (la ca : Nat) (za : List Int) (i up b : Nat) (w : World) (ha : Row .u32 w a la ca za) (da : Digs 4294967296 za) (u1 : up ≤ 31) (hi : i ≤ 1000000) (hb : w.cell? ⟨b, 0, none⟩ = some (.int .i64 up)) :
    Calls Try.prog 96 #[.slice a la ca, .int .i64 i, .pointer (some ⟨b, 0, none⟩)] w fun e w' => e = .returned (.int .u64 (hd (2 ^ up) (2 ^ (32 - up)) za i)) ∧ ∃ n, w' = w.drewN n := by
  have HA := Lib.hid ha
  clear ha
  have HV := Lib.hid (head_or (i := i) da u1)
  obtain ⟨x, hx⟩ : ∃ x, li za (i : Int) = x := ⟨_, rfl⟩
  obtain ⟨y, hy⟩ : ∃ y, li za ((i : Int) - 1) = y := ⟨_, rfl⟩
  rw [hx, hy] at HV
  have x0 : 0 ≤ x ∧ x < 4294967296 := by rw [← hx, li_nat]; exact da.getD (by omega) i
  have y0 : 0 ≤ y ∧ y < 4294967296 := by
    rw [← hy]
    by_cases h : i = 0
    · subst h; rw [li_neg _ (by omega)]; omega
    · rw [show ((i : Int) - 1) = ((i - 1 : Nat) : Int) by omega, li_nat]; exact da.getD (by omega) (i - 1)
  have wi : IntKind.i64.wrap ((i : Int) - 1) = (i : Int) - 1 := IntWalk.i64_in _ (by omega)
  go_enter Try.func96, Try.ntmps96
  go_wp2
  go_quiet ((go_at_call 89; exact quiet_left (rlimb_any _ _ _ za _ _ (HA.out.drewN _))))
  go_wp2
  go_ret
  exact ⟨ret_one HV.out, _, rfl⟩

/-- a guess that is the part of m by n, or one more -/
def Guesses (w : World) (m n : Int) (e : Ending) (w' : World) : Prop :=
  ∃ q : Int, e = .returned (.int .u64 q) ∧ m / n ≤ q ∧ q ≤ m / n + 1 ∧ Below w.heap.size w w'
theorem head_at (a : Option Addr) (la ca : Nat) (za : List Int) (j : Int) (i up b : Nat) (w : World) (hj : j = (i : Int)) (ha : Row .u32 w a la ca za) (da : Digs 4294967296 za) (u1 : up ≤ 31) (hi : i ≤ 1000000) (hb : w.cell? ⟨b, 0, none⟩ = some (.int .i64 up)) (v : Int) (hv : hd (2 ^ up) (2 ^ (32 - up)) za i = v) :
    Calls Try.prog 96 #[.slice a la ca, .int .i64 j, .pointer (some ⟨b, 0, none⟩)] w fun e w' => e = .returned (.int .u64 v) ∧ ∃ n, w' = w.drewN n := by
  subst hj hv
  exact head_any a la ca za i up b w ha da u1 hi hb
theorem guess_any (a : Option Addr) (la ca : Nat) (za : List Int) (m : Int) (b : Option Addr) (lb cb : Nat) (zb : List Int) (n : Int) (w : World)
    (ha : Row .u32 w a la ca za) (ia : Is 4294967296 za m) (hb : Row .u32 w b lb cb zb) (ib : Is 4294967296 zb n) (l2 : 2 ≤ lb) (l3 : lb ≤ 1000) (hmn : m < n * 4294967296) :
    Calls Try.prog 94 #[.slice a la ca, .slice b lb cb] w (Guesses w m n) := by
  have hmf : ∀ (fn : Fn) (first cap : Array Value) (w : World), (Instr.makeFunc fn first cap).run Try.prog w = .ok (.func fn first cap) w := fun _ _ _ _ => rfl
  obtain ⟨tp, rfl⟩ : ∃ tp, lb = tp + 1 := ⟨lb - 1, by omega⟩
  have HA := Lib.hid ha
  have HB := Lib.hid hb
  have IA := Lib.hid ia
  have IB := Lib.hid ib
  have LB := Lib.hid hb.len
  have ⟨c1, c2⟩ := hb.cap_le
  obtain ⟨bb, ob, rfl, hcb⟩ := hb.cell (show tp < tp + 1 by omega)
  obtain ⟨x, hx⟩ : ∃ x, zb.getD tp 0 = x := ⟨_, rfl⟩
  rw [hx] at hcb
  have x0 : 0 < x ∧ x < 4294967296 := by
    have h1 := ib.1.getD (show (0 : Int) < 4294967296 by omega) tp
    rw [hx] at h1
    have h2 : x ≠ 0 := by
      intro h
      have := ib.2.1
      apply this
      rw [List.getLast?_eq_getElem?, hb.len, show tp + 1 - 1 = tp by omega]
      have g : tp < zb.length := by rw [hb.len]; omega
      rw [List.getD_eq_getElem?_getD, List.getElem?_eq_getElem g] at hx
      rw [List.getElem?_eq_getElem g]
      simp at hx
      rw [hx, h]
    omega
  have HX := Lib.hid hx
  clear ha hb ia ib hx
  go_enter Try.func94, Try.ntmps94
  go_wp2_with fail
  refine (lead32_any x _ x0.1 (by omega)).mono ?_
  rintro e w' ⟨up, rfl, u1, xl, xh, rfl⟩
  have S0 := ipow_pos (B := 2) (by omega) up
  have T0 := ipow_pos (B := 2) (by omega) (32 - up)
  have hB := pow_two u1
  have GF := Lib.hid (guess_fact (tp := tp) hB S0 T0 IA.out IB.out LB.out (by omega) (by
    rw [HX.out]
    have h1 := Int.mul_le_mul_of_nonneg_right xl (Int.le_of_lt S0)
    rw [← Int.pow_add, show 31 - up + up = 31 by omega] at h1
    have h2 : (2 : Int) ^ 31 = 2147483648 := by decide +kernel
    omega) (by rw [HX.out]; exact xh) hmn)
  obtain ⟨A2, hA2⟩ : ∃ v, hd (2 ^ up) (2 ^ (32 - up)) za (tp + 1) = v := ⟨_, rfl⟩
  obtain ⟨A1, hA1⟩ : ∃ v, hd (2 ^ up) (2 ^ (32 - up)) za tp = v := ⟨_, rfl⟩
  obtain ⟨A0, hA0⟩ : ∃ v, hd (2 ^ up) (2 ^ (32 - up)) za (tp - 1) = v := ⟨_, rfl⟩
  obtain ⟨B1, hB1⟩ : ∃ v, hd (2 ^ up) (2 ^ (32 - up)) zb tp = v := ⟨_, rfl⟩
  obtain ⟨B0, hB0⟩ : ∃ v, hd (2 ^ up) (2 ^ (32 - up)) zb (tp - 1) = v := ⟨_, rfl⟩
  have ⟨a20, a21⟩ := hd_bd hB S0 T0 za IA.out.1 (tp + 1)
  have ⟨a10, a11⟩ := hd_bd hB S0 T0 za IA.out.1 tp
  have ⟨a00, a01⟩ := hd_bd hB S0 T0 za IA.out.1 (tp - 1)
  have ⟨b10, b11⟩ := hd_bd hB S0 T0 zb IB.out.1 tp
  have ⟨b00, b01⟩ := hd_bd hB S0 T0 zb IB.out.1 (tp - 1)
  rw [hA2, hA1, hA0, hB1, hB0] at GF
  rw [hA2] at a20 a21
  rw [hA1] at a10 a11
  rw [hA0] at a00 a01
  rw [hB1] at b10 b11
  rw [hB0] at b00 b01
  have V2 := Lib.hid hA2; have V1 := Lib.hid hA1; have V0 := Lib.hid hA0; have U1 := Lib.hid hB1; have U0 := Lib.hid hB0
  clear hA2 hA1 hA0 hB1 hB0 xl xh S0 T0 hB
  have b12 := GF.out.1
  have o1 := or_limb a10 a11 a00 a01
  have o2 := or_limb b10 b11 b00 b01
  go_wp2_with fail
  obtain ⟨W1, hW1⟩ : ∃ W1, w.alloc (Obj.cells #[Value.int IntKind.i64 ↑up] 3) = W1 := ⟨_, rfl⟩
  have BW := Lib.hid (show Below w.heap.size w W1 by rw [← hW1]; exact below_lit _ _)
  have CW := Lib.hid (show W1.cell? ⟨w.heap.size, 0, none⟩ = some (.int .i64 up) by rw [← hW1]; exact World.cell?_alloc_at _ _ _ _ rfl)
  have HA1 := Lib.hid (HA.out.below BW.out)
  have HB1 := Lib.hid (HB.out.below BW.out)
  rw [hW1]
  clear hW1
  refine (head_at _ _ _ za _ (tp + 1) up _ _ (by omega) HA1.out IA.out.1 u1 (by omega) CW.out A2 V2.out).mono ?_
  rintro e w' ⟨rfl, k1, rfl⟩
  go_wp2_with fail
  refine (head_at _ _ _ za _ (tp) up _ _ (by omega) (HA1.out.drewN _) IA.out.1 u1 (by omega) (show (W1.drewN _).cell? _ = _ from CW.out) A1 V1.out).mono ?_
  rintro e w' ⟨rfl, k2, rfl⟩
  go_wp2_with fail
  refine (head_at _ _ _ za _ (tp - 1) up _ _ (by omega) (HA1.out.drewN _) IA.out.1 u1 (by omega) (show (W1.drewN _).cell? _ = _ from CW.out) A0 V0.out).mono ?_
  rintro e w' ⟨rfl, k3, rfl⟩
  go_wp2_with fail
  refine (head_at _ _ _ zb _ (tp) up _ _ (by omega) (HB1.out.drewN _) IB.out.1 u1 (by omega) (show (W1.drewN _).cell? _ = _ from CW.out) B1 U1.out).mono ?_
  rintro e w' ⟨rfl, k4, rfl⟩
  go_wp2_with fail
  refine (head_at _ _ _ zb _ (tp - 1) up _ _ (by omega) (HB1.out.drewN _) IB.out.1 u1 (by omega) (show (W1.drewN _).cell? _ = _ from CW.out) B0 U0.out).mono ?_
  rintro e w' ⟨rfl, k5, rfl⟩
  go_wp2_with fail
  refine (div64_any A2 (A1 * 4294967296 + A0) (B1 * 4294967296 + B0) _ (by omega) (by omega) a20 (by omega) (by omega) (by omega)).mono ?_
  rintro e w' ⟨r, k6, rfl, rfl⟩
  obtain ⟨q, hq⟩ : ∃ q, (A2 * 18446744073709551616 + (A1 * 4294967296 + A0)) / (B1 * 4294967296 + B0) = q := ⟨_, rfl⟩
  rw [hq] at GF ⊢
  clear hq
  go_wp2
  go_ret
  refine ⟨q, rfl, GF.out.2.1, GF.out.2.2, ?_⟩
  exact ⟨BW.out.os, BW.out.tape, BW.out.output, BW.out.size, BW.out.block⟩
end Go.Proofs.Ytphlkpkbdnddlaa
namespace Go.Proofs.Ytphlkpkbdnddlaa
open Go.RowKit

theorem is_two_limbs {zs : List Int} {n : Int} (h : Is 4294967296 zs n) (hl : zs.length ≤ 2) : n = zs.getD 1 0 * 4294967296 + zs.getD 0 0 := by
  match zs, hl with
  | [], _ => have := h.2.2; simp [val] at this; simp [← this]
  | [x], _ => have := h.2.2; simp [val] at this; simp [← this]
  | [x, y], _ => have := h.2.2; simp [val] at this; simp; omega
/-- told that it is short, it has at most two limbs and 63 bits -/
def Shorts (w : World) (len : Nat) (m : Int) (e : Ending) (w' : World) : Prop :=
  ∃ r : Bool, e = .returned (.bool r) ∧ (r = true → len ≤ 2 ∧ m ≤ 9223372036854775807) ∧ w = w'
theorem short_any (a : Option Addr) (la ca : Nat) (za : List Int) (m : Int) (w : World) (ha : Row .u32 w a la ca za) (ia : Is 4294967296 za m) :
    Calls Try.prog 82 #[.slice a la ca] w (Shorts w la m) := by
  have HA := Lib.hid ha
  have LA := Lib.hid ha.len
  have IA := Lib.hid ia
  have ⟨c1, c2⟩ := ha.cap_le
  clear ha ia
  by_cases h1 : la < 2
  · have b1 : decide ((la : Int) < 2) = true := by simp; omega
    have F := Lib.hid (show m ≤ 9223372036854775807 by
      have e := is_two_limbs IA.out (by rw [LA.out]; omega)
      have z := IA.out.1.getD (show (0 : Int) < 4294967296 by omega) 0
      have y : za.getD 1 0 = 0 := getD_out (by rw [LA.out]; omega)
      rw [y] at e
      omega)
    go_enter Try.func82, Try.ntmps82
    go_wp2
    go_ret
    exact ⟨true, rfl, fun _ => ⟨by omega, F.out⟩, rfl⟩
  · have b1 : decide ((la : Int) < 2) = false := by simp; omega
    by_cases h2 : la = 2
    · subst h2
      obtain ⟨ba, oa, rfl, hca⟩ := HA.out.cell (show 1 < 2 by omega)
      obtain ⟨x, hx⟩ : ∃ x, za.getD 1 0 = x := ⟨_, rfl⟩
      rw [hx] at hca
      have e := is_two_limbs IA.out (by rw [LA.out]; omega)
      have z := IA.out.1.getD (show (0 : Int) < 4294967296 by omega) 0
      rw [hx] at e
      have F := Lib.hid (show x ≤ 2147483647 → m ≤ 9223372036854775807 by intro g; omega)
      clear hx e z b1
      by_cases g : x ≤ 2147483647
      · have b2 : decide (x ≤ 2147483647) = true := by simp; omega
        go_enter Try.func82, Try.ntmps82
        go_wp2
        go_ret
        exact ⟨true, rfl, fun _ => ⟨by omega, F.out g⟩, rfl⟩
      · have b2 : decide (x ≤ 2147483647) = false := by simp; omega
        go_enter Try.func82, Try.ntmps82
        go_wp2
        go_ret
        exact ⟨false, rfl, fun h => (by cases h), rfl⟩
    · have b2 : ((la : Int) == 2) = false := by simp; omega
      go_enter Try.func82, Try.ntmps82
      go_wp2
      go_ret
      exact ⟨false, rfl, fun h => (by cases h), rfl⟩

theorem or_i64 {r x : Int} (r0 : 0 ≤ r) (r1 : r < 2147483648) (x0 : 0 ≤ x) (x1 : x < 4294967296) : bits .or .i64 (r * 4294967296) x = r * 4294967296 + x := by
  obtain ⟨a, rfl⟩ := Int.eq_ofNat_of_zero_le r0
  obtain ⟨b, rfl⟩ := Int.eq_ofNat_of_zero_le x0
  have k : (a : Int) * 4294967296 = ((a * 4294967296 : Nat) : Int) := by omega
  have e2 : a * 4294967296 ||| b = a * 4294967296 + b := by
    have := Nat.shiftLeft_add_eq_or_of_lt (i := 32) (b := b) (by omega) a
    rw [Nat.shiftLeft_eq] at this
    exact this.symm
  have f1 : (BitVec.ofInt 64 ((a * 4294967296 : Nat) : Int)).toNat = a * 4294967296 := by
    rw [BitVec.ofInt_natCast, BitVec.toNat_ofNat]; exact Nat.mod_eq_of_lt (by omega)
  have f2 : (BitVec.ofInt 64 (b : Int)).toNat = b := by
    rw [BitVec.ofInt_natCast, BitVec.toNat_ofNat]; exact Nat.mod_eq_of_lt (by omega)
  rw [k]
  show IntKind.i64.wrap ((BitVec.ofInt 64 ((a * 4294967296 : Nat) : Int) ||| BitVec.ofInt 64 (b : Int)).toNat : Int) = _
  rw [BitVec.toNat_or, f1, f2, e2]
  rw [IntWalk.i64_in _ (by omega)]
  omega
theorem number_any (a : Option Addr) (la ca : Nat) (za : List Int) (m : Int) (w : World) (ha : Row .u32 w a la ca za) (ia : Is 4294967296 za m) (l2 : la ≤ 2) (hm : m ≤ 9223372036854775807) :
    Calls Try.prog 84 #[.slice a la ca] w fun e w' => e = .returned (.int .i64 m) ∧ w = w' := by
  have HA := Lib.hid ha
  have e := is_two_limbs ia (by rw [ha.len]; omega)
  have z := ia.1.getD (show (0 : Int) < 4294967296 by omega) 0
  have y := ia.1.getD (show (0 : Int) < 4294967296 by omega) 1
  have e0 : li za 0 = za.getD 0 0 := li_nat za 0
  have e1 : li za 1 = za.getD 1 0 := li_nat za 1
  obtain ⟨x0, h0⟩ : ∃ x, za.getD 0 0 = x := ⟨_, rfl⟩
  obtain ⟨x1, h1⟩ : ∃ x, za.getD 1 0 = x := ⟨_, rfl⟩
  rw [h0] at e z e0
  rw [h1] at e y e1
  have E := Lib.hid e
  have E0 := Lib.hid e0
  have E1 := Lib.hid e1
  have y2 : x1 < 2147483648 := by omega
  have o := or_i64 y.1 y2 z.1 z.2
  obtain ⟨z1, z2⟩ := z
  have y1 := y.1
  clear e e0 e1 h0 h1 ha ia y hm
  go_enter Try.func84, Try.ntmps84
  go_wp2_with fail
  refine (rlimb_any _ _ _ za 1 w HA.out).mono ?_
  rintro e w' ⟨rfl, rfl⟩
  rw [E1.out]
  go_wp2_with fail
  refine (rlimb_any _ _ _ za 0 w HA.out).mono ?_
  rintro e w' ⟨rfl, rfl⟩
  rw [E0.out]
  go_wp2
  go_ret
  exact ⟨ret_one E.out.symm, rfl⟩

theorem is_none_limb {zs : List Int} {n : Int} (h : Is 4294967296 zs n) (hl : zs.length = 0) : n = 0 := by
  match zs, hl with
  | [], _ => have := h.2.2; simpa [val] using this.symm
theorem is_cons {zs : List Int} {n low : Int} (h : Is 4294967296 zs n) (hn : zs ≠ []) (l0 : 0 ≤ low) (l1 : low < 4294967296) : Is 4294967296 (low :: zs) (low + 4294967296 * n) := by
  refine ⟨fun z hz => ?_, ?_, by rw [val, h.2.2]⟩
  · rcases List.mem_cons.mp hz with rfl | hz
    · exact ⟨l0, l1⟩
    · exact h.1 z hz
  · have := h.2.1
    match zs, hn with
    | x :: r, _ => simpa [Top, List.getLast?_cons_cons] using this
theorem below_any (a : Option Addr) (la ca : Nat) (za : List Int) (m low : Int) (w : World) (ha : Row .u32 w a la ca za) (ia : Is 4294967296 za m) (l0 : 0 ≤ low) (l1 : low < 4294967296) (hla : la ≤ 1000) :
    Calls Try.prog 92 #[.slice a la ca, .int .u32 low] w (GivesL w (la + 1) (low + 4294967296 * m)) := by
  obtain ⟨i0, hi, hz0, hz1, hz2⟩ := info_parts Try.infoU32
  have HA := Lib.hid ha
  have IA := Lib.hid ia
  have ⟨c1, c2⟩ := ha.cap_le
  by_cases h : la = 0
  · subst h
    have E := Lib.hid (show low + 4294967296 * m = low by
      have := is_none_limb ia ha.len
      omega)
    clear ha ia
    have b0 : ((0 : Int) == 0) = true := rfl
    go_enter Try.func92, Try.ntmps92
    go_wp2_with fail
    refine (nOf_is low w l0 (by omega)).mono ?_
    rintro e w' ⟨a', l, c, z, rfl, hr, his, hl, hb⟩
    have HR := Lib.hid hr; have HI := Lib.hid his; have HB := Lib.hid hb
    have L1 := Lib.hid (show l ≤ 0 + 1 by rw [← hr.len]; exact his.len_le (by omega) (by simpa using l1))
    clear hr his hb hl
    go_wp2
    go_ret
    exact ⟨_, _, _, _, rfl, HR.out, by rw [E.out]; exact HI.out, L1.out, HB.out⟩
  · have b0 : ((la : Int) == 0) = false := by simp; omega
    obtain ⟨b, off, rfl, _⟩ := ha.cell (show 0 < la by omega)
    have IC := Lib.hid (is_cons ia (by intro e; have := ha.len; rw [e] at this; simp at this; omega) l0 l1)
    have NL := Lib.hid (show (low :: za).length = 1 + la by rw [List.length_cons, ha.len]; omega)
    clear ha ia
    go_enter Try.func92, Try.ntmps92
    go_wp2_with (at_builtin; refine wpList_append_own _ rfl _ _ 25 rfl w.heap.size 65 i0 (.int .u32 0) 1 4 Try.underlying25 hi hz0 hz1 hz2 rfl (by decide) (.slice (some ⟨w.heap.size, 0, none⟩) 1 1) 1 [.int .u32 low] rfl (World.ownsRow_lit (e := 65) (size := 1) w #[.int .u32 low] 1 (Nat.le_refl _) (by unfold maxLen; omega) rfl) ⟨b, off, none⟩ la ca (za.map (Value.int .u32)) rfl (by simp [HA.out.len]) (HA.out.below ((Below.refl _ _).alloc (Nat.le_refl _) _)).news (ints_one _ _) (by unfold maxLen; omega) (by omega) (by simp) ?_; intro v2 w2 hown2 hgrow2 hnil2; have HO2 := Lib.hid hown2; have HG2 := Lib.hid hgrow2; clear hown2 hgrow2 hnil2)
    have ho : w2.ownsRow w.heap.size 65 1 v2 (1 + la) ((low :: za).map (Value.int .u32)) := HO2.out
    obtain ⟨a', cap', rfl, hrow, _⟩ := row_of_owns ho
    have HR := Lib.hid hrow
    have hb := Lib.hid (show Below w.heap.size w w2 from ((Below.refl w.heap.size w).alloc (Nat.le_refl _) _).grown HG2.out (by simp) (fun g hg => Nat.le_of_eq (by simpa [Value.ownBlock] using hg)))
    clear ho hrow
    go_ret
    exact ⟨_, _, _, _, rfl, HR.out, IC.out, by omega, hb.out⟩
end Go.Proofs.Ytphlkpkbdnddlaa
namespace Go.Proofs.Ytphlkpkbdnddlaa
open Go.RowKit

def Steps (w : World) (m n : Int) (e : Ending) (w' : World) : Prop :=
  ∃ a len cap zs, e = .returned (.tuple #[.int .u32 (m / n), .slice a len cap]) ∧ Row .u32 w' a len cap zs ∧ Is 4294967296 zs (m % n) ∧ Fresh w.heap.size a ∧ Below w.heap.size w w'
theorem ret_iv {v : Value} {k : IntKind} {a b : Int} (h : a = b) : Ending.returned (.tuple #[.int k a, v]) = .returned (.tuple #[.int k b, v]) := by rw [h]

/-- what is left, in memory of its own -/
theorem nSub_fr (a : Option Addr) (la ca : Nat) (za : List Int) (m : Int) (b : Option Addr) (lb cb : Nat) (zb : List Int) (n : Int) (w : World)
    (ha : Row .u32 w a la ca za) (ia : Is 4294967296 za m) (hb : Row .u32 w b lb cb zb) (ib : Is 4294967296 zb n) (la6 : la ≤ 1000) (t : Int) (h : n ≤ m ∧ t = m - n) :
    Calls Try.prog 56 #[.slice a la ca, .slice b lb cb] w (SubP w t) := by
  obtain ⟨h, rfl⟩ := h
  exact nSub_ge a la ca za m b lb cb zb n w ha ia hb ib h (by omega)
theorem step_any (a : Option Addr) (la ca : Nat) (za : List Int) (m : Int) (b : Option Addr) (lb cb : Nat) (zb : List Int) (n : Int) (w : World)
    (ha : Row .u32 w a la ca za) (ia : Is 4294967296 za m) (hb : Row .u32 w b lb cb zb) (ib : Is 4294967296 zb n) (l2 : 2 ≤ lb) (l3 : lb ≤ 900) (l4 : la ≤ 900) (hmn : m < n * 4294967296) (n0 : 0 < n) :
    Calls Try.prog 91 #[.slice a la ca, .slice b lb cb] w (Steps w m n) := by
  have m0 := ia.nonneg (by omega)
  have Q0 : 0 ≤ m / n := Int.ediv_nonneg m0 (by omega)
  have Q1 : m / n < 4294967296 := Int.ediv_lt_of_lt_mul n0 (by rw [Int.mul_comm]; exact hmn)
  have E := Lib.hid (Int.mul_ediv_add_emod m n)
  have R0 := Int.emod_nonneg m (show n ≠ 0 by omega)
  have R1 := Int.emod_lt_of_pos m n0
  have HA := Lib.hid ha; have HB := Lib.hid hb; have IA := Lib.hid ia; have IB := Lib.hid ib
  clear ha hb ia ib
  go_enter Try.func91, Try.ntmps91
  go_wp2_with fail
  refine (guess_any a la ca za m b lb cb zb n w HA.out IA.out HB.out IB.out l2 (by omega) hmn).mono ?_
  rintro e w1 ⟨q, rfl, q1, q2, hb1⟩
  have HB1 := Lib.hid hb1
  have RA := Lib.hid (HA.out.below hb1); have RB := Lib.hid (HB.out.below hb1)
  clear hb1
  go_wp2_with fail
  refine (nOf_is q w1 (by omega) (by omega)).mono ?_
  rintro e w2 ⟨a2, l5, c2, z2, rfl, hr, hi, hl, hb2⟩
  have HR2 := Lib.hid hr; have HI2 := Lib.hid hi; have HB2 := Lib.hid hb2
  have RA2 := Lib.hid (RA.out.below hb2); have RB2 := Lib.hid (RB.out.below hb2)
  clear hr hi hb2 RA RB
  go_wp2_with fail
  refine (nMul_is lb 2 b lb cb zb n a2 l5 c2 z2 q w2 RB2.out IB.out HR2.out HI2.out (by omega) (by omega) (Nat.le_refl _) hl).mono ?_
  rintro e w3 ⟨a3, l6, c3, z3, rfl, hr, hi, hl3, hb3⟩
  have HR3 := Lib.hid hr; have HI3 := Lib.hid hi
  have BB3 := Lib.hid (below_next (below_next HB1.out HB2.out) hb3)
  have RA3 := Lib.hid (RA2.out.below hb3); have RB3 := Lib.hid (RB2.out.below hb3)
  clear hr hi hb3 RA2 RB2 HB1 HB2
  rcases Int.lt_or_le m (n * q) with g | g
  · -- one too many
    obtain rfl : q = m / n + 1 := by
      rcases Int.lt_or_le (m / n) q with h | h
      · omega
      · exfalso
        obtain rfl : q = m / n := by omega
        have := E.out
        omega
    have CK := Lib.hid (cmpI_gt (m := n * (m / n + 1)) (n := m) g)
    have PS := Lib.hid (show Subs (n * (m / n + 1)) n (n * (m / n)) 0 from .inr ⟨by rw [Int.mul_add]; have := Int.mul_nonneg (show 0 ≤ n by omega) Q0; omega, by rw [Int.mul_add]; omega, rfl⟩)
    have PT := Lib.hid (show n * (m / n) ≤ m ∧ m % n = m - n * (m / n) from ⟨by have := E.out; omega, by have := E.out; omega⟩)
    obtain ⟨Q, hQ⟩ : ∃ Q, m / n = Q := ⟨_, rfl⟩
    obtain ⟨R, hR⟩ : ∃ R, m % n = R := ⟨_, rfl⟩
    rw [hQ] at HI3 CK PS PT Q0 Q1
    rw [hR] at PT
    rw [hQ]
    have FQ := Lib.hid hQ; have FR := Lib.hid hR
    clear hQ hR E g q1 q2 R0 R1
    go_wp2_with fail
    refine (nCmp_is a3 l6 c3 z3 _ a la ca za m w3 HR3.out HI3.out RA3.out IA.out 1 CK.out).mono ?_
    rintro e w4 ⟨rfl, hb4⟩
    have BB4 := Lib.hid (below_next BB3.out hb4)
    have RA4 := Lib.hid (RA3.out.below hb4); have RB4 := Lib.hid (RB3.out.below hb4); have HR4 := Lib.hid (HR3.out.below hb4)
    clear hb4 RA3 RB3 HR3 BB3
    go_wp2_with fail
    refine (nSub_is a3 l6 c3 z3 _ b lb cb zb n w4 HR4.out HI3.out RB4.out IB.out (by omega) _ _ PS.out).mono ?_
    rintro e w5 ⟨a5, l7, c5, z5, rfl, hr, hi, hb5⟩
    have HR5 := Lib.hid hr; have HI5 := Lib.hid hi
    have BB5 := Lib.hid (below_next BB4.out hb5)
    have RA5 := Lib.hid (RA4.out.below hb5)
    clear hr hi hb5 RA4 RB4 HR4 BB4
    go_wp2_with fail
    refine (nSub_fr a la ca za m a5 l7 c5 z5 _ w5 RA5.out IA.out HR5.out HI5.out (by omega) _ PT.out).mono ?_
    rintro e w6 ⟨a6, l8, c6, z6, rfl, hr, hi, hf, hb6⟩
    have HF6 := Lib.hid hf
    clear hf
    have HR6 := Lib.hid hr; have HI6 := Lib.hid hi
    have BB6 := Lib.hid (below_next BB5.out hb6)
    clear hr hi hb6
    go_wp2
    go_ret2
    exact ⟨_, _, _, _, ret_iv FQ.out.symm, HR6.out, by rw [FR.out]; exact HI6.out, HF6.out.mono (BB5.out.size), BB6.out⟩
  · obtain rfl : q = m / n := by
      have := Int.le_ediv_of_mul_le n0 (show q * n ≤ m by rw [Int.mul_comm]; exact g)
      omega
    have CK := Lib.hid (show ∃ k, cmpI (n * (m / n)) m = k ∧ k ≤ 0 by
      rcases Int.lt_or_eq_of_le g with h | h
      · exact ⟨_, cmpI_lt h, by omega⟩
      · exact ⟨_, cmpI_eq h, by omega⟩)
    have PT := Lib.hid (show n * (m / n) ≤ m ∧ m % n = m - n * (m / n) from ⟨g, by have := E.out; omega⟩)
    obtain ⟨Q, hQ⟩ : ∃ Q, m / n = Q := ⟨_, rfl⟩
    obtain ⟨R, hR⟩ : ∃ R, m % n = R := ⟨_, rfl⟩
    rw [hQ] at HI3 CK PT Q0 Q1
    rw [hR] at PT
    rw [hQ]
    have FQ := Lib.hid hQ; have FR := Lib.hid hR
    clear hQ hR E g q1 q2 R0 R1
    obtain ⟨k, ck, k0⟩ := CK.out
    have CK' := Lib.hid ck
    clear CK ck
    have bk : decide (0 < k) = false := by simp; omega
    go_wp2_with fail
    refine (nCmp_is a3 l6 c3 z3 _ a la ca za m w3 HR3.out HI3.out RA3.out IA.out k CK'.out).mono ?_
    rintro e w4 ⟨rfl, hb4⟩
    have BB4 := Lib.hid (below_next BB3.out hb4)
    have RA4 := Lib.hid (RA3.out.below hb4); have HR4 := Lib.hid (HR3.out.below hb4)
    clear hb4 RA3 RB3 HR3 BB3
    go_wp2_with fail
    refine (nSub_fr a la ca za m a3 l6 c3 z3 _ w4 RA4.out IA.out HR4.out HI3.out (by omega) _ PT.out).mono ?_
    rintro e w6 ⟨a6, l8, c6, z6, rfl, hr, hi, hf, hb6⟩
    have HF6 := Lib.hid hf
    clear hf
    have HR6 := Lib.hid hr; have HI6 := Lib.hid hi
    have BB6 := Lib.hid (below_next BB4.out hb6)
    clear hr hi hb6
    go_wp2
    go_ret2
    exact ⟨_, _, _, _, ret_iv FQ.out.symm, HR6.out, by rw [FR.out]; exact HI6.out, HF6.out.mono (BB4.out.size), BB6.out⟩
end Go.Proofs.Ytphlkpkbdnddlaa
namespace Go.Proofs.Ytphlkpkbdnddlaa
open Go.RowKit

def DivMods (w : World) (m n : Int) (e : Ending) (w' : World) : Prop :=
  ∃ a1 l1 c1 z1 a2 l2 c2 z2, e = .returned (.tuple #[.slice a1 l1 c1, .slice a2 l2 c2]) ∧ Row .u32 w' a1 l1 c1 z1 ∧ Is 4294967296 z1 (m / n) ∧ Row .u32 w' a2 l2 c2 z2 ∧ Is 4294967296 z2 (m % n) ∧ Below w.heap.size w w'

theorem divide_one (a : Option Addr) (la ca : Nat) (za : List Int) (m : Int) (b : Option Addr) (cb : Nat) (zb : List Int) (n : Int) (w : World)
    (ha : Row .u32 w a la ca za) (ia : Is 4294967296 za m) (hb : Row .u32 w b 1 cb zb) (ib : Is 4294967296 zb n) (hla : la ≤ 900) :
    Calls Try.prog 85 #[.slice a la ca, .slice b 1 cb] w (DivMods w m n) := by
  obtain ⟨bb, ob, rfl, hcb⟩ := hb.cell (show 0 < 1 by omega)
  have ⟨c1, c2⟩ := hb.cap_le
  have x := ib.1.getD (show (0 : Int) < 4294967296 by omega) 0
  have hx : zb.getD 0 0 = n := by
    match zb, hb.len, ib.2.2 with
    | [y], _, h => simpa [val] using h
  have n0 : 0 < n := by
    rcases Int.lt_or_eq_of_le (ib.nonneg (by omega)) with h | h
    · exact h
    · exfalso
      have := top_zero (by omega) ib.1 ib.2.1 (ib.2.2.trans h.symm)
      have h2 := hb.len
      rw [this] at h2; simp at h2
  rw [hx] at hcb x
  rw [Nat.add_zero] at hcb
  have HA := Lib.hid ha; have IA := Lib.hid ia
  obtain ⟨x0, x1⟩ := x
  have r0 := Int.emod_nonneg m (show n ≠ 0 by omega)
  have r1 := Int.emod_lt_of_pos m n0
  have DV := Lib.hid (show Divs m n (m / n) (m % n) 0 from .inr ⟨n0, rfl, rfl, rfl⟩)
  obtain ⟨Q, hQ⟩ : ∃ Q, m / n = Q := ⟨_, rfl⟩
  obtain ⟨R, hR⟩ : ∃ R, m % n = R := ⟨_, rfl⟩
  rw [hQ, hR] at DV
  rw [hR] at r0 r1
  have FQ := Lib.hid hQ; have FR := Lib.hid hR
  clear ha ia hb ib hx hQ hR
  go_enter Try.func85, Try.ntmps85
  go_wp2_with fail
  refine (nDiv_is a la ca za m n w HA.out IA.out (by omega) x1 _ _ _ DV.out).mono ?_
  rintro e w1 ⟨a1, l1, k1, z1, rfl, hr, hi, hb1⟩
  have HR1 := Lib.hid hr; have HI1 := Lib.hid hi; have HB1 := Lib.hid hb1
  clear hr hi hb1
  go_wp2_with fail
  refine (nOf_is R w1 r0 (by omega)).mono ?_
  rintro e w2 ⟨a2, l2, k2, z2, rfl, hr, hi, _, hb2⟩
  have HR2 := Lib.hid hr; have HI2 := Lib.hid hi; have HB2 := Lib.hid hb2
  clear hr hi hb2
  go_wp2
  go_ret2
  exact ⟨_, _, _, _, _, _, _, _, rfl, HR1.out.below HB2.out, by rw [FQ.out]; exact HI1.out, HR2.out, by rw [FR.out]; exact HI2.out, below_next HB1.out HB2.out⟩

theorem divide_less (a : Option Addr) (la ca : Nat) (za : List Int) (m : Int) (b : Option Addr) (lb cb : Nat) (zb : List Int) (n : Int) (w : World)
    (ha : Row .u32 w a la ca za) (ia : Is 4294967296 za m) (hb : Row .u32 w b lb cb zb) (ib : Is 4294967296 zb n) (l2 : 2 ≤ lb) (l3 : la < lb) :
    Calls Try.prog 85 #[.slice a la ca, .slice b lb cb] w (DivMods w m n) := by
  have h1 := (is_lt ia (p := la) (by rw [ha.len]; exact Nat.le_refl _))
  have h2 := ib.pow_le (by omega) (by intro e; have := hb.len; rw [e] at this; simp at this; omega)
  rw [hb.len] at h2
  have h3 := ipow_le (B := 4294967296) (by omega) (show la ≤ lb - 1 by omega)
  have E1 := Lib.hid (show m / n = 0 from Int.ediv_eq_zero_of_lt h1.1 (by omega))
  have E2 := Lib.hid (show m % n = m from Int.emod_eq_of_lt h1.1 (by omega))
  have HA := Lib.hid ha; have IA := Lib.hid ia
  have ⟨c1, c2⟩ := ha.cap_le
  have ⟨c3, c4⟩ := hb.cap_le
  clear h1 h2 h3 ha ia hb ib
  have b1 : ((lb : Int) == 1) = false := by simp; omega
  have b2 : decide (la < lb) = true := by simp; omega
  go_enter Try.func85, Try.ntmps85
  go_wp2
  go_ret2
  exact ⟨_, _, _, _, _, _, _, _, rfl, Row.nil, by rw [E1.out]; exact is_nil, HA.out, by rw [E2.out]; exact IA.out, Below.refl _ _⟩

theorem Row.drop {k : IntKind} {W : World} {b off len cap j : Nat} {zs : List Int} (h : Row k W (some ⟨b, off, none⟩) len cap zs) (hj : j ≤ len) : Row k W (some ⟨b, off + j, none⟩) (len - j) (cap - j) (zs.drop j) := by
  have h1 := h.2.1
  have h2 := h.2.2.1
  refine ⟨by rw [List.length_drop, h.1], by omega, by omega, (fun e => by cases e), fun i hi => ?_⟩
  obtain ⟨b', o', e, hc⟩ := h.2.2.2.2 (j + i) (by omega)
  simp only [Option.some.injEq, Addr.mk.injEq, and_true] at e
  obtain ⟨rfl, rfl⟩ := e
  refine ⟨b, off + j, rfl, ?_⟩
  rw [List.getD_eq_getElem?_getD, List.getElem?_drop, ← List.getD_eq_getElem?_getD, Nat.add_assoc]
  exact hc
theorem top_drop {zs : List Int} {k : Nat} (h : Top zs) (hk : k < zs.length) : Top (zs.drop k) := by
  unfold Top at h ⊢
  rw [List.getLast?_drop, if_neg (by omega)]
  exact h
/-- a quotient's digits -/
theorem quo_digits {za zb ds : List Int} {m n : Int} {L : Nat} (ia : Is 4294967296 za m) (ib : Is 4294967296 zb n) (hl : za.length = L + zb.length) (hza : za ≠ []) (n0 : 0 < n) (hd : ds.length = L + 1) (dd : Digs 4294967296 ds) (hv : val 4294967296 ds = m / n) :
    (ds.getD L 0 ≠ 0 → Is 4294967296 ds (m / n)) ∧ (ds.getD L 0 = 0 → Is 4294967296 (ds.take L) (m / n)) := by
  constructor
  · intro h
    refine ⟨dd, ?_, hv⟩
    have := top_take (zs := ds) (m := L) (by omega) h
    rwa [List.take_of_length_le (by omega)] at this
  · intro h
    have e1 : val 4294967296 (ds.take L) = m / n := by
      have := val_take_zero (B := 4294967296) (zs := ds) (m := L) (by omega) h
      rw [List.take_of_length_le (show ds.length ≤ L + 1 by omega)] at this
      rw [← hv]; first | exact this | exact this.symm
    refine ⟨dd.take L, ?_, e1⟩
    cases L with
    | zero => simp [Top]
    | succ L =>
      refine top_take (by omega) ?_
      intro h0
      have e2 : val 4294967296 (ds.take L) = m / n := by
        have := val_take_zero (B := 4294967296) (zs := ds) (m := L) (by omega) h0
        rw [← e1]; first | exact this | exact this.symm
      have v1 := val_lt (show (0 : Int) < 4294967296 by omega) (dd.take L)
      rw [e2, List.length_take, Nat.min_eq_left (by omega)] at v1
      have h1 := ia.pow_le (by omega) hza
      have h2 := (is_lt ib (Nat.le_refl _)).2
      have h3 : (4294967296 : Int) ^ (za.length - 1) = 4294967296 ^ L * 4294967296 ^ zb.length := by rw [← Int.pow_add, hl]; congr 1; omega
      have p0 := ipow_pos (B := 4294967296) (by omega) L
      have h4 : 4294967296 ^ L * n ≤ 4294967296 ^ L * 4294967296 ^ zb.length := Int.mul_le_mul_of_nonneg_left (by omega) (by omega)
      have h5 := Int.le_ediv_of_mul_le n0 (show 4294967296 ^ L * n ≤ m by omega)
      omega

set_option maxHeartbeats 1000000 in
theorem divide_long (a : Option Addr) (la ca : Nat) (za : List Int) (m : Int) (b : Option Addr) (lb cb : Nat) (zb : List Int) (n : Int) (w : World)
    (ha : Row .u32 w a la ca za) (ia : Is 4294967296 za m) (hb : Row .u32 w b lb cb zb) (ib : Is 4294967296 zb n) (l2 : 2 ≤ lb) (l3 : lb ≤ la) (hla : la ≤ 800) :
    Calls Try.prog 85 #[.slice a la ca, .slice b lb cb] w (DivMods w m n) := by
  obtain ⟨i0, hi, hz0, hz1, hz2⟩ := info_parts Try.infoU32
  have ⟨c1, c2⟩ := ha.cap_le
  have ⟨c3, c4⟩ := hb.cap_le
  obtain ⟨ba, oa, rfl, hca⟩ := ha.cell (show 0 < la by omega)
  clear hca
  obtain ⟨K, hK⟩ : ∃ K, la + 1 = K + lb := ⟨la + 1 - lb, by omega⟩
  have k1 : (la : Int) - (lb : Int) + 1 = (K : Int) := by omega
  have k2 : 1 ≤ K := by omega
  have k3 : K < la := by omega
  have k4 : ¬ ca = K := by omega
  have KK := Lib.hid hK
  have HA := Lib.hid ha; have IA := Lib.hid ia; have HB := Lib.hid hb; have IB := Lib.hid ib; have LA := Lib.hid ha.len; have LB := Lib.hid hb.len
  clear ha ia hb ib hK
  have b1 : ((lb : Int) == 1) = false := by simp; omega
  have b2 : decide (la < lb) = false := by simp; omega
  have HBY := Lib.hid (show i0.bytes * K ≤ 281474976710656 by rw [hz2]; omega)
  go_enter Try.func85, Try.ntmps85
  go_wp2_with (at_make; refine wpList_make_full _ rfl _ _ 25 rfl w.heap.size 65 i0 (.int .u32 0) 1 Try.underlying25 hi hz0 hz1 _ _ _ _ K rfl rfl (by omega) (by omega) HBY.out (by unfold maxLen; omega) (Nat.le_refl _) ?_; intro w1 hown hgrow; have HO := Lib.hid hown; have HG := Lib.hid hgrow; clear hown hgrow)
  have N0 := Lib.hid (show 0 < n ∧ n < 4294967296 ^ lb ∧ 4294967296 ^ (lb - 1) ≤ n by
    have h2 := IB.out.pow_le (by omega) (by intro e; have := LB.out; rw [e] at this; simp at this; omega)
    rw [LB.out] at h2
    have := ipow_pos (B := 4294967296) (by omega) (lb - 1)
    exact ⟨by omega, (is_lt IB.out (p := lb) (by rw [LB.out]; exact Nat.le_refl _)).2, h2⟩)
  have n0 := N0.out.1
  have B1 := Lib.hid (show Below w.heap.size w w1 from (Below.refl _ _).grown HG.out (Nat.le_refl _) (fun g hg => by cases hg))
  have M0 := Lib.hid (show Mine w1 w.heap.size (List.replicate K 0) by
    have := HO.out
    rw [made_zeros] at this
    exact mine_of_owns this)
  have D0 := Lib.hid (show Is 4294967296 (za.drop K) (val 4294967296 (za.drop K)) from ⟨IA.out.1.drop K, top_drop IA.out.2.1 (by rw [LA.out]; exact k3), rfl⟩)
  have L0 := Lib.hid (show val 4294967296 (za.drop K) < n by
    have := (is_lt D0.out (p := lb - 1) (by rw [List.length_drop, LA.out]; have := KK.out; omega)).2
    have := N0.out.2.2
    omega)
  clear HO HG k1
  go_loopw [5, 9] (fun v u wr => ∃ (j : Nat) (c : Int) (a2 : Option Addr) (l2 c2 : Nat) (z2 : List Int) (r : Int) (ds : List Int), u = .int .i64 c ∧ c = (j : Int) - 1 ∧ j ≤ K ∧ v = .slice a2 l2 c2 ∧ Row .u32 wr a2 l2 c2 z2 ∧ Is 4294967296 z2 r ∧ r < n ∧ ds.length = K ∧ Digs 4294967296 ds ∧ Mine wr w.heap.size ds ∧ val 4294967296 (ds.drop j) * n + r = val 4294967296 (za.drop j) ∧ Below w.heap.size w wr) (fun _ u _ => (intOf u + 1).toNat)
  case atStart =>
    refine ⟨K, _, _, _, _, za.drop K, val 4294967296 (za.drop K), _, rfl, rfl, Nat.le_refl _, rfl, (HA.out.below B1.out).drop (by omega), D0.out, L0.out, List.length_replicate, digs_zeroB _, M0.out, ?_, B1.out⟩
    rw [List.drop_eq_nil_of_le (by rw [List.length_replicate]; exact Nat.le_refl _)]
    simp [val]
  case round =>
    clear M0 D0 L0 B1
    obtain ⟨j, c, a2, l2', c2', z2, r, ds, rfl, hc, hj, rfl, hr2, hi2, hr, hdl, hdg, hmi, hval, hbel⟩ := hrel
    have R2 := Lib.hid hr2; have I2 := Lib.hid hi2; have DL := Lib.hid hdl; have DG := Lib.hid hdg; have MI := Lib.hid hmi; have VA := Lib.hid hval; have BE := Lib.hid hbel
    have r0 := hi2.nonneg (by omega)
    have L2 : l2' ≤ lb := by
      have := hi2.len_le (L := lb) (by omega) (by have := N0.out.2.1; omega)
      rw [hr2.len] at this; exact this
    clear hr2 hi2 hdl hdg hmi hval hbel
    cases j with
    | zero =>
      obtain rfl : c = -1 := by omega
      clear hc hj
      obtain ⟨L, hL⟩ : ∃ L, K = L + 1 := ⟨K - 1, by omega⟩
      have QD := Lib.hid (quo_digits (L := L) IA.out IB.out (by rw [LA.out, LB.out]; have := KK.out; omega) (by intro e; have := LA.out; rw [e] at this; simp at this; omega) n0 (by rw [DL.out]; exact hL) DG.out (by
        have h := VA.out
        rw [List.drop_zero, List.drop_zero, IA.out.2.2] at h
        have := (Int.ediv_emod_unique n0 (a := m) (r := r) (q := val 4294967296 ds)).mpr ⟨by rw [Int.mul_comm]; omega, r0, hr⟩
        exact this.1.symm))
      have RM := Lib.hid (show m % n = r by
        have h := VA.out
        rw [List.drop_zero, List.drop_zero, IA.out.2.2] at h
        exact ((Int.ediv_emod_unique n0 (a := m) (r := r) (q := val 4294967296 ds)).mpr ⟨by rw [Int.mul_comm]; omega, r0, hr⟩).2)
      have hcell := MI.out.cell (i := L) (by rw [DL.out]; omega)
      obtain ⟨x, hx⟩ : ∃ x, ds.getD L 0 = x := ⟨_, rfl⟩
      rw [hx] at hcell QD
      have e9 : (K : Int) - 1 = (L : Int) := by omega
      have RW := Lib.hid (MI.out.row (cap := K) (by rw [DL.out]; omega) (by omega))
      rw [DL.out] at RW
      have lK : L < K := by omega
      clear hx hL
      by_cases g : x = 0
      · subst g
        go_wp2
        go_ret2
        exact ⟨_, _, _, _, _, _, _, _, rfl, RW.out.trim (by omega), QD.out.2 (by trivial), R2.out, by rw [RM.out]; exact I2.out, BE.out⟩
      · have g' : (x == 0) = false := by simp [g]
        go_wp2
        go_ret2
        exact ⟨_, _, _, _, _, _, _, _, rfl, RW.out, QD.out.1 g, R2.out, by rw [RM.out]; exact I2.out, BE.out⟩
    | succ i =>
      obtain rfl : c = (i : Int) := by omega
      clear hc
      obtain ⟨b', o', he, hx⟩ := (HA.out.below BE.out).cell (show i < la by omega)
      simp only [Option.some.injEq, Addr.mk.injEq, and_true] at he
      obtain ⟨rfl, rfl⟩ := he
      obtain ⟨x0, x1⟩ := IA.out.1.getD (show (0 : Int) < 4294967296 by omega) i
      obtain ⟨x, hxx⟩ : ∃ x, za.getD i 0 = x := ⟨_, rfl⟩
      rw [hxx] at hx x0 x1
      have EX := Lib.hid hxx
      clear hxx
      have mn : x + 4294967296 * r < n * 4294967296 := by omega
      have il : i < la := by omega
      go_wp2_with fail
      refine (below_any a2 l2' c2' z2 r x wr R2.out I2.out x0 x1 (by omega)).mono ?_
      rintro e w2 ⟨a3, l3', c3', z3, rfl, hr3, hi3, hl3, hb3⟩
      have R3 := Lib.hid hr3; have I3 := Lib.hid hi3; have B3 := Lib.hid hb3
      clear hr3 hi3 hb3
      go_wp2_with fail
      refine (step_any a3 l3' c3' z3 _ b lb cb zb n w2 R3.out I3.out ((HB.out.below BE.out).below B3.out) IB.out l2 (by omega) (by omega) mn n0).mono ?_
      rintro e w3 ⟨a4, l4', c4', z4, rfl, hr4, hi4, hf4, hb4⟩
      have R4 := Lib.hid hr4; have I4 := Lib.hid hi4; have B4 := Lib.hid hb4
      have gl := MI.out.lt
      have gl2 : w.heap.size < w2.heap.size := Nat.lt_of_lt_of_le gl B3.out.size
      have M4 := Lib.hid ((MI.out.below B3.out gl).below B4.out gl2)
      have NE := Lib.hid (show ∀ ad : Addr, a4 = some ad → ad.block ≠ w.heap.size from fun ad e => by have := hf4 ad e; omega)
      have hcell := M4.out.cell (i := i) (by rw [DL.out]; omega)
      have hfree := M4.out.free i
      obtain ⟨y, hy⟩ : ∃ y, ds.getD i 0 = y := ⟨_, rfl⟩
      rw [hy] at hcell
      clear hy hr4 hi4 hf4 hb4
      obtain ⟨N, hN⟩ : ∃ N, x + 4294967296 * r = N := ⟨_, rfl⟩
      have q0 : 0 ≤ N / n := Int.ediv_nonneg (by omega) (by omega)
      have q1 : N / n < 4294967296 := Int.ediv_lt_of_lt_mul n0 (by rw [Int.mul_comm]; omega)
      have m1 := Int.emod_lt_of_pos N n0
      have NX := Lib.hid (show val 4294967296 ((ds.set i (N / n)).drop i) * n + N % n = val 4294967296 (za.drop i) by
        rw [drop_set (by rw [DL.out]; omega), val, val_drop 4294967296 za i, EX.out]
        exact limb_step (show r * 4294967296 + x = N by omega) VA.out (quo_rem _ _))
      rw [hN] at I4 ⊢
      clear hN mn
      obtain ⟨Q, hQ⟩ : ∃ Q, N / n = Q := ⟨_, rfl⟩
      rw [hQ] at q0 q1 NX ⊢
      clear hQ
      go_wp2
      go_roundw
      case rel =>
        refine ⟨i, _, a4, l4', c4', z4, N % n, ds.set i Q, rfl, by omega, by omega, rfl, R4.out.setCell _ _ NE.out, I4.out, m1, by rw [List.length_set]; exact DL.out, digs_setB DG.out ⟨q0, q1⟩, M4.out.set i _, NX.out, ?_⟩
        exact (below_next (below_next BE.out B3.out) B4.out).setCell (Nat.le_refl _) _
      case measure => simp [intOf]

theorem divide_is (a : Option Addr) (la ca : Nat) (za : List Int) (m : Int) (b : Option Addr) (lb cb : Nat) (zb : List Int) (n : Int) (w : World)
    (ha : Row .u32 w a la ca za) (ia : Is 4294967296 za m) (hb : Row .u32 w b lb cb zb) (ib : Is 4294967296 zb n) (n0 : 0 < n) (hla : la ≤ 800) :
    Calls Try.prog 85 #[.slice a la ca, .slice b lb cb] w (DivMods w m n) := by
  have l1 : 1 ≤ lb := by
    rcases Nat.eq_zero_or_pos lb with h | h
    · exfalso
      have := is_none_limb ib (by rw [hb.len]; exact h)
      omega
    · exact h
  rcases Nat.lt_or_ge 1 lb with h | h
  · rcases Nat.lt_or_ge la lb with g | g
    · exact divide_less a la ca za m b lb cb zb n w ha ia hb ib h g
    · exact divide_long a la ca za m b lb cb zb n w ha ia hb ib h g hla
  · obtain rfl : lb = 1 := by omega
    exact divide_one a la ca za m b cb zb n w ha ia hb ib (by omega)

theorem part_any (a : Option Addr) (la ca : Nat) (za : List Int) (m : Int) (b : Option Addr) (lb cb : Nat) (zb : List Int) (n : Int) (w : World)
    (ha : Row .u32 w a la ca za) (ia : Is 4294967296 za m) (hb : Row .u32 w b lb cb zb) (ib : Is 4294967296 zb n) (n0 : 0 < n) (hla : la ≤ 800) :
    Calls Try.prog 71 #[.slice a la ca, .slice b lb cb] w (GivesL w la (m / n)) := by
  have D := Lib.hid (divide_is a la ca za m b lb cb zb n w ha ia hb ib n0 hla)
  have L := Lib.hid (show m / n < 4294967296 ^ la by
    have h1 := is_lt ia (p := la) (by rw [ha.len]; exact Nat.le_refl _)
    have := Int.ediv_le_self (b := n) h1.1
    omega)
  clear ha hb ia ib
  go_enter Try.func71, Try.ntmps71
  go_wp2_with fail
  refine D.out.mono ?_
  rintro e w1 ⟨a1, l1, c1, z1, a2, l2, c2, z2, rfl, hr, hi, _, _, hb1⟩
  have HR1 := Lib.hid hr; have HI1 := Lib.hid hi; have HB1 := Lib.hid hb1
  have L1 := Lib.hid (show l1 ≤ la by rw [← hr.len]; exact hi.len_le (by omega) L.out)
  clear hr hi hb1
  go_wp2
  go_ret
  exact ⟨_, _, _, _, rfl, HR1.out, HI1.out, L1.out, HB1.out⟩
end Go.Proofs.Ytphlkpkbdnddlaa
namespace Go.Proofs.Ytphlkpkbdnddlaa
open Go.RowKit

theorem ecommon_any (a b : Int) (w : World) (ha : 0 ≤ a) (ha' : a ≤ 9223372036854775807) (hb : 0 ≤ b) (hb' : b ≤ 9223372036854775807) :
    Calls Try.prog 88 #[.int .i64 a, .int .i64 b] w fun e w' => e = .returned (.int .i64 (gc a b)) ∧ ∃ n, w' = w.drewN n := by
  go_enter Try.func88, Try.ntmps88
  go_wp2
  go_step3
  go_wp2
  go_step3
  go_wp2
  go_loopw [0, 1] (fun u v wr => ∃ p q : Int, ∃ n : Nat, 0 ≤ p ∧ p ≤ 9223372036854775807 ∧ 0 ≤ q ∧ q ≤ 9223372036854775807 ∧ gc p q = gc a b ∧ u = .int .i64 p ∧ v = .int .i64 q ∧ wr = w.drewN n) (fun _ v _ => (intOf v).toNat)
  case atStart => exact ⟨a, b, 0, ha, ha', hb, hb', rfl, rfl, rfl, rfl⟩
  case round =>
    obtain ⟨p, q, n, hp, hp', hq, hq', hg, rfl, rfl, rfl⟩ := hrel
    have HG := Lib.hid hg
    clear hg
    by_cases h : q = 0
    · subst h
      go_wp2
      try rw [Exit.noGoto_ret]
      go_ret
      exact ⟨ret_one (by rw [← HG.out, gc_zero hp]), n, rfl⟩
    · have h0 : 0 ≤ p % q := Int.emod_nonneg _ h
      have h1 : p % q < q := Int.emod_lt_of_pos _ (by omega)
      go_wp2
      go_region
      all_goals
        go_wp2
        go_roundw
        case rel => exact ⟨q, p % q, n + 1, hq, hq', h0, by omega, by rw [gc_step hp hq]; exact HG.out, rfl, rfl, rfl⟩
        case measure => simp [intOf]; omega

theorem egcd_any (a b : Int) (w : World) (ha : 0 ≤ a) (ha' : a ≤ 9223372036854775807) (hb : 0 ≤ b) (hb' : b ≤ 9223372036854775807) :
    Calls Try.prog 83 #[.int .i64 a, .int .i64 b] w fun e w' => e = .returned (.tuple #[.int .i64 (gc a b), .int .i64 0]) ∧ Below w.heap.size w w' := by
  go_enter Try.func83, Try.ntmps83
  go_wp2_with fail
  refine (ecommon_any a b w ha ha' hb hb').mono ?_
  rintro e w' ⟨rfl, n, rfl⟩
  go_wp2
  go_ret2
  exact ⟨rfl, below_drewN w _⟩

theorem common_any (a : Option Addr) (la ca : Nat) (za : List Int) (m : Int) (b : Option Addr) (lb cb : Nat) (zb : List Int) (n : Int) (w : World)
    (ha : Row .u32 w a la ca za) (ia : Is 4294967296 za m) (hb : Row .u32 w b lb cb zb) (ib : Is 4294967296 zb n) (hla : la ≤ 800) (hlb : lb ≤ 800) :
    Calls Try.prog 70 #[.slice a la ca, .slice b lb cb] w (GivesL w 800 (gc m n)) := by
  have HA := Lib.hid ha; have IA := Lib.hid ia; have HB := Lib.hid hb; have IB := Lib.hid ib
  clear ha ia hb ib
  go_enter Try.func70, Try.ntmps70
  go_wp2
  go_step3
  go_wp2
  go_step3
  go_wp2
  go_loopg [0, 1] n.toNat (fun k u v wr => ∃ (a1 : Option Addr) (l1 c1 : Nat) (z1 : List Int) (p : Int) (a2 : Option Addr) (l2 c2 : Nat) (z2 : List Int) (q : Int), u = .slice a1 l1 c1 ∧ v = .slice a2 l2 c2 ∧ Row .u32 wr a1 l1 c1 z1 ∧ Is 4294967296 z1 p ∧ Row .u32 wr a2 l2 c2 z2 ∧ Is 4294967296 z2 q ∧ l1 ≤ 800 ∧ l2 ≤ 800 ∧ q.toNat = k ∧ gc p q = gc m n ∧ Below w.heap.size w wr)
  case atStart => exact ⟨_, _, _, za, m, _, _, _, zb, n, rfl, rfl, HA.out, IA.out, HB.out, IB.out, hla, hlb, rfl, rfl, Below.refl _ _⟩
  case round =>
    obtain ⟨a1, l1, c1, z1, p, a2, l2, c2, z2, q, rfl, rfl, hr1, hi1, hr2, hi2, hl1, hl2, hk, hg, hbel⟩ := hrel
    have p0 := hi1.nonneg (by omega)
    have q0 := hi2.nonneg (by omega)
    have ⟨d1, d2⟩ := hr2.cap_le
    have ⟨d3, d4⟩ := hr1.cap_le
    have R1 := Lib.hid hr1; have I1 := Lib.hid hi1; have R2 := Lib.hid hr2; have I2 := Lib.hid hi2; have G := Lib.hid hg; have BE := Lib.hid hbel; have KK := Lib.hid hk
    have LL2 := Lib.hid hr2.len
    clear hr1 hi1 hr2 hi2 hg hbel hk
    by_cases h : l2 = 0
    · obtain rfl := is_none_limb I2.out (by rw [LL2.out]; exact h)
      have bl : decide (0 < l2) = false := by simp; omega
      have bl' : decide ((0 : Int) < (l2 : Int)) = false := by simp; omega
      clear h
      go_wp2
      try rw [Exit.noGoto_ret]
      go_ret
      exact ⟨_, _, _, _, rfl, R1.out, by rw [← G.out, gc_zero p0]; exact I1.out, hl1, BE.out⟩
    · have qp : 0 < q := by
        rcases Int.lt_or_eq_of_le q0 with g | g
        · exact g
        · exfalso
          have := top_zero (by omega) I2.out.1 I2.out.2.1 (I2.out.2.2.trans g.symm)
          have h2 := LL2.out
          rw [this] at h2; simp at h2; omega
      have bl : decide (0 < l2) = true := by simp; omega
      have bl' : decide ((0 : Int) < (l2 : Int)) = true := by simp; omega
      have M1 := Int.emod_lt_of_pos p qp
      have M0 := Int.emod_nonneg p (show q ≠ 0 by omega)
      have GS := Lib.hid (show gc q (p % q) = gc m n by rw [gc_step p0 q0]; exact G.out)
      have MM := Lib.hid (show p % q < 4294967296 ^ 800 by
        have := (is_lt I2.out (p := 800) (by rw [LL2.out]; exact hl2)).2
        omega)
      go_wp2_with fail
      refine (short_any a1 l1 c1 z1 p wr R1.out I1.out).mono ?_
      rintro e w1 ⟨s1, rfl, hs1, rfl⟩
      have S1 := Lib.hid hs1
      clear hs1
      cases s1
      · go_wp2_with fail
        refine (divide_is a1 l1 c1 z1 p a2 l2 c2 z2 q wr R1.out I1.out R2.out I2.out qp hl1).mono ?_
        rintro e w2 ⟨a3, l3, c3, z3, a4, l4, c4, z4, rfl, _, _, hr4, hi4, hb4⟩
        have R4 := Lib.hid hr4; have I4 := Lib.hid hi4; have B4 := Lib.hid hb4
        have L4 := Lib.hid (show l4 ≤ 800 by rw [← hr4.len]; exact hi4.len_le (by omega) MM.out)
        clear hr4 hi4 hb4
        go_wp2
        go_roundg (p % q).toNat
        case rel => exact ⟨_, _, _, z2, q, _, _, _, z4, p % q, rfl, rfl, R2.out.below B4.out, I2.out, R4.out, I4.out, hl2, L4.out, rfl, GS.out, below_next BE.out B4.out⟩
        case measure => have := KK.out; omega
      · go_wp2_with fail
        refine (short_any a2 l2 c2 z2 q wr R2.out I2.out).mono ?_
        rintro e w1 ⟨s2, rfl, hs2, rfl⟩
        have S2 := Lib.hid hs2
        clear hs2
        cases s2
        · go_wp2_with fail
          refine (divide_is a1 l1 c1 z1 p a2 l2 c2 z2 q wr R1.out I1.out R2.out I2.out qp hl1).mono ?_
          rintro e w2 ⟨a3, l3, c3, z3, a4, l4, c4, z4, rfl, _, _, hr4, hi4, hb4⟩
          have R4 := Lib.hid hr4; have I4 := Lib.hid hi4; have B4 := Lib.hid hb4
          have L4 := Lib.hid (show l4 ≤ 800 by rw [← hr4.len]; exact hi4.len_le (by omega) MM.out)
          clear hr4 hi4 hb4
          go_wp2
          go_roundg (p % q).toNat
          case rel => exact ⟨_, _, _, z2, q, _, _, _, z4, p % q, rfl, rfl, R2.out.below B4.out, I2.out, R4.out, I4.out, hl2, L4.out, rfl, GS.out, below_next BE.out B4.out⟩
          case measure => have := KK.out; omega
        · have ⟨t1, t2⟩ := S1.out (by trivial)
          have ⟨t3, t4⟩ := S2.out (by trivial)
          have g0 : 1 ≤ gc p q := gc_pos qp
          have g1 : gc p q ≤ q := gc_le qp
          obtain ⟨g, hg⟩ : ∃ g, gc p q = g := ⟨_, rfl⟩
          have EG := Lib.hid (egcd_any p q wr p0 t2 q0 t4)
          rw [hg] at EG g0 g1 G
          clear hg S1 S2
          go_wp2_with fail
          refine (number_any a1 l1 c1 z1 p wr R1.out I1.out t1 t2).mono ?_
          rintro e w1 ⟨rfl, rfl⟩
          go_wp2_with fail
          refine (number_any a2 l2 c2 z2 q wr R2.out I2.out t3 t4).mono ?_
          rintro e w1 ⟨rfl, rfl⟩
          go_wp2_with fail
          refine EG.out.mono ?_
          rintro e w1 ⟨rfl, hb1⟩
          have B1 := Lib.hid hb1
          clear hb1
          go_wp2_with fail
          refine (nOf_is g w1 (by omega) (by omega)).mono ?_
          rintro e w2 ⟨a5, l5, c5, z5, rfl, hr5, hi5, hl5, hb5⟩
          have R5 := Lib.hid hr5; have I5 := Lib.hid hi5; have B5 := Lib.hid hb5
          clear hr5 hi5 hb5
          go_wp2
          try rw [Exit.noGoto_ret]
          go_ret
          exact ⟨_, _, _, _, rfl, R5.out, by rw [← G.out]; exact I5.out, by omega, below_next (below_next BE.out B1.out) B5.out⟩
end Go.Proofs.Ytphlkpkbdnddlaa
