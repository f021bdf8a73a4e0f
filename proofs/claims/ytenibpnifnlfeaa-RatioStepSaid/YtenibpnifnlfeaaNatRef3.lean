/-
  What the document's numbers give back: cmp, Same, Check, Of: contracts.
-/
import Derived.Test.YtenibpnifnlfeaaNatRef2
namespace Go.Proofs.Ytenibpnifnlfeaa
open Go.RowKit

def cmpI (m n : Int) : Int := if m < n then -1 else if n < m then 1 else 0
theorem cmpI_lt {m n : Int} (h : m < n) : cmpI m n = -1 := if_pos h
theorem cmpI_gt {m n : Int} (h : n < m) : cmpI m n = 1 := by unfold cmpI; rw [if_neg (by omega), if_pos h]
theorem cmpI_eq {m n : Int} (h : m = n) : cmpI m n = 0 := by unfold cmpI; rw [if_neg (by omega), if_neg (by omega)]

theorem len_lt {B : Int} (hB : 1 < B) {za zb : List Int} {m n : Int} (ha : Is B za m) (hb : Is B zb n) (h : za.length < zb.length) : m < n := by
  have h1 := val_lt (by omega) ha.1
  rw [ha.2.2] at h1
  have h2 := Is.pow_le (by omega) hb (by intro e; rw [e] at h; simp at h)
  have h3 := ipow_le (B := B) (by omega) (show za.length ≤ zb.length - 1 by omega)
  omega
theorem val_split (B : Int) (zs : List Int) {i : Nat} (h : i ≤ zs.length) : val B zs = val B (zs.take i) + B ^ i * val B (zs.drop i) := by
  have := val_append B (zs.take i) (zs.drop i)
  rw [List.take_append_drop, List.length_take, Nat.min_eq_left h] at this
  exact this
theorem dig_lt {B : Int} (hB : 0 < B) {za zb : List Int} {i : Nat} (da : Digs B za) (db : Digs B zb) (ha : i < za.length) (hb : i < zb.length)
    (hd : val B (za.drop (i + 1)) = val B (zb.drop (i + 1))) (h : za.getD i 0 < zb.getD i 0) : val B za < val B zb := by
  rw [val_split B za (Nat.le_of_lt ha), val_split B zb (Nat.le_of_lt hb), val_drop B za, val_drop B zb, hd]
  have h1 := val_lt hB (da.take i)
  rw [List.length_take, Nat.min_eq_left (Nat.le_of_lt ha)] at h1
  have h2 := val_nonneg hB (db.take i)
  have h3 := ipow_pos hB i
  have h4 : B ^ i * (za.getD i 0 + B * val B (zb.drop (i + 1)) + 1) ≤ B ^ i * (zb.getD i 0 + B * val B (zb.drop (i + 1))) := Int.mul_le_mul_of_nonneg_left (by omega) (by omega)
  rw [Int.mul_add _ _ 1] at h4
  omega

theorem cmp_any (a : Option Addr) (la ca : Nat) (za : List Int) (m : Int) (b : Option Addr) (lb cb : Nat) (zb : List Int) (n : Int) (w : World)
    (ha : Row .i64 w a la ca za) (ia : Is 10 za m) (hb : Row .i64 w b lb cb zb) (ib : Is 10 zb n) :
    Calls Try.prog 49 #[.slice a la ca, .slice b lb cb] w fun e w' => e = .returned (.int .i64 (cmpI m n)) ∧ ∃ k, w' = w.drewN k := by
  have ⟨c1, c2⟩ := ha.cap_le
  have ⟨c3, c4⟩ := hb.cap_le
  rcases Nat.lt_trichotomy la lb with h | h | h
  · have e := Lib.hid (cmpI_lt (len_lt (by omega) ia ib (by rw [ha.len, hb.len]; exact h)))
    have b1 : ((la : Int) != (lb : Int)) = true := by simp; omega
    clear ha hb ia ib
    go_enter Try.func49, Try.ntmps49
    go_wp2
    go_ret
    exact ⟨ret_one e.out.symm, 0, rfl⟩
  · subst h
    have HA := Lib.hid ha
    have HB := Lib.hid hb
    have IA := Lib.hid ia
    have IB := Lib.hid ib
    clear ha hb ia ib
    go_enter Try.func49, Try.ntmps49
    go_wp2
    go_loopw [5] (fun i wr => ∃ (c : Int) (j t : Nat), i = .int .i64 c ∧ c = j - 1 ∧ j ≤ la ∧ val 10 (za.drop j) = val 10 (zb.drop j) ∧ wr = w.drewN t) (fun i _ => (intOf i + 1).toNat)
    case atStart => exact ⟨_, la, 0, rfl, rfl, Nat.le_refl _, by rw [List.drop_eq_nil_of_le (by rw [HA.out.len]; omega), List.drop_eq_nil_of_le (by rw [HB.out.len]; omega)], rfl⟩
    case round =>
      obtain ⟨c, j, t, rfl, hcj, hj, hval, rfl⟩ := hrel
      have HV := Lib.hid hval
      clear hval
      cases j with
      | zero =>
        obtain rfl : c = -1 := by omega
        have e := Lib.hid (cmpI_eq (show m = n by rw [← IA.out.2.2, ← IB.out.2.2]; exact HV.out))
        clear hcj
        go_wp2
        go_ret
        exact ⟨ret_one e.out.symm, _, rfl⟩
      | succ i =>
        obtain rfl : c = (i : Int) := by omega
        clear hcj
        obtain ⟨ba, oa, rfl, hca⟩ := HA.out.cell (show i < la by omega)
        obtain ⟨bb, ob, rfl, hcb⟩ := HB.out.cell (show i < la by omega)
        obtain ⟨x, hx⟩ : ∃ x, za.getD i 0 = x := ⟨_, rfl⟩
        obtain ⟨y, hy⟩ : ∃ y, zb.getD i 0 = y := ⟨_, rfl⟩
        have i1 : (i : Int) < (la : Int) := by omega
        have i2 : 0 ≤ (i : Int) := by omega
        have va := IA.out.2.2
        have vb := IB.out.2.2
        rcases Int.lt_trichotomy x y with g | g | g
        · have e := Lib.hid (cmpI_lt (show m < n by rw [← va, ← vb]; exact dig_lt (by omega) IA.out.1 IB.out.1 (by rw [HA.out.len]; omega) (by rw [HB.out.len]; omega) HV.out (by rw [hx, hy]; exact g)))
          rw [hx] at hca
          rw [hy] at hcb
          clear hx hy va vb
          go_wp2
          go_quiet (fail)
          go_wp2
          go_ret
          refine ⟨ret_one e.out.symm, ?_⟩
          simp only [World.drewN_drewN]
          exact ⟨_, rfl⟩
        · subst g
          have e := Lib.hid (show val 10 (za.drop i) = val 10 (zb.drop i) by rw [val_drop, val_drop 10 zb, hx, hy, HV.out])
          rw [hx] at hca
          rw [hy] at hcb
          clear hx hy va vb
          go_wp2
          go_quiet (fail)
          go_wp2
          go_quiet (fail)
          go_wp2
          go_roundw
          case rel => exact ⟨_, i, _, rfl, rfl, by omega, e.out, rfl⟩
          case measure => simp [intOf] <;> omega
        · have e := Lib.hid (cmpI_gt (show n < m by rw [← va, ← vb]; exact dig_lt (by omega) IB.out.1 IA.out.1 (by rw [HB.out.len]; omega) (by rw [HA.out.len]; omega) HV.out.symm (by rw [hx, hy]; exact g)))
          rw [hx] at hca
          rw [hy] at hcb
          clear hx hy va vb
          go_wp2
          go_quiet (fail)
          go_wp2
          go_quiet (fail)
          go_wp2
          go_ret
          refine ⟨ret_one e.out.symm, ?_⟩
          simp only [World.drewN_drewN]
          exact ⟨_, rfl⟩
  · have e := Lib.hid (cmpI_gt (len_lt (by omega) ib ia (by rw [ha.len, hb.len]; exact h)))
    have b1 : ((la : Int) != (lb : Int)) = true := by simp; omega
    have b2 : decide (la < lb) = false := by simp; omega
    clear ha hb ia ib
    go_enter Try.func49, Try.ntmps49
    go_wp2
    go_ret
    exact ⟨ret_one e.out.symm, 0, rfl⟩

theorem take_eq_of {za zb : List Int} {i : Nat} (ha : i < za.length) (hb : i < zb.length) (h : za.take i = zb.take i) (e : za.getD i 0 = zb.getD i 0) : za.take (i + 1) = zb.take (i + 1) := by
  rw [take_snoc ha, take_snoc hb, h, e]

/-- are two rows the same? b: they are -/
theorem same_any (a : Option Addr) (la ca : Nat) (za : List Int) (b : Option Addr) (lb cb : Nat) (zb : List Int) (w : World) (r : Bool)
    (ha : Row .u32 w a la ca za) (hb : Row .u32 w b lb cb zb) (hr : r = true ↔ za = zb) :
    Calls Try.prog 46 #[.slice a la ca, .slice b lb cb] w fun e w' => e = .returned (.bool r) ∧ ∃ k, w' = w.drewN k := by
  have ⟨c1, c2⟩ := ha.cap_le
  have ⟨c3, c4⟩ := hb.cap_le
  by_cases h : la = lb
  · subst h
    have HA := Lib.hid ha
    have HB := Lib.hid hb
    have HR := Lib.hid hr
    clear ha hb hr
    go_enter Try.func46, Try.ntmps46
    go_wp2
    go_loopw [5] (fun i wr => ∃ (k t : Nat), i = .int .i64 k ∧ k ≤ la ∧ za.take k = zb.take k ∧ wr = w.drewN t) (fun i _ => la - (intOf i).toNat)
    case atStart => exact ⟨0, 0, rfl, by omega, rfl, rfl⟩
    case round =>
      obtain ⟨k, t, rfl, hk, hval, rfl⟩ := hrel
      have HV := Lib.hid hval
      clear hval
      by_cases g : k < la
      · obtain ⟨ba, oa, rfl, hca⟩ := HA.out.cell g
        obtain ⟨bb, ob, rfl, hcb⟩ := HB.out.cell g
        obtain ⟨x, hx⟩ : ∃ x, za.getD k 0 = x := ⟨_, rfl⟩
        obtain ⟨y, hy⟩ : ∃ y, zb.getD k 0 = y := ⟨_, rfl⟩
        have i1 : (k : Int) < (la : Int) := by omega
        have i2 : 0 ≤ (k : Int) := by omega
        rw [hx] at hca
        rw [hy] at hcb
        by_cases e : x = y
        · subst e
          have E := Lib.hid (take_eq_of (by rw [HA.out.len]; exact g) (by rw [HB.out.len]; exact g) HV.out (hx.trans hy.symm))
          clear hx hy
          go_wp2
          go_quiet (fail)
          go_wp2
          go_roundw
          case rel => exact ⟨k + 1, _, by go_num, by omega, E.out, rfl⟩
          case measure => simp [intOf] <;> omega
        · have E : r = false := by
            rcases r with _ | _
            · rfl
            · exact absurd (by rw [← hx, ← hy, HR.out.mp rfl]) e
          subst E
          have n1 : (x != y) = true := by simp [e]
          clear hx hy e HR
          go_wp2
          go_quiet (fail)
          go_wp2
          go_ret
          refine ⟨rfl, ?_⟩
          simp only [World.drewN_drewN]
          exact ⟨_, rfl⟩
      · have E : r = true := HR.out.mpr (by
          have := HV.out
          rw [List.take_of_length_le (by rw [HA.out.len]; omega), List.take_of_length_le (by rw [HB.out.len]; omega)] at this
          exact this)
        subst E
        clear HR
        go_wp2
        go_ret
        exact ⟨rfl, _, rfl⟩
  · have E : r = false := by
      rcases r with _ | _
      · rfl
      · exact absurd (by rw [← ha.len, ← hb.len, hr.mp rfl]) h
    subst E
    have n1 : ((la : Int) != (lb : Int)) = true := by simp; omega
    clear ha hb hr
    go_enter Try.func46, Try.ntmps46
    go_wp2
    go_ret
    exact ⟨rfl, 0, rfl⟩

theorem top_of {zs : List Int} {m : Nat} (h : zs.length = m + 1) : Top zs ↔ zs.getD m 0 ≠ 0 := by
  have e : zs = zs.take m ++ [zs.getD m 0] := by
    rw [← take_snoc (by omega), List.take_of_length_le (by omega)]
  have e2 : (zs.take m ++ [zs.getD m 0]).getLast? = some (zs.getD m 0) := by
    rw [List.getLast?_append, List.getLast?_singleton]; rfl
  rw [← e] at e2
  unfold Top
  rw [e2]
  simp

theorem check_any (a : Option Addr) (la ca : Nat) (za : List Int) (w : World) (r : Bool) (ha : Row .u32 w a la ca za) (hr : r = true ↔ Top za) :
    Calls Try.prog 47 #[.slice a la ca] w fun e w' => e = .returned (.bool r) ∧ w = w' := by
  have ⟨c1, c2⟩ := ha.cap_le
  cases la with
  | zero =>
    have E : r = true := hr.mpr (by have := ha.len; rw [List.length_eq_zero_iff.mp this]; simp [Top])
    subst E
    clear hr ha
    go_enter Try.func47, Try.ntmps47
    go_wp2
    go_ret
    exact ⟨rfl, rfl⟩
  | succ m =>
    obtain ⟨b, off, rfl, hc⟩ := ha.cell (show m < m + 1 by omega)
    have ht := top_of ha.len
    obtain ⟨z, hz⟩ : ∃ z, za.getD m 0 = z := ⟨_, rfl⟩
    rw [hz] at hc ht
    have n0 : (((m + 1 : Nat) : Int) == 0) = false := by simp; omega
    have n1 : ((m : Int) + 1 == 0) = false := by simp; omega
    by_cases g : z = 0
    · have E : r = false := by
        rcases r with _ | _
        · rfl
        · exact absurd g (ht.mp (hr.mp rfl))
      subst E
      subst g
      clear hr ha ht hz
      go_enter Try.func47, Try.ntmps47
      go_wp2
      go_ret
      exact ⟨rfl, rfl⟩
    · have E : r = true := hr.mpr (ht.mpr g)
      subst E
      have g1 : (z != 0) = true := by simp [g]
      clear hr ha ht hz g
      go_enter Try.func47, Try.ntmps47
      go_wp2
      go_ret
      exact ⟨rfl, rfl⟩

theorem Try.infoU32 : (Try.prog.info? 38).map (fun i => (i.zero, i.size, i.bytes)) = some (some (.int .u32 0), 1, 4) := by kernel_rfl

theorem of_any (n : Int) (w : World) (n0 : 0 ≤ n) (n1 : n ≤ 18446744073709551615) :
    Calls Try.prog 19 #[.int .u64 n] w (Gives .u32 w fun r => Is 4294967296 r n) := by
  obtain ⟨i0, hi, hz0, hz1, hz2⟩ := info_parts Try.infoU32
  go_enter Try.func19, Try.ntmps19
  go_wp2
  go_loopw [0, 3] (fun u v wr => ∃ (i : Nat) (c : Int) (ds : List Int), u = .int .u64 c ∧ 0 ≤ c ∧ c ≤ 18446744073709551615 ∧ (c = 0 ∨ i ≤ 1) ∧ (i ≤ 2) ∧ (i = 1 → c < 4294967296) ∧ wr.ownsRow w.heap.size 38 1 v i (ds.map (Value.int .u32)) ∧ Digs 4294967296 ds ∧ ds.length = i ∧ val 4294967296 ds + 4294967296 ^ i * c = n ∧ (c = 0 → Top ds) ∧ Below w.heap.size w wr) (fun u _ _ => (intOf u).toNat)
  case atStart => exact ⟨0, n, [], rfl, by omega, by omega, by omega, by omega, by omega, World.ownsRow_nil _ _ _ _, Digs.nil, rfl, by simp [val], (fun _ => by simp [Top]), Below.refl _ _⟩
  case round =>
    obtain ⟨i, c, ds, rfl, c0, c1, hic, hi2, hi1, hown, hdg, hdl, hval, htop, hbel⟩ := hrel
    have HO := Lib.hid hown
    have HDg := Lib.hid hdg
    have HDl := Lib.hid hdl
    have HVal := Lib.hid hval
    have HTop := Lib.hid htop
    have HW := Lib.hid hbel
    have HI := Lib.hid hi1
    have hsz := hbel.size
    clear hown hdg hdl hval htop hbel hi1
    by_cases g : 0 < c
    · have HN := Lib.hid (small_next (B := 4294967296) (d := c % 4294967296) (q := c / 4294967296) HDl.out (by omega) HVal.out)
      have hi1 : i ≤ 1 := by omega
      have Q := Lib.hid (show c / 4294967296 = 0 ∨ i + 1 ≤ 1 by have := HI.out; omega)
      clear hic
      go_wp2_with (at_builtin; refine wpList_append_own _ rfl _ _ 24 rfl w.heap.size 38 i0 (.int .u32 0) 1 4 Try.underlying24 hi hz0 hz1 hz2 rfl (by decide) _ _ _ rfl (HO.out.alloc _) ⟨wr.heap.size, 0, none⟩ 1 1 [.int .u32 (c % 4294967296)] rfl rfl (one_new _ _ _) (one_cell _ _) (by unfold maxLen; omega) (by omega) (by simp; omega) ?_; intro v2 w2 hown2 hgrow2 hnil2; have HO2 := Lib.hid hown2; have HG2 := Lib.hid hgrow2; clear hown2 hgrow2 hnil2)
      go_roundw
      case rel => exact ⟨i + 1, c / 4294967296, ds ++ [c % 4294967296], rfl, by omega, by omega, Q.out, by omega, by omega, owns_snoc HO2.out, HDg.out.snoc ⟨by omega, by omega⟩, by simp [HDl.out], HN.out, (fun e => top_snoc (by omega)), below_append HW.out HO.out HG2.out⟩
      case measure => simp [intOf]; omega
    · obtain rfl : c = 0 := by omega
      have hv : val 4294967296 ds = n := by have := HVal.out; simpa using this
      obtain ⟨a', cap', rfl, hrow, hfr⟩ := row_of_owns HO.out
      have HF := Lib.hid hfr
      clear hfr
      have HR := Lib.hid hrow
      have HV := Lib.hid hv
      have HT := Lib.hid (HTop.out rfl)
      clear hrow hv HTop
      go_wp2
      go_ret
      exact ⟨_, _, _, _, rfl, HR.out, ⟨HDg.out, HT.out, HV.out⟩, HW.out, HF.out⟩
end Go.Proofs.Ytenibpnifnlfeaa
