/-
  What the document's digits give back: times, small, sub: contracts.
-/
import Derived.Test.YtenibpnifnlfeaaNatRef1
namespace Go.Proofs.Ytenibpnifnlfeaa
open Go.RowKit

theorem times_step {B P k c x d q A' : Int} (h : c + x * k = d + B * q) : P * d + P * B * (q + k * A') = P * (c + k * (x + B * A')) := by
  rw [Int.mul_assoc, ← Int.mul_add]
  congr 1
  have e : k * (x + B * A') = x * k + B * (k * A') := by rw [Int.mul_add, Int.mul_comm k x, Int.mul_left_comm]
  rw [Int.mul_add, e]
  omega
theorem times_next {ds za : List Int} {i : Nat} {k c d q T : Int} (hl : ds.length = i) (h : c + za.getD i 0 * k = d + 10 * q)
    (hT : val 10 ds + 10 ^ i * (c + k * val 10 (za.drop i)) = T) :
    val 10 (ds ++ [d]) + 10 ^ (i + 1) * (q + k * val 10 (za.drop (i + 1))) = T := by
  rw [val_append, hl, Int.pow_succ]
  have := times_step (P := 10 ^ i) (A' := val 10 (za.drop (i + 1))) h
  rw [← val_drop] at this
  have e : val 10 [d] = d := by simp [val]
  rw [e]
  omega

theorem times_any (a : Option Addr) (la ca : Nat) (za : List Int) (k : Int) (w : World)
    (ha : Row .i64 w a la ca za) (da : Digs 10 za) (la6 : la ≤ 1000000) (k0 : 0 ≤ k) (k1 : k ≤ 4294967296) :
    Calls Try.prog 61 #[.slice a la ca, .int .i64 k] w (Gives .i64 w fun r => Is 10 r (k * val 10 za)) := by
  obtain ⟨i0, hi, hz0, hz1, hz2⟩ := info_parts Try.infoInt
  have HA := Lib.hid ha
  have DA := Lib.hid da
  have LA := Lib.hid ha.len
  clear ha da
  obtain ⟨T, hT⟩ : ∃ T, k * val 10 za = T := ⟨_, rfl⟩
  rw [hT]
  have HT := Lib.hid hT
  clear hT
  go_enter Try.func61, Try.ntmps61
  go_wp2
  go_loopw [5, 6, 7] (fun v u j wr => ∃ (i : Nat) (c : Int) (ds : List Int), j = .int .i64 i ∧ u = .int .i64 c ∧ 0 ≤ c ∧ c ≤ k ∧ (i : Int) + c ≤ la + 4294967296 ∧ wr.ownsRow w.heap.size 3 1 v i (ds.map (Value.int .i64)) ∧ Digs 10 ds ∧ ds.length = i ∧ val 10 ds + 10 ^ i * (c + k * val 10 (za.drop i)) = T ∧ Below w.heap.size w wr) (fun _ u j _ => 4294967297 * (la - (intOf j).toNat) + (intOf u).toNat)
  case atStart => exact ⟨0, 0, [], rfl, rfl, by omega, by omega, by omega, World.ownsRow_nil _ _ _ _, Digs.nil, rfl, by have := HT.out; simp [val]; exact this, Below.refl _ _⟩
  case round =>
    obtain ⟨i, c, ds, rfl, rfl, c0, c1, hic, hown, hdg, hdl, hval, hbel⟩ := hrel
    have HO := Lib.hid hown
    have HDg := Lib.hid hdg
    have HDl := Lib.hid hdl
    have HVal := Lib.hid hval
    have HW := Lib.hid hbel
    have hsz := hbel.size
    clear hown hdg hdl hval hbel
    by_cases p : i < la
    · obtain ⟨x1, x2⟩ := DA.out.getD (by omega) i
      obtain ⟨x, hx⟩ : ∃ x, za.getD i 0 = x := ⟨_, rfl⟩
      rw [hx] at x1 x2
      obtain ⟨ba, oa, rfl, hca⟩ := (HA.out.below HW.out).cell p
      rw [hx] at hca
      have bp : decide (i < la) = true := by simp; omega
      have m1 : 0 ≤ x * k := Int.mul_nonneg x1 k0
      have m2 : x * k ≤ 9 * k := Int.mul_le_mul_of_nonneg_right (by omega) k0
      have HN := Lib.hid (times_next (k := k) (d := (c + x * k) % 10) (q := (c + x * k) / 10) HDl.out (by rw [hx]; omega) HVal.out)
      clear hx
      go_wp2_with (at_builtin; refine wpList_append_own _ rfl _ _ 70 rfl w.heap.size 3 i0 (.int .i64 0) 1 8 Try.underlying70 hi hz0 hz1 hz2 rfl (by decide) _ _ _ rfl (HO.out.alloc _) ⟨wr.heap.size, 0, none⟩ 1 1 [.int .i64 ((c + x * k) % 10)] rfl rfl (one_new _ _ _) (one_cell _ _) (by unfold maxLen; omega) (by omega) (by simp; omega) ?_; intro v2 w2 hown2 hgrow2 hnil2; have HO2 := Lib.hid hown2; have HG2 := Lib.hid hgrow2; clear hown2 hgrow2 hnil2)
      go_roundw
      case rel => exact ⟨i + 1, (c + x * k) / 10, ds ++ [(c + x * k) % 10], by go_num, rfl, by omega, by omega, by omega, owns_snoc HO2.out, HDg.out.snoc ⟨by omega, by omega⟩, by simp [HDl.out], HN.out, below_append HW.out HO.out HG2.out⟩
      case measure => simp [intOf]; omega
    · have bp : decide (i < la) = false := by simp; omega
      by_cases g : 0 < c
      · have bc : decide (0 < c) = true := by simp; omega
        have HN := Lib.hid (times_next (k := k) (za := za) (d := c % 10) (q := c / 10) HDl.out (by rw [getD_out (by rw [LA.out]; omega)]; omega) HVal.out)
        go_wp2_with (at_builtin; refine wpList_append_own _ rfl _ _ 70 rfl w.heap.size 3 i0 (.int .i64 0) 1 8 Try.underlying70 hi hz0 hz1 hz2 rfl (by decide) _ _ _ rfl (HO.out.alloc _) ⟨wr.heap.size, 0, none⟩ 1 1 [.int .i64 (c % 10)] rfl rfl (one_new _ _ _) (one_cell _ _) (by unfold maxLen; omega) (by omega) (by simp; omega) ?_; intro v2 w2 hown2 hgrow2 hnil2; have HO2 := Lib.hid hown2; have HG2 := Lib.hid hgrow2; clear hown2 hgrow2 hnil2)
        go_roundw
        case rel => exact ⟨i + 1, c / 10, ds ++ [c % 10], by go_num, rfl, by omega, by omega, by omega, owns_snoc HO2.out, HDg.out.snoc ⟨by omega, by omega⟩, by simp [HDl.out], HN.out, below_append HW.out HO.out HG2.out⟩
        case measure => simp [intOf]; omega
      · have bc : decide (0 < c) = false := by simp; omega
        obtain rfl : c = 0 := by omega
        have hv : val 10 ds = T := by
          have := HVal.out
          rw [List.drop_eq_nil_of_le (by rw [LA.out]; omega)] at this
          simpa [val] using this
        obtain ⟨a', cap', rfl, hrow, hfr⟩ := row_of_owns HO.out
        have HF := Lib.hid hfr
        clear hfr
        have HR := Lib.hid hrow
        have HV := Lib.hid hv
        clear hrow hv
        go_wp2_with (go_at_call 67; refine (cut_at 10 _ _ _ ds _ HR.out HDg.out).mono ?_; rintro e w' ⟨l2, zs2, rfl, hr2, hp2, rfl⟩; have HR2 := Lib.hid hr2; have HP2 := Lib.hid hp2; clear hr2 hp2)
        go_ret
        exact ⟨_, _, _, _, rfl, HR2.out, by rw [← HV.out]; exact HP2.out, HW.out, HF.out⟩

theorem top_snoc {ds : List Int} {d : Int} (h : d ≠ 0) : Top (ds ++ [d]) := by
  unfold Top; rw [List.getLast?_append, List.getLast?_singleton]; simpa using h
theorem small_next {B : Int} {ds : List Int} {i : Nat} {c d q T : Int} (hl : ds.length = i) (h : c = d + B * q) (hT : val B ds + B ^ i * c = T) : val B (ds ++ [d]) + B ^ (i + 1) * q = T := by
  have e : val B [d] = d := by simp [val]
  rw [val_append, hl, Int.pow_succ, e, Int.mul_assoc, ← hT, h, Int.mul_add]
  omega

theorem small_any (n : Int) (w : World) (n0 : 0 ≤ n) (n1 : n ≤ 4294967296) :
    Calls Try.prog 62 #[.int .i64 n] w (Gives .i64 w fun r => Is 10 r n) := by
  obtain ⟨i0, hi, hz0, hz1, hz2⟩ := info_parts Try.infoInt
  go_enter Try.func62, Try.ntmps62
  go_wp2
  go_loopw [0, 3] (fun u v wr => ∃ (i : Nat) (c : Int) (ds : List Int), u = .int .i64 c ∧ 0 ≤ c ∧ (i : Int) + c ≤ 4294967296 ∧ wr.ownsRow w.heap.size 3 1 v i (ds.map (Value.int .i64)) ∧ Digs 10 ds ∧ ds.length = i ∧ val 10 ds + 10 ^ i * c = n ∧ (c = 0 → Top ds) ∧ Below w.heap.size w wr) (fun u _ _ => (intOf u).toNat)
  case atStart => exact ⟨0, n, [], rfl, by omega, by omega, World.ownsRow_nil _ _ _ _, Digs.nil, rfl, by simp [val], (fun _ => by simp [Top]), Below.refl _ _⟩
  case round =>
    obtain ⟨i, c, ds, rfl, c0, hic, hown, hdg, hdl, hval, htop, hbel⟩ := hrel
    have HO := Lib.hid hown
    have HDg := Lib.hid hdg
    have HDl := Lib.hid hdl
    have HVal := Lib.hid hval
    have HTop := Lib.hid htop
    have HW := Lib.hid hbel
    have hsz := hbel.size
    clear hown hdg hdl hval htop hbel
    by_cases g : 0 < c
    · have HN := Lib.hid (small_next (B := 10) (d := c % 10) (q := c / 10) HDl.out (by omega) HVal.out)
      go_wp2_with (at_builtin; refine wpList_append_own _ rfl _ _ 70 rfl w.heap.size 3 i0 (.int .i64 0) 1 8 Try.underlying70 hi hz0 hz1 hz2 rfl (by decide) _ _ _ rfl (HO.out.alloc _) ⟨wr.heap.size, 0, none⟩ 1 1 [.int .i64 (c % 10)] rfl rfl (one_new _ _ _) (one_cell _ _) (by unfold maxLen; omega) (by omega) (by simp; omega) ?_; intro v2 w2 hown2 hgrow2 hnil2; have HO2 := Lib.hid hown2; have HG2 := Lib.hid hgrow2; clear hown2 hgrow2 hnil2)
      go_roundw
      case rel => exact ⟨i + 1, c / 10, ds ++ [c % 10], rfl, by omega, by omega, owns_snoc HO2.out, HDg.out.snoc ⟨by omega, by omega⟩, by simp [HDl.out], HN.out, (fun e => top_snoc (by omega)), below_append HW.out HO.out HG2.out⟩
      case measure => simp [intOf]; omega
    · obtain rfl : c = 0 := by omega
      have hv : val 10 ds = n := by have := HVal.out; simpa using this
      obtain ⟨a', cap', rfl, hrow, hfr⟩ := row_of_owns HO.out
      have HF := Lib.hid hfr
      clear hfr
      have HR := Lib.hid hrow
      have HV := Lib.hid hv
      have HT := Lib.hid (HTop.out rfl)
      clear hrow hv HTop
      go_wp2
      go_ret
      exact ⟨_, _, _, _, rfl, HR.out, ⟨HDg.out, HT.out, HV.out⟩, HW.out, HF.out⟩

theorem sub_step {B P c x y d c' A' B' : Int} (h : x - y - c = d - B * c') : P * d + P * B * (A' - B' - c') = P * ((x + B * A') - (y + B * B') - c) := by
  rw [Int.mul_assoc, ← Int.mul_add]
  congr 1
  rw [Int.mul_sub, Int.mul_sub]
  omega
theorem sub_next {ds za zb : List Int} {i : Nat} {c d c' T : Int} (hl : ds.length = i) (h : za.getD i 0 - zb.getD i 0 - c = d - 10 * c')
    (hT : val 10 ds + 10 ^ i * (val 10 (za.drop i) - val 10 (zb.drop i) - c) = T) :
    val 10 (ds ++ [d]) + 10 ^ (i + 1) * (val 10 (za.drop (i + 1)) - val 10 (zb.drop (i + 1)) - c') = T := by
  rw [val_append, hl, Int.pow_succ]
  have := sub_step (P := 10 ^ i) (A' := val 10 (za.drop (i + 1))) (B' := val 10 (zb.drop (i + 1))) h
  rw [← val_drop, ← val_drop] at this
  have e : val 10 [d] = d := by simp [val]
  rw [e]
  omega
theorem sub_end {ds : List Int} {c T : Int} (hd : Digs 10 ds) (c0 : 0 ≤ c) (hT : 0 ≤ T) (h : val 10 ds + 10 ^ ds.length * (0 - 0 - c) = T) : val 10 ds = T := by
  have h1 := val_lt (by omega) hd
  by_cases g : c = 0
  · subst g; simpa using h
  · exfalso
    have h2 := ipow_pos (B := 10) (by omega) ds.length
    have h3 : (10 : Int) ^ ds.length * 1 ≤ 10 ^ ds.length * c := Int.mul_le_mul_of_nonneg_left (by omega) (by omega)
    have e : (10 : Int) ^ ds.length * (0 - 0 - c) = -(10 ^ ds.length * c) := by
      rw [show (0 - 0 - c : Int) = -c by omega, Int.mul_neg]
    rw [e] at h
    omega

end Go.Proofs.Ytenibpnifnlfeaa
