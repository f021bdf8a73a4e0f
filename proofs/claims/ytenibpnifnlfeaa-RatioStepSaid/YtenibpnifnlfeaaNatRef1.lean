/-
  What the document's digits give back: cut, add, times, small: contracts.
-/
import Derived.Test.YtenibpnifnlfeaaProg
import Derived.Test.YtenibpnifnlfeaaKit
import Derived.Test.YtenibpnifnlfeaaNatPlain
import Derived.Outline
namespace Go.Proofs.Ytenibpnifnlfeaa
open Go.RowKit

theorem top_take {zs : List Int} {m : Nat} (hm : m < zs.length) (h : zs.getD m 0 ≠ 0) : Top (zs.take (m + 1)) := by
  rw [take_snoc hm]
  unfold Top
  rw [List.getLast?_append, List.getLast?_singleton]
  simpa using h
theorem val_take_zero {B : Int} {zs : List Int} {m : Nat} (hm : m < zs.length) (h : zs.getD m 0 = 0) : val B (zs.take (m + 1)) = val B (zs.take m) := by
  rw [take_snoc hm, h, val_snoc_zero]

theorem cut_at (B : Int) (a : Option Addr) (len cap : Nat) (zs : List Int) (w : World) (h : Row .i64 w a len cap zs) (hd : Digs B zs) :
    Calls Try.prog 67 #[.slice a len cap] w (Cuts .i64 w a cap fun r => Is B r (val B zs)) := by
  have H := Lib.hid h
  have HD := Lib.hid hd
  have ⟨c1, c2⟩ := h.cap_le
  clear h hd
  go_enter Try.func67, Try.ntmps67
  go_wp2
  go_loop [0] (fun v => ∃ m : Nat, m ≤ len ∧ v = .slice a m cap ∧ val B (zs.take m) = val B zs) (fun v => lenOf v)
  case atStart => exact ⟨len, Nat.le_refl _, rfl, by rw [List.take_of_length_le (by rw [H.out.len]; exact Nat.le_refl _)]⟩
  case round =>
    obtain ⟨m, hm, rfl, hv⟩ := hrel
    have HV := Lib.hid hv
    clear hv
    cases m with
    | zero =>
      go_wp2
      go_ret
      exact ⟨_, _, rfl, (H.out.take (Nat.zero_le _)), ⟨HD.out.take 0, by simp [Top], HV.out⟩, rfl⟩
    | succ m =>
      obtain ⟨b, off, rfl, hc⟩ := H.out.cell (show m < len by omega)
      obtain ⟨z, hz⟩ : ∃ z, zs.getD m 0 = z := ⟨_, rfl⟩
      rw [hz] at hc
      have HZ := Lib.hid hz
      clear hz
      by_cases g : z = 0
      · subst g
        go_wp2
        go_round
        case rel => exact ⟨m, by omega, rfl, by rw [← HV.out, val_take_zero (by rw [H.out.len]; omega) HZ.out]⟩
        case measure => simp [lenOf]
      · have g' : (z == 0) = false := by simp [g]
        go_wp2
        go_ret
        exact ⟨_, _, rfl, (H.out.take hm), ⟨HD.out.take _, top_take (by rw [H.out.len]; omega) (by rw [HZ.out]; exact g), HV.out⟩, rfl⟩

theorem cut_any (B : Int) (a : Option Addr) (len cap : Nat) (zs : List Int) (w : World) (h : Row .i64 w a len cap zs) (hd : Digs B zs) :
    Calls Try.prog 67 #[.slice a len cap] w (Shows .i64 w fun r => Is B r (val B zs)) :=
  (cut_at B a len cap zs w h hd).mono fun _ _ ⟨l, r, he, hr, hp, hw⟩ => ⟨a, l, cap, r, he, hr, hp, hw⟩

theorem getD_out {zs : List Int} {i : Nat} (h : zs.length ≤ i) : zs.getD i 0 = 0 := by
  rw [List.getD_eq_getElem?_getD, List.getElem?_eq_none h]; rfl
theorem Try.infoInt : (Try.prog.info? 3).map (fun i => (i.zero, i.size, i.bytes)) = some (some (.int .i64 0), 1, 8) := by kernel_rfl

/-- one digit more of a sum -/
theorem sum_step {B P c x y d q A' B' : Int} (h : c + x + y = d + B * q) : P * d + P * B * (q + A' + B') = P * (c + (x + B * A') + (y + B * B')) := by
  rw [Int.mul_assoc, ← Int.mul_add]
  congr 1
  rw [Int.mul_add, Int.mul_add]
  omega
theorem sum_next {ds za zb : List Int} {i : Nat} {c d q T : Int} (hl : ds.length = i) (h : c + za.getD i 0 + zb.getD i 0 = d + 10 * q)
    (hT : val 10 ds + 10 ^ i * (c + val 10 (za.drop i) + val 10 (zb.drop i)) = T) :
    val 10 (ds ++ [d]) + 10 ^ (i + 1) * (q + val 10 (za.drop (i + 1)) + val 10 (zb.drop (i + 1))) = T := by
  rw [val_append, hl, Int.pow_succ]
  have := sum_step (P := 10 ^ i) (A' := val 10 (za.drop (i + 1))) (B' := val 10 (zb.drop (i + 1))) h
  rw [← val_drop, ← val_drop] at this
  have e : val 10 [d] = d := by simp [val]
  rw [e]
  omega

theorem add_any (a : Option Addr) (la ca : Nat) (za : List Int) (b : Option Addr) (lb cb : Nat) (zb : List Int) (w : World)
    (ha : Row .i64 w a la ca za) (da : Digs 10 za) (hb : Row .i64 w b lb cb zb) (db : Digs 10 zb) (la6 : la ≤ 1000000) (lb6 : lb ≤ 1000000) :
    Calls Try.prog 56 #[.slice a la ca, .slice b lb cb] w (Gives .i64 w fun r => Is 10 r (val 10 za + val 10 zb)) := by
  obtain ⟨i0, hi, hz0, hz1, hz2⟩ := info_parts Try.infoInt
  have HA := Lib.hid ha
  have HB := Lib.hid hb
  have DA := Lib.hid da
  have DB := Lib.hid db
  have LA := Lib.hid ha.len
  have LB := Lib.hid hb.len
  clear ha hb da db
  obtain ⟨T, hT⟩ : ∃ T, val 10 za + val 10 zb = T := ⟨_, rfl⟩
  rw [hT]
  have HT := Lib.hid hT
  clear hT
  go_enter Try.func56, Try.ntmps56
  go_wp2
  go_loopw [5, 6, 7] (fun v u j wr => ∃ (i : Nat) (c : Int) (ds : List Int), j = .int .i64 i ∧ u = .int .i64 c ∧ 0 ≤ c ∧ c ≤ 1 ∧ (i : Int) + c ≤ la + lb + 1 ∧ wr.ownsRow w.heap.size 3 1 v i (ds.map (Value.int .i64)) ∧ Digs 10 ds ∧ ds.length = i ∧ val 10 ds + 10 ^ i * (c + val 10 (za.drop i) + val 10 (zb.drop i)) = T ∧ Below w.heap.size w wr) (fun _ u j _ => 2 * (la - (intOf j).toNat) + 2 * (lb - (intOf j).toNat) + (intOf u).toNat)
  case atStart => exact ⟨0, 0, [], rfl, rfl, by omega, by omega, by omega, World.ownsRow_nil _ _ _ _, Digs.nil, rfl, by have := HT.out; simp [val]; exact this, Below.refl _ _⟩
  case round =>
    obtain ⟨i, c, ds, rfl, rfl, c0, c1, hic, hown, hdg, hdl, hval, hbel⟩ := hrel
    have HO := Lib.hid hown
    have HDg := Lib.hid hdg
    have HDl := Lib.hid hdl
    have HVal := Lib.hid hval
    have HW := Lib.hid hbel
    have hsz := hbel.size
    clear hown hdg hdl hval hbel
    by_cases go : (i < la ∨ i < lb) ∨ 0 < c
    · obtain ⟨x1, x2⟩ := DA.out.getD (by omega) i
      obtain ⟨y1, y2⟩ := DB.out.getD (by omega) i
      obtain ⟨x, hx⟩ : ∃ x, za.getD i 0 = x := ⟨_, rfl⟩
      obtain ⟨y, hy⟩ : ∃ y, zb.getD i 0 = y := ⟨_, rfl⟩
      rw [hx] at x1 x2
      rw [hy] at y1 y2
      by_cases p : i < la
      · by_cases q : i < lb
        · obtain ⟨ba, oa, rfl, hca⟩ := (HA.out.below HW.out).cell p
          rw [hx] at hca
          have bp : decide (i < la) = true := by simp; omega
          obtain ⟨bb, ob, rfl, hcb⟩ := (HB.out.below HW.out).cell q
          rw [hy] at hcb
          have bq : decide (i < lb) = true := by simp; omega
          have HN := Lib.hid (sum_next (d := (c + x + y) % 10) (q := (c + x + y) / 10) HDl.out (by rw [hx, hy]; omega) HVal.out)
          clear hx hy
          go_wp2_with (at_builtin; refine wpList_append_own _ rfl _ _ 70 rfl w.heap.size 3 i0 (.int .i64 0) 1 8 Try.underlying70 hi hz0 hz1 hz2 rfl (by decide) _ _ _ rfl (HO.out.alloc _) ⟨wr.heap.size, 0, none⟩ 1 1 [.int .i64 ((c + x + y) % 10)] rfl rfl (one_new _ _ _) (one_cell _ _) (by unfold maxLen; omega) (by omega) (by simp; omega) ?_; intro v2 w2 hown2 hgrow2 hnil2; have HO2 := Lib.hid hown2; have HG2 := Lib.hid hgrow2; clear hown2 hgrow2 hnil2)
          go_roundw
          case rel => exact ⟨i + 1, (c + x + y) / 10, ds ++ [(c + x + y) % 10], by go_num, rfl, by omega, by omega, by omega, owns_snoc HO2.out, HDg.out.snoc ⟨by omega, by omega⟩, by simp [HDl.out], HN.out, below_append HW.out HO.out HG2.out⟩
          case measure => simp [intOf]; omega
        · obtain ⟨ba, oa, rfl, hca⟩ := (HA.out.below HW.out).cell p
          rw [hx] at hca
          have bp : decide (i < la) = true := by simp; omega
          have y0 : y = 0 := by rw [← hy]; exact getD_out (by rw [LB.out]; omega)
          subst y0
          have bq : decide (i < lb) = false := by simp; omega
          have HN := Lib.hid (sum_next (d := (c + x) % 10) (q := (c + x) / 10) HDl.out (by rw [hx, hy]; omega) HVal.out)
          clear hx hy
          go_wp2_with (at_builtin; refine wpList_append_own _ rfl _ _ 70 rfl w.heap.size 3 i0 (.int .i64 0) 1 8 Try.underlying70 hi hz0 hz1 hz2 rfl (by decide) _ _ _ rfl (HO.out.alloc _) ⟨wr.heap.size, 0, none⟩ 1 1 [.int .i64 ((c + x) % 10)] rfl rfl (one_new _ _ _) (one_cell _ _) (by unfold maxLen; omega) (by omega) (by simp; omega) ?_; intro v2 w2 hown2 hgrow2 hnil2; have HO2 := Lib.hid hown2; have HG2 := Lib.hid hgrow2; clear hown2 hgrow2 hnil2)
          go_roundw
          case rel => exact ⟨i + 1, (c + x) / 10, ds ++ [(c + x) % 10], by go_num, rfl, by omega, by omega, by omega, owns_snoc HO2.out, HDg.out.snoc ⟨by omega, by omega⟩, by simp [HDl.out], HN.out, below_append HW.out HO.out HG2.out⟩
          case measure => simp [intOf]; omega
      · by_cases q : i < lb
        · have x0 : x = 0 := by rw [← hx]; exact getD_out (by rw [LA.out]; omega)
          subst x0
          have bp : decide (i < la) = false := by simp; omega
          obtain ⟨bb, ob, rfl, hcb⟩ := (HB.out.below HW.out).cell q
          rw [hy] at hcb
          have bq : decide (i < lb) = true := by simp; omega
          have HN := Lib.hid (sum_next (d := (c + y) % 10) (q := (c + y) / 10) HDl.out (by rw [hx, hy]; omega) HVal.out)
          clear hx hy
          go_wp2_with (at_builtin; refine wpList_append_own _ rfl _ _ 70 rfl w.heap.size 3 i0 (.int .i64 0) 1 8 Try.underlying70 hi hz0 hz1 hz2 rfl (by decide) _ _ _ rfl (HO.out.alloc _) ⟨wr.heap.size, 0, none⟩ 1 1 [.int .i64 ((c + y) % 10)] rfl rfl (one_new _ _ _) (one_cell _ _) (by unfold maxLen; omega) (by omega) (by simp; omega) ?_; intro v2 w2 hown2 hgrow2 hnil2; have HO2 := Lib.hid hown2; have HG2 := Lib.hid hgrow2; clear hown2 hgrow2 hnil2)
          go_roundw
          case rel => exact ⟨i + 1, (c + y) / 10, ds ++ [(c + y) % 10], by go_num, rfl, by omega, by omega, by omega, owns_snoc HO2.out, HDg.out.snoc ⟨by omega, by omega⟩, by simp [HDl.out], HN.out, below_append HW.out HO.out HG2.out⟩
          case measure => simp [intOf]; omega
        · have x0 : x = 0 := by rw [← hx]; exact getD_out (by rw [LA.out]; omega)
          subst x0
          have bp : decide (i < la) = false := by simp; omega
          have y0 : y = 0 := by rw [← hy]; exact getD_out (by rw [LB.out]; omega)
          subst y0
          have bq : decide (i < lb) = false := by simp; omega
          have bc : decide (0 < c) = true := by simp; omega
          have HN := Lib.hid (sum_next (d := (c) % 10) (q := (c) / 10) HDl.out (by rw [hx, hy]; omega) HVal.out)
          clear hx hy
          go_wp2_with (at_builtin; refine wpList_append_own _ rfl _ _ 70 rfl w.heap.size 3 i0 (.int .i64 0) 1 8 Try.underlying70 hi hz0 hz1 hz2 rfl (by decide) _ _ _ rfl (HO.out.alloc _) ⟨wr.heap.size, 0, none⟩ 1 1 [.int .i64 ((c) % 10)] rfl rfl (one_new _ _ _) (one_cell _ _) (by unfold maxLen; omega) (by omega) (by simp; omega) ?_; intro v2 w2 hown2 hgrow2 hnil2; have HO2 := Lib.hid hown2; have HG2 := Lib.hid hgrow2; clear hown2 hgrow2 hnil2)
          go_roundw
          case rel => exact ⟨i + 1, (c) / 10, ds ++ [(c) % 10], by go_num, rfl, by omega, by omega, by omega, owns_snoc HO2.out, HDg.out.snoc ⟨by omega, by omega⟩, by simp [HDl.out], HN.out, below_append HW.out HO.out HG2.out⟩
          case measure => simp [intOf]; omega
    · have bp : decide (i < la) = false := by simp; omega
      have bq : decide (i < lb) = false := by simp; omega
      have bc : decide (0 < c) = false := by simp; omega
      obtain rfl : c = 0 := by omega
      have hv : val 10 ds = T := by
        have := HVal.out
        rw [List.drop_eq_nil_of_le (by rw [LA.out]; omega), List.drop_eq_nil_of_le (by rw [LB.out]; omega)] at this
        simpa [val] using this
      obtain ⟨a', cap', rfl, hrow, hfr⟩ := row_of_owns HO.out
      have HF := Lib.hid hfr
      clear hfr
      have HR := Lib.hid hrow
      have HV := Lib.hid hv
      clear hrow hv
      go_wp2_with (go_at_call 67; refine (cut_at 10 _ _ _ ds _ HR.out HDg.out).mono ?_; rintro e w' ⟨l2, zs2, rfl, hr2, hp2, rfl⟩; have HR2 := Lib.hid hr2; have HP2 := Lib.hid hp2; clear hr2 hp2)
      go_ret
      exact ⟨_, _, _, _, rfl, HR2.out, by rw [← HV.out]; exact HP2.out, HW.out, HF.out⟩
end Go.Proofs.Ytenibpnifnlfeaa
