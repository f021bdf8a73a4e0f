/-
  What the document's digits give back: FromLimbs, mul: contracts.
-/
import Derived.Test.YtenibpnifnlfeaaNatRef3
import Derived.Deep.RegionHeld3
import Derived.Laws.AppendOwnNone
namespace Go.Proofs.Ytenibpnifnlfeaa
open Go.RowKit

/-- a bound on how many digits a number has -/
theorem big_pow : (4294967296 : Int) ^ 102 ≤ 10 ^ 1100 := by decide +kernel
theorem Is.len6 {zs : List Int} {n : Int} (h : Is 10 zs n) (hn : n < 4294967296 ^ 102) : zs.length ≤ 1000000 := by
  have := h.len_le (L := 1100) (by omega) (by have := big_pow; omega)
  omega
theorem val_drop_lt {za : List Int} (da : Digs 4294967296 za) (hl : za.length ≤ 100) (j : Nat) : 0 ≤ val 4294967296 (za.drop j) ∧ val 4294967296 (za.drop j) < 4294967296 ^ 100 := by
  have h1 := val_lt (by omega) (da.drop j)
  have h2 := ipow_le (B := 4294967296) (by omega) (show (za.drop j).length ≤ 100 by rw [List.length_drop]; omega)
  exact ⟨val_nonneg (by omega) (da.drop j), by omega⟩
theorem pow_101 : (4294967296 : Int) ^ 101 = 4294967296 * 4294967296 ^ 100 := by decide +kernel
theorem pow_102 : (4294967296 : Int) ^ 102 = 4294967296 * 4294967296 ^ 101 := by decide +kernel
theorem len_of_from {zs : List Int} {v d : Int} (h : Is 10 zs (4294967296 * v + d)) (_ : 0 ≤ v) (v1 : v < 4294967296 ^ 100) (d1 : d < 4294967296) : zs.length ≤ 1000000 := by
  refine h.len6 ?_
  have := pow_101
  have := pow_102
  have := ipow_pos (B := 4294967296) (by omega) 100
  generalize (4294967296 : Int) ^ 100 = p at *
  generalize (4294967296 : Int) ^ 101 = q at *
  generalize (4294967296 : Int) ^ 102 = r at *
  omega

theorem from_any (a : Option Addr) (la ca : Nat) (za : List Int) (w : World) (ha : Row .u32 w a la ca za) (da : Digs 4294967296 za) (hl : la ≤ 100) :
    Calls Try.prog 43 #[.slice a la ca] w (Gives .i64 w fun r => Is 10 r (val 4294967296 za)) := by
  have HA := Lib.hid ha
  have DA := Lib.hid da
  have LA := Lib.hid ha.len
  clear ha da
  go_enter Try.func43, Try.ntmps43
  go_wp2
  go_loopw [3, 4] (fun v i wr => ∃ (c : Int) (j : Nat) (ao : Option Addr) (lo co : Nat) (zo : List Int), i = .int .i64 c ∧ c = j - 1 ∧ j ≤ la ∧ v = .slice ao lo co ∧ lo ≤ 1000000 ∧ Row .i64 wr ao lo co zo ∧ Is 10 zo (val 4294967296 (za.drop j)) ∧ Below w.heap.size w wr ∧ Fresh w.heap.size ao) (fun _ i _ => (intOf i + 1).toNat)
  case atStart => exact ⟨_, la, none, 0, 0, [], rfl, rfl, Nat.le_refl _, rfl, by omega, Row.nil, by rw [List.drop_eq_nil_of_le (by rw [LA.out]; omega)]; exact is_nil, Below.refl _ _, Fresh.none⟩
  case round =>
    obtain ⟨c, j, ao, lo, co, zo, rfl, hcj, hj, rfl, hlo, hro, hio, hbel, hfo⟩ := hrel
    have HFo := Lib.hid hfo
    clear hfo
    have HR := Lib.hid hro
    have HI := Lib.hid hio
    have HW := Lib.hid hbel
    clear hro hio hbel
    cases j with
    | zero =>
      obtain rfl : c = -1 := by omega
      clear hcj
      go_wp2
      go_ret
      exact ⟨_, _, _, _, rfl, HR.out, HI.out, HW.out, HFo.out⟩
    | succ i =>
      obtain rfl : c = (i : Int) := by omega
      clear hcj
      obtain ⟨ba, oa, rfl, hca⟩ := (HA.out.below HW.out).cell (show i < la by omega)
      obtain ⟨x1, x2⟩ := DA.out.getD (by omega) i
      obtain ⟨x, hx⟩ : ∃ x, za.getD i 0 = x := ⟨_, rfl⟩
      rw [hx] at hca x1 x2
      have HX := Lib.hid hx
      clear hx
      have i1 : (i : Int) < (la : Int) := by omega
      have i2 : 0 ≤ (i : Int) := by omega
      have wx : IntKind.i64.wrap x = x := IntWalk.i64_in _ (by omega)
      have hlt := World.block_lt_of_cell? _ _ hca
      have HV := Lib.hid (val_drop_lt DA.out (by rw [LA.out]; exact hl) (i + 1))
      have RD := Lib.hid HR.out.drew
      have LO := Lib.hid hlo
      have HC := Lib.hid hca
      go_wp2
      go_region_held3 (fun w' => w'.cell? ⟨ba, oa + i, none⟩ = some (.int .u32 x)) (first | go_keep | exact (HB3.out.cell (p := ⟨ba, oa + i, none⟩) (Nat.lt_of_lt_of_le (Nat.lt_of_lt_of_le hlt HBT.out.size) HBS.out.size)).trans ((HBS.out.cell (p := ⟨ba, oa + i, none⟩) (Nat.lt_of_lt_of_le hlt HBT.out.size)).trans ((HBT.out.cell (p := ⟨ba, oa + i, none⟩) hlt).trans HC.out)) | exact (HBS.out.cell (p := ⟨ba, oa + i, none⟩) (Nat.lt_of_lt_of_le hlt HBT.out.size)).trans ((HBT.out.cell (p := ⟨ba, oa + i, none⟩) hlt).trans HC.out) | exact (HBT.out.cell (p := ⟨ba, oa + i, none⟩) hlt).trans HC.out)
        (first
          | (go_at_call 61; refine (times_any _ _ _ zo _ _ RD.out HI.out.1 LO.out (by omega) (by omega)).mono ?_; rintro e wt ⟨at1, lt, ct, zt, rfl, hrt, hit, hbt, _⟩; have LT := Lib.hid (show lt ≤ 1000000 by rw [← hrt.len]; exact len_of_from (d := 0) (by rw [Int.add_zero, ← HI.out.2.2]; exact hit) HV.out.1 HV.out.2 (by omega)); have HRT := Lib.hid hrt; have HIT := Lib.hid hit; have HBT := Lib.hid hbt; clear hrt hit hbt)
          | (go_at_call 62; refine (small_any _ _ (by omega) (by omega)).mono ?_; rintro e ws ⟨as1, ls, cs, zs, rfl, hrs, his, hbs, _⟩; have LS := Lib.hid (show ls ≤ 1000000 by rw [← hrs.len]; exact len_of_from (v := 0) (d := x) (by rw [Int.mul_zero, Int.zero_add]; exact his) (by omega) (ipow_pos (by omega) 100) x2); have HRS := Lib.hid hrs; have HIS := Lib.hid his; have HBS := Lib.hid hbs; clear hrs his hbs)
          | (go_at_call 56; refine (add_any _ _ _ zt _ _ _ zs _ (HRT.out.below HBS.out) HIT.out.1 HRS.out HIS.out.1 LT.out LS.out).mono ?_; rintro e w3 ⟨a3, l3, c3, z3, rfl, hr3, hi3, hb3, hf3⟩; have HR3 := Lib.hid hr3; have HI3 := Lib.hid hi3; have HB3 := Lib.hid hb3; have HF3 := Lib.hid hf3; clear hr3 hi3 hb3 hf3))
      all_goals
        have hv3 : val 10 zt + val 10 zs = val 4294967296 (za.drop i) := by
          rw [HIT.out.2.2, HIS.out.2.2, val_drop, HX.out, HI.out.2.2]; omega
        have I3 := Lib.hid (hv3 ▸ HI3.out)
        have L3 := Lib.hid (show l3 ≤ 1000000 by rw [← HR3.out.len]; exact len_of_from (d := x) (by have := HI3.out; rw [HIT.out.2.2, HIS.out.2.2, HI.out.2.2] at this; exact this) HV.out.1 HV.out.2 x2)
        clear hv3
        go_wp2
        go_roundw
        case rel => exact ⟨_, i, a3, l3, c3, z3, rfl, rfl, by omega, rfl, L3.out, HR3.out, I3.out, below_next (below_next (below_next HW.out.drew HBT.out) HBS.out) HB3.out, HF3.out.mono (below_next (below_next HW.out.drew HBT.out) HBS.out).size⟩
        case measure => simp [intOf] <;> omega

theorem pow_600 : (10 : Int) ^ 600 * 10 ^ 600 = 10 ^ 1200 := by decide +kernel
theorem pow_1300 : (10 : Int) ^ 1200 * 10 + 10 ^ 1200 ≤ 10 ^ 1300 := by decide +kernel
theorem prod_lt {m v : Int} (m0 : 0 ≤ m) (m1 : m < 10 ^ 600) (v0 : 0 ≤ v) (v1 : v < 10 ^ 600) : 0 ≤ m * v ∧ m * v < 10 ^ 1200 := by
  have h0 := Int.mul_nonneg m0 v0
  have h1 : m * v ≤ m * 10 ^ 600 := Int.mul_le_mul_of_nonneg_left (by omega) m0
  have h2 : m * 10 ^ 600 < 10 ^ 600 * 10 ^ 600 := Int.mul_lt_mul_of_pos_right m1 (ipow_pos (by omega) 600)
  have h3 := pow_600
  omega
theorem len_mul {zs : List Int} {n : Int} (h : Is 10 zs n) (hn : n < 10 ^ 1300) : zs.length ≤ 1000000 := by
  have := h.len_le (L := 1300) (by omega) hn
  omega
theorem val_lt_600 {za : List Int} (da : Digs 10 za) (hl : za.length ≤ 600) : 0 ≤ val 10 za ∧ val 10 za < 10 ^ 600 := by
  have h1 := val_lt (by omega) da
  have h2 := ipow_le (B := 10) (by omega) hl
  exact ⟨val_nonneg (by omega) da, by omega⟩

theorem cons_zero {zo : List Int} (h : Digs 10 zo) : Digs 10 (0 :: zo) := fun z hz => by
  rw [List.mem_cons] at hz
  rcases hz with rfl | hz
  · exact ⟨by omega, by omega⟩
  · exact h z hz
theorem x_one {m v : Int} {zo : List Int} (hm : 0 ≤ m ∧ m < 10 ^ 600) (hv : 0 ≤ v ∧ v < 10 ^ 600) (e : val 10 zo = m * v) : val 10 (0 :: zo) < 10 ^ 1300 := by
  have h := prod_lt hm.1 hm.2 hv.1 hv.2
  have h2 := pow_1300
  have h3 := ipow_pos (B := 10) (by omega) 1200
  rw [val, e]
  omega
theorem x_two {m y : Int} (hm : 0 ≤ m ∧ m < 10 ^ 600) (y1 : 0 ≤ y) (y2 : y < 10) : y * m < 10 ^ 1300 := by
  have h2 := pow_1300
  have h3 := ipow_pos (B := 10) (by omega) 1200
  have h4 : (10 : Int) ^ 600 ≤ 10 ^ 1200 := by decide +kernel
  have h5 : y * m ≤ 9 * m := Int.mul_le_mul_of_nonneg_right (by omega) hm.1
  omega
theorem x_three {m v : Int} (hm : 0 ≤ m ∧ m < 10 ^ 600) (hv : 0 ≤ v ∧ v < 10 ^ 600) : m * v < 10 ^ 1300 := by
  have h := prod_lt hm.1 hm.2 hv.1 hv.2
  have h2 := pow_1300
  have h3 := ipow_pos (B := 10) (by omega) 1200
  omega

theorem mul_any (a : Option Addr) (la ca : Nat) (za : List Int) (b : Option Addr) (lb cb : Nat) (zb : List Int) (w : World)
    (ha : Row .i64 w a la ca za) (da : Digs 10 za) (hb : Row .i64 w b lb cb zb) (db : Digs 10 zb) (la6 : la ≤ 600) (lb6 : lb ≤ 600) :
    Calls Try.prog 51 #[.slice a la ca, .slice b lb cb] w (Gives .i64 w fun r => Is 10 r (val 10 za * val 10 zb)) := by
  obtain ⟨i0, hi, hz0, hz1, hz2⟩ := info_parts Try.infoInt
  have HA := Lib.hid ha
  have HB := Lib.hid hb
  have DA := Lib.hid da
  have DB := Lib.hid db
  have LA := Lib.hid ha.len
  have LB := Lib.hid hb.len
  have VA := Lib.hid (val_lt_600 da (by rw [ha.len]; exact la6))
  clear ha hb da db
  go_enter Try.func51, Try.ntmps51
  go_wp2
  go_loopw [5, 6] (fun v i wr => ∃ (c : Int) (j : Nat) (ao : Option Addr) (lo co : Nat) (zo : List Int), i = .int .i64 c ∧ c = j - 1 ∧ j ≤ lb ∧ v = .slice ao lo co ∧ lo ≤ 1000000 ∧ Row .i64 wr ao lo co zo ∧ Is 10 zo (val 10 za * val 10 (zb.drop j)) ∧ Below w.heap.size w wr ∧ Fresh w.heap.size ao) (fun _ i _ => (intOf i + 1).toNat)
  case atStart => exact ⟨_, lb, none, 0, 0, [], rfl, rfl, Nat.le_refl _, rfl, by omega, Row.nil, by rw [List.drop_eq_nil_of_le (by rw [LB.out]; omega)]; simp [val]; exact is_nil, Below.refl _ _, Fresh.none⟩
  case round =>
    obtain ⟨c, j, ao, lo, co, zo, rfl, hcj, hj, rfl, hlo, hro, hio, hbel, hfo⟩ := hrel
    have HFo := Lib.hid hfo
    clear hfo
    have HR := Lib.hid hro
    have HI := Lib.hid hio
    have HW := Lib.hid hbel
    have hsz := hbel.size
    clear hro hio hbel
    cases j with
    | zero =>
      obtain rfl : c = -1 := by omega
      clear hcj
      go_wp2_with (go_at_call 67; refine (cut_at 10 _ _ _ zo _ HR.out HI.out.1).mono ?_; rintro e w' ⟨l2, zs2, rfl, hr2, hp2, rfl⟩; have HR2 := Lib.hid hr2; have HP2 := Lib.hid hp2; clear hr2 hp2)
      go_ret
      exact ⟨_, _, _, _, rfl, HR2.out, by have := HP2.out; rw [HI.out.2.2] at this; exact this, HW.out, HFo.out⟩
    | succ i =>
      obtain rfl : c = (i : Int) := by omega
      clear hcj
      obtain ⟨bb, ob, rfl, hcb0⟩ := (HB.out.below HW.out).cell (show i < lb by omega)
      obtain ⟨y1, y2⟩ := DB.out.getD (by omega) i
      obtain ⟨y, hy⟩ : ∃ y, zb.getD i 0 = y := ⟨_, rfl⟩
      rw [hy] at hcb0 y1 y2
      have HY := Lib.hid hy
      have HC := Lib.hid hcb0
      have hlt := World.block_lt_of_cell? _ _ hcb0
      clear hy hcb0
      have i1 : (i : Int) < (lb : Int) := by omega
      have i2 : 0 ≤ (i : Int) := by omega
      have HX1 := Lib.hid (x_one (zo := zo) VA.out (val_lt_600 (DB.out.drop (i + 1)) (by rw [List.length_drop, LB.out]; omega)) HI.out.2.2)
      have HX2 := Lib.hid (x_two VA.out y1 y2)
      have HX3 := Lib.hid (x_three VA.out (val_lt_600 (DB.out.drop i) (by rw [List.length_drop, LB.out]; omega)))
      rcases ao with _ | ad
      · obtain ⟨rfl, rfl, rfl⟩ := HR.out.none_cap
        go_wp2_with (at_builtin; refine wpList_append_own_none rfl _ _ 70 rfl wr.heap.size 3 i0 1 Try.underlying70 hi _ _ _ rfl (World.ownsRow_lit (e := 3) (size := 1) wr #[.int .i64 0] 1 (Nat.le_refl _) (by unfold maxLen; omega) rfl) rfl ?_)
        obtain ⟨a5, c5, hv5, hrow5, _⟩ := row_of_owns (k := .i64) (zs := [0]) (World.ownsRow_lit (base := wr.heap.size) (e := 3) (size := 1) wr #[.int .i64 0] 1 (Nat.le_refl _) (by unfold maxLen; omega) rfl)
        simp only [Value.slice.injEq] at hv5
        obtain ⟨rfl, _, rfl⟩ := hv5
        have HR5 := Lib.hid hrow5
        have HB5 := Lib.hid ((Below.refl wr.heap.size wr).alloc (Nat.le_refl _) (Obj.cells #[Value.int IntKind.i64 0] 3))
        clear hrow5
        have hlt5 := Nat.lt_of_lt_of_le hlt HB5.out.size
        have HC5 := Lib.hid ((HB5.out.cell (p := ⟨bb, ob + i, none⟩) hlt).trans HC.out)
        have RD5 := Lib.hid HR5.out.drew
        have RA5 := Lib.hid ((HA.out.below HW.out).below HB5.out).drew
        have D5 := Lib.hid (show Digs 10 (0 :: ([] : List Int)) from cons_zero HI.out.1)
        have hcb := HC5.out
        go_region_held3 (fun w' => w'.cell? ⟨bb, ob + i, none⟩ = some (.int .i64 y)) (first | go_keep | exact (HB3.out.cell (p := ⟨bb, ob + i, none⟩) (Nat.lt_of_lt_of_le hlt5 HBT.out.size)).trans ((HBT.out.cell (p := ⟨bb, ob + i, none⟩) hlt5).trans HC5.out) | exact (HBT.out.cell (p := ⟨bb, ob + i, none⟩) hlt5).trans HC5.out)
          (first
            | (go_at_call 67; refine (cut_any 10 _ _ _ (0 :: ([] : List Int)) _ RD5.out D5.out).mono ?_; rintro e wc ⟨a6, l6, c6, z6, rfl, hr6, hi6, rfl⟩; have L6 := Lib.hid (show l6 ≤ 1000000 by rw [← hr6.len]; exact len_mul hi6 HX1.out); have HR6 := Lib.hid hr6; have HI6 := Lib.hid hi6; clear hr6 hi6)
            | (go_at_call 61; refine (times_any _ _ _ za _ _ RA5.out DA.out (by omega) (by omega) (by omega)).mono ?_; rintro e wt ⟨at1, lt, ct, zt, rfl, hrt, hit, hbt, _⟩; have LT := Lib.hid (show lt ≤ 1000000 by rw [← hrt.len]; exact len_mul hit HX2.out); have HRT := Lib.hid hrt; have HIT := Lib.hid hit; have HBT := Lib.hid hbt; clear hrt hit hbt)
            | (go_at_call 56; refine (add_any _ _ _ z6 _ _ _ zt _ (HR6.out.below HBT.out) HI6.out.1 HRT.out HIT.out.1 L6.out LT.out).mono ?_; rintro e w3 ⟨a3, l3, c3, z3, rfl, hr3, hi3, hb3, hf3⟩; have HR3 := Lib.hid hr3; have HI3 := Lib.hid hi3; have HB3 := Lib.hid hb3; have HF3 := Lib.hid hf3; clear hr3 hi3 hb3 hf3))
        all_goals
          have hv3 : val 10 z6 + val 10 zt = val 10 za * val 10 (zb.drop i) := by
            rw [HI6.out.2.2, HIT.out.2.2, val, HI.out.2.2, val_drop 10 zb i, HY.out, Int.mul_add, Int.mul_comm (val 10 za) y, Int.mul_left_comm (val 10 za) 10]; omega
          have I3 := Lib.hid (hv3 ▸ HI3.out)
          have L3 := Lib.hid (show l3 ≤ 1000000 by rw [← HR3.out.len]; exact len_mul I3.out HX3.out)
          clear hv3
          go_wp2
          go_roundw
          case rel => exact ⟨_, i, a3, l3, c3, z3, rfl, rfl, by omega, rfl, L3.out, HR3.out, I3.out, below_next (below_next (below_next HW.out HB5.out).drew HBT.out) HB3.out, HF3.out.mono (below_next (below_next HW.out HB5.out).drew HBT.out).size⟩
          case measure => simp [intOf] <;> omega
      · go_wp2_with (at_builtin; refine wpList_append_own _ rfl _ _ 70 rfl wr.heap.size 3 i0 (.int .i64 0) 1 8 Try.underlying70 hi hz0 hz1 hz2 rfl (by decide) (.slice (some ⟨wr.heap.size, 0, none⟩) 1 1) 1 [.int .i64 0] rfl (World.ownsRow_lit (e := 3) (size := 1) wr #[.int .i64 0] 1 (Nat.le_refl _) (by unfold maxLen; omega) rfl) ad lo co (zo.map (Value.int .i64)) rfl (by simp [HR.out.len]) (HR.out.below ((Below.refl _ _).alloc (Nat.le_refl _) _)).news (ints_one _ _) (by unfold maxLen; omega) (by omega) (by simp) ?_; intro v2 w2 hown2 hgrow2 hnil2; have HO2 := Lib.hid hown2; have HG2 := Lib.hid hgrow2; clear hown2 hgrow2 hnil2)
        obtain ⟨a5, c5, rfl, hrow5, _⟩ := row_of_owns (k := .i64) (zs := 0 :: zo) HO2.out
        have HR5 := Lib.hid hrow5
        have HB5 := Lib.hid (((Below.refl wr.heap.size wr).alloc (Nat.le_refl _) (Obj.cells #[Value.int IntKind.i64 0] 3)).grown HG2.out (by simp) (fun g hg => Nat.le_of_eq (by simpa [Value.ownBlock] using hg)))
        clear hrow5
        have hlt5 := Nat.lt_of_lt_of_le hlt HB5.out.size
        have HC5 := Lib.hid ((HB5.out.cell (p := ⟨bb, ob + i, none⟩) hlt).trans HC.out)
        have RD5 := Lib.hid HR5.out.drew
        have RA5 := Lib.hid ((HA.out.below HW.out).below HB5.out).drew
        have D5 := Lib.hid (show Digs 10 (0 :: zo) from cons_zero HI.out.1)
        have hcb := HC5.out
        go_region_held3 (fun w' => w'.cell? ⟨bb, ob + i, none⟩ = some (.int .i64 y)) (first | go_keep | exact (HB3.out.cell (p := ⟨bb, ob + i, none⟩) (Nat.lt_of_lt_of_le hlt5 HBT.out.size)).trans ((HBT.out.cell (p := ⟨bb, ob + i, none⟩) hlt5).trans HC5.out) | exact (HBT.out.cell (p := ⟨bb, ob + i, none⟩) hlt5).trans HC5.out)
          (first
            | (go_at_call 67; refine (cut_any 10 _ _ _ (0 :: zo) _ RD5.out D5.out).mono ?_; rintro e wc ⟨a6, l6, c6, z6, rfl, hr6, hi6, rfl⟩; have L6 := Lib.hid (show l6 ≤ 1000000 by rw [← hr6.len]; exact len_mul hi6 HX1.out); have HR6 := Lib.hid hr6; have HI6 := Lib.hid hi6; clear hr6 hi6)
            | (go_at_call 61; refine (times_any _ _ _ za _ _ RA5.out DA.out (by omega) (by omega) (by omega)).mono ?_; rintro e wt ⟨at1, lt, ct, zt, rfl, hrt, hit, hbt, _⟩; have LT := Lib.hid (show lt ≤ 1000000 by rw [← hrt.len]; exact len_mul hit HX2.out); have HRT := Lib.hid hrt; have HIT := Lib.hid hit; have HBT := Lib.hid hbt; clear hrt hit hbt)
            | (go_at_call 56; refine (add_any _ _ _ z6 _ _ _ zt _ (HR6.out.below HBT.out) HI6.out.1 HRT.out HIT.out.1 L6.out LT.out).mono ?_; rintro e w3 ⟨a3, l3, c3, z3, rfl, hr3, hi3, hb3, hf3⟩; have HR3 := Lib.hid hr3; have HI3 := Lib.hid hi3; have HB3 := Lib.hid hb3; have HF3 := Lib.hid hf3; clear hr3 hi3 hb3 hf3))
        all_goals
          have hv3 : val 10 z6 + val 10 zt = val 10 za * val 10 (zb.drop i) := by
            rw [HI6.out.2.2, HIT.out.2.2, val, HI.out.2.2, val_drop 10 zb i, HY.out, Int.mul_add, Int.mul_comm (val 10 za) y, Int.mul_left_comm (val 10 za) 10]; omega
          have I3 := Lib.hid (hv3 ▸ HI3.out)
          have L3 := Lib.hid (show l3 ≤ 1000000 by rw [← HR3.out.len]; exact len_mul I3.out HX3.out)
          clear hv3
          go_wp2
          go_roundw
          case rel => exact ⟨_, i, a3, l3, c3, z3, rfl, rfl, by omega, rfl, L3.out, HR3.out, I3.out, below_next (below_next (below_next HW.out HB5.out).drew HBT.out) HB3.out, HF3.out.mono (below_next (below_next HW.out HB5.out).drew HBT.out).size⟩
          case measure => simp [intOf] <;> omega
end Go.Proofs.Ytenibpnifnlfeaa
