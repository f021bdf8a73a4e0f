/-
  What package nat's Add gives back: contract.
-/
import Derived.Test.YtenibpnifnlfeaaNat6
namespace Go.Proofs.Ytenibpnifnlfeaa
open Go.RowKit

/-- a carrier called: what stays, and what is carried on -/
def Carries (w : World) (b : Nat) (s : Int) (e : Ending) (w' : World) : Prop :=
  e = .returned (.int .u32 (s % 4294967296)) ∧ w'.heap[b]? = some (.cells #[.int .u64 (s / 4294967296)] 40 (0, 0)) ∧ w.grownBy w' (some b)
theorem grown_one (w : World) (p : Addr) (u : Value) : w.grownBy (w.setCell p u) (some p.block) :=
  ⟨rfl, rfl, rfl, by simp [World.setCell], fun k _ hne => Below.heap_setCell w p u k (fun e => hne (by rw [e]))⟩
theorem carry_at (n c : Int) (b : Nat) (w : World) (h : w.heap[b]? = some (.cells #[.int .u64 c] 40 (0, 0))) (n0 : 0 ≤ n) (c0 : 0 ≤ c) (h1 : n + c ≤ 18446744073709551615) :
    Calls Try.prog 68 #[.int .u64 n, .pointer (some ⟨b, 0, none⟩)] w (Carries w b (n + c)) :=
  (carry_any n c b w h n0 c0 h1).mono fun _ _ ⟨he, hw⟩ => ⟨he, by rw [← hw]; exact one_setCell h, by rw [← hw]; exact grown_one w ⟨b, 0, none⟩ _⟩

theorem take_set_succ {ds : List Int} {i : Nat} {q : Int} (h : i < ds.length) : (ds.set i q).take (i + 1) = ds.take i ++ [q] := by
  rw [take_snoc (by rw [List.length_set]; exact h), List.take_set_of_le (Nat.le_refl _), List.getD_eq_getElem?_getD, List.getElem?_set_self h]
  rfl
theorem sum_nextB {B : Int} {ds za zb : List Int} {i : Nat} {c d q T : Int} (hl : ds.length = i) (h : c + za.getD i 0 + zb.getD i 0 = d + B * q)
    (hT : val B ds + B ^ i * (c + val B (za.drop i) + val B (zb.drop i)) = T) :
    val B (ds ++ [d]) + B ^ (i + 1) * (q + val B (za.drop (i + 1)) + val B (zb.drop (i + 1))) = T := by
  rw [val_append, hl, Int.pow_succ]
  have := sum_step (P := B ^ i) (A' := val B (za.drop (i + 1))) (B' := val B (zb.drop (i + 1))) h
  rw [← val_drop, ← val_drop] at this
  have e : val B [d] = d := by simp [val]
  rw [e]
  omega
theorem carry_none {P c v T : Int} (hP : 0 < P) (c0 : 0 ≤ c) (v0 : 0 ≤ v) (hT : T < P) (h : v + P * c = T) : c = 0 := by
  rcases Int.lt_or_le 0 c with g | g
  · exfalso
    have : P * 1 ≤ P * c := Int.mul_le_mul_of_nonneg_left (by omega) (by omega)
    omega
  · omega
theorem sum_lt {za zb : List Int} {k : Nat} (da : Digs 4294967296 za) (db : Digs 4294967296 zb) (ha : za.length ≤ k) (hb : zb.length ≤ k) : val 4294967296 za + val 4294967296 zb < 4294967296 ^ (k + 1) := by
  have h1 := val_lt (by omega) da
  have h2 := val_lt (by omega) db
  have h3 := ipow_le (B := 4294967296) (by omega) ha
  have h4 := ipow_le (B := 4294967296) (by omega) hb
  rw [Int.pow_succ]
  have := ipow_pos (B := 4294967296) (by omega) k
  omega
theorem digs_zeroB (n : Nat) : Digs 4294967296 (List.replicate n (0 : Int)) := fun z hz => by
  rw [List.mem_replicate] at hz; rw [hz.2]; omega
theorem one_grown {w w' : World} {b : Nat} {o : Obj} {row : Option Nat} (h : w.heap[b]? = some o) (hg : w.grownBy w' row) (hne : some b ≠ row) : w'.heap[b]? = some o := by
  rw [hg.block b (lt_of_block h) hne]; exact h

theorem nAdd_any (a : Option Addr) (la ca : Nat) (za : List Int) (b : Option Addr) (lb cb : Nat) (zb : List Int) (w : World)
    (ha : Row .u32 w a la ca za) (da : Digs 4294967296 za) (hb : Row .u32 w b lb cb zb) (db : Digs 4294967296 zb) (la6 : la ≤ 1000000) (lb6 : lb ≤ 1000000) :
    Calls Try.prog 48 #[.slice a la ca, .slice b lb cb] w (Gives .u32 w fun r => Is 4294967296 r (val 4294967296 za + val 4294967296 zb)) := by
  obtain ⟨i0, hi, hz0, hz1, hz2⟩ := info_parts Try.infoU32
  have HA := Lib.hid ha
  have HB := Lib.hid hb
  have DA := Lib.hid da
  have DB := Lib.hid db
  have LA := Lib.hid ha.len
  have LB := Lib.hid hb.len
  clear ha hb da db
  obtain ⟨T, hT⟩ : ∃ T, val 4294967296 za + val 4294967296 zb = T := ⟨_, rfl⟩
  rw [hT]
  have HT := Lib.hid hT
  clear hT
  by_cases hlt : lb ≤ la
  · have HBY := Lib.hid (show i0.bytes * (la + 1) ≤ 281474976710656 by rw [hz2]; omega)
    have HTL := Lib.hid (show T < 4294967296 ^ (la + 1) by rw [← HT.out]; exact sum_lt DA.out DB.out (by rw [LA.out]; omega) (by rw [LB.out]; omega))
    go_enter Try.func48, Try.ntmps48
    go_wp2_with (first
      | (at_make; refine wpList_make_full _ rfl _ _ 24 rfl w.heap.size 38 i0 (.int .u32 0) 1 Try.underlying24 hi hz0 hz1 _ _ _ _ (la + 1) rfl rfl (by omega) (by omega) HBY.out (by unfold maxLen; omega) (Nat.le_refl _) ?_; intro w1 hown hgrow; have HO := Lib.hid hown; have HG := Lib.hid hgrow; have hs1 := hgrow.size; have hl1 := (hown.lt w.heap.size rfl).2; clear hown hgrow)
      | (go_at_call 54; refine (carrier_any _ _).mono ?_; rintro e w2 ⟨rfl, hw2⟩; have HW2 := Lib.hid hw2; clear hw2))
    have M0 := Lib.hid (show Mine w2 w.heap.size (List.replicate (la + 1) 0) by
      rw [← HW2.out]
      refine Mine.alloc ?_ _
      have := HO.out
      rw [made_zeros] at this
      exact mine_of_owns this)
    have C0 := Lib.hid (show w2.heap[w1.heap.size]? = some (.cells #[.int .u64 0] 40 (0, 0)) by rw [← HW2.out]; exact heap_alloc_new w1 _)
    have B0 := Lib.hid (show Below w.heap.size w w2 by
      rw [← HW2.out]
      exact ((Below.refl _ _).grown HG.out (Nat.le_refl _) (fun g hg => by cases hg)).alloc hs1 _)
    go_loopw [18] (fun v wr => ∃ (i : Nat) (c : Int) (ds : List Int), v = .int .i64 i ∧ i ≤ la + 1 ∧ 0 ≤ c ∧ c ≤ 1 ∧ ds.length = la + 1 ∧ Digs 4294967296 ds ∧ Mine wr w.heap.size ds ∧ wr.heap[w1.heap.size]? = some (.cells #[.int .u64 c] 40 (0, 0)) ∧ val 4294967296 (ds.take i) + 4294967296 ^ i * (c + val 4294967296 (za.drop i) + val 4294967296 (zb.drop i)) = T ∧ Below w.heap.size w wr) (fun v _ => la + 1 - (intOf v).toNat)
    case atStart => exact ⟨0, 0, _, rfl, by omega, by omega, by omega, List.length_replicate, digs_zeroB _, M0.out, C0.out, by have := HT.out; simp [val]; exact this, B0.out⟩
    case round =>
      obtain ⟨i, c, ds, rfl, hik, c0, c1, hdl, hdg, hmi, hcb, hval, hbel⟩ := hrel
      have HDl := Lib.hid hdl
      have HDg := Lib.hid hdg
      have HMi := Lib.hid hmi
      have HCb := Lib.hid hcb
      have HVal := Lib.hid hval
      have HW := Lib.hid hbel
      have hsz := hbel.size
      clear hdl hdg hmi hcb hval hbel
      by_cases go : i < la + 1
      · have b1 : decide ((i : Int) < (la : Int) + 1) = true := by simp; omega
        obtain ⟨x1, x2⟩ := DA.out.getD (by omega) i
        obtain ⟨y1, y2⟩ := DB.out.getD (by omega) i
        obtain ⟨x, hx⟩ : ∃ x, za.getD i 0 = x := ⟨_, rfl⟩
        obtain ⟨y, hy⟩ : ∃ y, zb.getD i 0 = y := ⟨_, rfl⟩
        rw [hx] at x1 x2
        rw [hy] at y1 y2
        have HX := Lib.hid hx
        have HY := Lib.hid hy
        clear hx hy
        go_wp2_with (first
          | (go_at_call 55; ((with_reducible refine (limb_any a la ca za i _ (HA.out.below HW.out)).mono ?_)); rintro e w' ⟨rfl, rfl⟩; rw [HX.out])
          | (go_at_call 55; ((with_reducible refine (limb_any b lb cb zb i _ (HB.out.below HW.out)).mono ?_)); rintro e w' ⟨rfl, rfl⟩; rw [HY.out])
          | (go_at_call 68; refine (carry_at _ c _ _ HCb.out (by omega) (by omega) (by omega)).mono ?_; rintro e w3 ⟨rfl, hc3, hg3⟩; have HC3 := Lib.hid hc3; have HG3 := Lib.hid hg3; have hm3 := HMi.out.grown hg3 (by simp; omega); have hcl := hm3.cell (i := i) (by rw [HDl.out]; omega); have hfr := hm3.free i; have HM3 := Lib.hid hm3; clear hc3 hg3 hm3))
        go_roundw
        case rel =>
          refine ⟨i + 1, (x + y + c) / 4294967296, ds.set i ((x + y + c) % 4294967296), by go_num, by omega, by omega, by omega, by rw [List.length_set]; exact HDl.out, digs_setB HDg.out ⟨by omega, by omega⟩, HM3.out.set i _, ?_, ?_, ?_⟩
          · rw [Below.heap_setCell _ _ _ _ (by simp; omega)]; exact HC3.out
          · rw [take_set_succ (by rw [HDl.out]; omega)]
            exact sum_nextB (by rw [List.length_take, HDl.out]; omega) (by rw [HX.out, HY.out]; omega) HVal.out
          · exact (HW.out.grown HG3.out hsz (fun g hg => by cases hg; exact hs1)).setCell (Nat.le_refl _) _
        case measure => simp [intOf]; omega
      · obtain rfl : i = la + 1 := by omega
        have b1 : decide ((((la + 1 : Nat) : Int)) < (la : Int) + 1) = false := by simp
        have hv : val 4294967296 ds = T := by
          have h1 := HVal.out
          rw [List.take_of_length_le (by rw [HDl.out]; omega), List.drop_eq_nil_of_le (by rw [LA.out]; omega), List.drop_eq_nil_of_le (by rw [LB.out]; omega)] at h1
          simp only [val, Int.add_zero] at h1
          have h2 := carry_none (ipow_pos (by omega) _) c0 (val_nonneg (by omega) HDg.out) HTL.out h1
          subst h2
          simpa using h1
        have HV := Lib.hid hv
        clear hv
        have HR := Lib.hid (HMi.out.row (cap := la + 1) (by rw [HDl.out]; omega) (by omega))
        rw [HDl.out] at HR
        go_wp2_with (go_at_call 52; refine (ncut_any _ _ _ ds _ HR.out HDg.out).mono ?_; rintro e w' ⟨m1, l1, rfl, hr1, hi1, rfl⟩; rw [HV.out] at hi1; have HR1 := Lib.hid hr1; have HI1 := Lib.hid hi1; clear hr1 hi1)
        go_ret
        exact ⟨_, _, _, _, rfl, HR1.out, HI1.out, HW.out, (fun ad h => by cases h; exact Nat.le_refl _)⟩
  · have HBY := Lib.hid (show i0.bytes * (lb + 1) ≤ 281474976710656 by rw [hz2]; omega)
    have HTL := Lib.hid (show T < 4294967296 ^ (lb + 1) by rw [← HT.out]; exact sum_lt DA.out DB.out (by rw [LA.out]; omega) (by rw [LB.out]; omega))
    go_enter Try.func48, Try.ntmps48
    go_wp2_with (first
      | (at_make; refine wpList_make_full _ rfl _ _ 24 rfl w.heap.size 38 i0 (.int .u32 0) 1 Try.underlying24 hi hz0 hz1 _ _ _ _ (lb + 1) rfl rfl (by omega) (by omega) HBY.out (by unfold maxLen; omega) (Nat.le_refl _) ?_; intro w1 hown hgrow; have HO := Lib.hid hown; have HG := Lib.hid hgrow; have hs1 := hgrow.size; have hl1 := (hown.lt w.heap.size rfl).2; clear hown hgrow)
      | (go_at_call 54; refine (carrier_any _ _).mono ?_; rintro e w2 ⟨rfl, hw2⟩; have HW2 := Lib.hid hw2; clear hw2))
    have M0 := Lib.hid (show Mine w2 w.heap.size (List.replicate (lb + 1) 0) by
      rw [← HW2.out]
      refine Mine.alloc ?_ _
      have := HO.out
      rw [made_zeros] at this
      exact mine_of_owns this)
    have C0 := Lib.hid (show w2.heap[w1.heap.size]? = some (.cells #[.int .u64 0] 40 (0, 0)) by rw [← HW2.out]; exact heap_alloc_new w1 _)
    have B0 := Lib.hid (show Below w.heap.size w w2 by
      rw [← HW2.out]
      exact ((Below.refl _ _).grown HG.out (Nat.le_refl _) (fun g hg => by cases hg)).alloc hs1 _)
    go_loopw [18] (fun v wr => ∃ (i : Nat) (c : Int) (ds : List Int), v = .int .i64 i ∧ i ≤ lb + 1 ∧ 0 ≤ c ∧ c ≤ 1 ∧ ds.length = lb + 1 ∧ Digs 4294967296 ds ∧ Mine wr w.heap.size ds ∧ wr.heap[w1.heap.size]? = some (.cells #[.int .u64 c] 40 (0, 0)) ∧ val 4294967296 (ds.take i) + 4294967296 ^ i * (c + val 4294967296 (za.drop i) + val 4294967296 (zb.drop i)) = T ∧ Below w.heap.size w wr) (fun v _ => lb + 1 - (intOf v).toNat)
    case atStart => exact ⟨0, 0, _, rfl, by omega, by omega, by omega, List.length_replicate, digs_zeroB _, M0.out, C0.out, by have := HT.out; simp [val]; exact this, B0.out⟩
    case round =>
      obtain ⟨i, c, ds, rfl, hik, c0, c1, hdl, hdg, hmi, hcb, hval, hbel⟩ := hrel
      have HDl := Lib.hid hdl
      have HDg := Lib.hid hdg
      have HMi := Lib.hid hmi
      have HCb := Lib.hid hcb
      have HVal := Lib.hid hval
      have HW := Lib.hid hbel
      have hsz := hbel.size
      clear hdl hdg hmi hcb hval hbel
      by_cases go : i < lb + 1
      · have b1 : decide ((i : Int) < (lb : Int) + 1) = true := by simp; omega
        obtain ⟨x1, x2⟩ := DA.out.getD (by omega) i
        obtain ⟨y1, y2⟩ := DB.out.getD (by omega) i
        obtain ⟨x, hx⟩ : ∃ x, za.getD i 0 = x := ⟨_, rfl⟩
        obtain ⟨y, hy⟩ : ∃ y, zb.getD i 0 = y := ⟨_, rfl⟩
        rw [hx] at x1 x2
        rw [hy] at y1 y2
        have HX := Lib.hid hx
        have HY := Lib.hid hy
        clear hx hy
        go_wp2_with (first
          | (go_at_call 55; ((with_reducible refine (limb_any a la ca za i _ (HA.out.below HW.out)).mono ?_)); rintro e w' ⟨rfl, rfl⟩; rw [HX.out])
          | (go_at_call 55; ((with_reducible refine (limb_any b lb cb zb i _ (HB.out.below HW.out)).mono ?_)); rintro e w' ⟨rfl, rfl⟩; rw [HY.out])
          | (go_at_call 68; refine (carry_at _ c _ _ HCb.out (by omega) (by omega) (by omega)).mono ?_; rintro e w3 ⟨rfl, hc3, hg3⟩; have HC3 := Lib.hid hc3; have HG3 := Lib.hid hg3; have hm3 := HMi.out.grown hg3 (by simp; omega); have hcl := hm3.cell (i := i) (by rw [HDl.out]; omega); have hfr := hm3.free i; have HM3 := Lib.hid hm3; clear hc3 hg3 hm3))
        go_roundw
        case rel =>
          refine ⟨i + 1, (x + y + c) / 4294967296, ds.set i ((x + y + c) % 4294967296), by go_num, by omega, by omega, by omega, by rw [List.length_set]; exact HDl.out, digs_setB HDg.out ⟨by omega, by omega⟩, HM3.out.set i _, ?_, ?_, ?_⟩
          · rw [Below.heap_setCell _ _ _ _ (by simp; omega)]; exact HC3.out
          · rw [take_set_succ (by rw [HDl.out]; omega)]
            exact sum_nextB (by rw [List.length_take, HDl.out]; omega) (by rw [HX.out, HY.out]; omega) HVal.out
          · exact (HW.out.grown HG3.out hsz (fun g hg => by cases hg; exact hs1)).setCell (Nat.le_refl _) _
        case measure => simp [intOf]; omega
      · obtain rfl : i = lb + 1 := by omega
        have b1 : decide ((((lb + 1 : Nat) : Int)) < (lb : Int) + 1) = false := by simp
        have hv : val 4294967296 ds = T := by
          have h1 := HVal.out
          rw [List.take_of_length_le (by rw [HDl.out]; omega), List.drop_eq_nil_of_le (by rw [LA.out]; omega), List.drop_eq_nil_of_le (by rw [LB.out]; omega)] at h1
          simp only [val, Int.add_zero] at h1
          have h2 := carry_none (ipow_pos (by omega) _) c0 (val_nonneg (by omega) HDg.out) HTL.out h1
          subst h2
          simpa using h1
        have HV := Lib.hid hv
        clear hv
        have HR := Lib.hid (HMi.out.row (cap := lb + 1) (by rw [HDl.out]; omega) (by omega))
        rw [HDl.out] at HR
        go_wp2_with (go_at_call 52; refine (ncut_any _ _ _ ds _ HR.out HDg.out).mono ?_; rintro e w' ⟨m1, l1, rfl, hr1, hi1, rfl⟩; rw [HV.out] at hi1; have HR1 := Lib.hid hr1; have HI1 := Lib.hid hi1; clear hr1 hi1)
        go_ret
        exact ⟨_, _, _, _, rfl, HR1.out, HI1.out, HW.out, (fun ad h => by cases h; exact Nat.le_refl _)⟩
end Go.Proofs.Ytenibpnifnlfeaa
