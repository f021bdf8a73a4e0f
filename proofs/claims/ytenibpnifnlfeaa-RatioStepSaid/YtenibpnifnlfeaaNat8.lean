/-
  What package nat's Sub gives back: contract.
-/
import Derived.Test.YtenibpnifnlfeaaNat7
namespace Go.Proofs.Ytenibpnifnlfeaa
open Go.RowKit

theorem nSub_lt (a : Option Addr) (la ca : Nat) (za : List Int) (b : Option Addr) (lb cb : Nat) (zb : List Int) (w : World)
    (ha : Row .u32 w a la ca za) (da : Digs 4294967296 za) (hb : Row .u32 w b lb cb zb) (db : Digs 4294967296 zb) (hlt : val 4294967296 za < val 4294967296 zb) :
    Calls Try.prog 37 #[.slice a la ca, .slice b lb cb] w fun e w' => e = .returned (.tuple #[.slice none 0 0, .int .i64 16]) ∧ Below w.heap.size w w' := by
  have HA := Lib.hid ha
  have HB := Lib.hid hb
  have DA := Lib.hid da
  have DB := Lib.hid db
  have E := Lib.hid (cmpI_lt hlt)
  clear ha hb da db hlt
  go_enter Try.func37, Try.ntmps37
  go_wp2_with (go_at_call 34; refine (nCmp_any _ _ _ za _ _ _ zb _ HA.out DA.out HB.out DB.out).mono ?_; rintro e w' ⟨rfl, n, rfl⟩; rw [E.out])
  go_ret2
  exact ⟨rfl, ⟨rfl, rfl, rfl, Nat.le_refl _, fun _ _ => rfl⟩⟩

theorem sub_nextB {B : Int} {ds za zb : List Int} {i : Nat} {c d c' T : Int} (hl : ds.length = i) (h : za.getD i 0 - zb.getD i 0 - c = d - B * c')
    (hT : val B ds + B ^ i * (val B (za.drop i) - val B (zb.drop i) - c) = T) :
    val B (ds ++ [d]) + B ^ (i + 1) * (val B (za.drop (i + 1)) - val B (zb.drop (i + 1)) - c') = T := by
  rw [val_append, hl, Int.pow_succ]
  have := sub_step (P := B ^ i) (A' := val B (za.drop (i + 1))) (B' := val B (zb.drop (i + 1))) h
  rw [← val_drop, ← val_drop] at this
  have e : val B [d] = d := by simp [val]
  rw [e]
  omega
theorem sub_endB {B : Int} (hB : 0 < B) {ds : List Int} {c T : Int} (hd : Digs B ds) (c0 : 0 ≤ c) (hT : 0 ≤ T) (h : val B ds + B ^ ds.length * (0 - 0 - c) = T) : val B ds = T := by
  have h1 := val_lt hB hd
  rcases Int.lt_or_le 0 c with g | g
  · exfalso
    have h2 : B ^ ds.length * 1 ≤ B ^ ds.length * c := Int.mul_le_mul_of_nonneg_left (by omega) (Int.le_of_lt (ipow_pos hB _))
    have h3 : B ^ ds.length * (0 - 0 - c) = - (B ^ ds.length * c) := by rw [show (0 : Int) - 0 - c = -c by omega, Int.mul_neg]
    omega
  · obtain rfl : c = 0 := by omega
    simpa using h

theorem not_limb {y : Int} (y0 : 0 ≤ y) (y1 : y < 4294967296) : bits .xor .u32 4294967295 y = 4294967295 - y := by
  obtain ⟨b, rfl⟩ := Int.eq_ofNat_of_zero_le y0
  have e := u32_xor_nat 4294967295 b (by omega) (by omega)
  have h := congrArg BitVec.toNat (BitVec.allOnes_xor (x := BitVec.ofNat 32 b))
  rw [BitVec.toNat_xor, BitVec.toNat_not, BitVec.toNat_allOnes, BitVec.toNat_ofNat, Nat.mod_eq_of_lt (by omega)] at h
  have c : ((4294967295 : Nat) : Int) = 4294967295 := rfl
  rw [c] at e
  rw [e]
  simp at h
  omega
theorem turned {x y : Int} (x0 : 0 ≤ x) (x1 : x < 4294967296) (y0 : 0 ≤ y) (y1 : y < 4294967296) :
    IntKind.u64.wrap (IntKind.u64.wrap x + IntKind.u64.wrap (bits BinOp.xor IntKind.u32 (if IntKind.u32.signed = true then -1 else IntKind.u32.max) y)) = x + (4294967295 - y) := by
  have h1 : (if IntKind.u32.signed = true then -1 else IntKind.u32.max) = 4294967295 := rfl
  rw [h1, not_limb y0 y1, IntKind.wrap_u64, IntKind.wrap_u64, IntKind.wrap_u64]
  omega

def SubP (w : World) (t : Int) (e : Ending) (w' : World) : Prop :=
  ∃ a len cap zs, e = .returned (.tuple #[.slice a len cap, .int .i64 0]) ∧ Row .u32 w' a len cap zs ∧ Is 4294967296 zs t ∧ Fresh w.heap.size a ∧ Below w.heap.size w w'

set_option maxRecDepth 100000 in
theorem nSub_ge (a : Option Addr) (la ca : Nat) (za : List Int) (m : Int) (b : Option Addr) (lb cb : Nat) (zb : List Int) (n : Int) (w : World)
    (ha : Row .u32 w a la ca za) (ia : Is 4294967296 za m) (hb : Row .u32 w b lb cb zb) (ib : Is 4294967296 zb n) (hge : n ≤ m) (la6 : la ≤ 1000000) :
    Calls Try.prog 37 #[.slice a la ca, .slice b lb cb] w (SubP w (m - n)) := by
  obtain ⟨i0, hi, hz0, hz1, hz2⟩ := info_parts Try.infoU32
  have hll : lb ≤ la := by have := len_ge (by omega) ia ib hge; rw [ha.len, hb.len] at this; exact this
  have E := Lib.hid (cmpI_ge hge)
  obtain ⟨kk, hkk⟩ : ∃ kk, cmpI m n = kk := ⟨_, rfl⟩
  rw [hkk] at E
  have HKK := Lib.hid hkk
  clear hkk
  have HGE := Lib.hid hge
  have k0 := E.out
  have kb : decide (kk < 0) = false := by simp; omega
  have HA := Lib.hid ha
  have HB := Lib.hid hb
  have IA := Lib.hid ia
  have IB := Lib.hid ib
  have LA := Lib.hid ha.len
  have LB := Lib.hid hb.len
  clear ha hb ia ib hge
  have HBY := Lib.hid (show i0.bytes * la ≤ 281474976710656 by rw [hz2]; omega)
  go_enter Try.func37, Try.ntmps37
  go_wp2_with (first
    | (go_at_call 34; refine (nCmp_any _ _ _ za _ _ _ zb _ HA.out IA.out.1 HB.out IB.out.1).mono ?_; rintro e w0 ⟨rfl, nd, hw0⟩; rw [IA.out.2.2, IB.out.2.2, HKK.out]; have HW0 := Lib.hid hw0; have S0 := Lib.hid (show w0.heap.size = w.heap.size by rw [hw0]; rfl); clear hw0)
    | (at_make; refine wpList_make_full _ rfl _ _ 24 rfl w0.heap.size 38 i0 (.int .u32 0) 1 Try.underlying24 hi hz0 hz1 _ _ _ _ la rfl rfl (by omega) (by omega) HBY.out (by unfold maxLen; omega) (Nat.le_refl _) ?_; intro w1 hown hgrow; have HO := Lib.hid hown; have HG := Lib.hid hgrow; have hs1 := hgrow.size; have hl1 := (hown.lt w0.heap.size rfl).2; clear hown hgrow)
    | (go_at_call 54; refine (carrier_any _ _).mono ?_; rintro e w2 ⟨rfl, hw2⟩; have HW2 := Lib.hid hw2; clear hw2))
  have M0 := Lib.hid (show Mine w2 w0.heap.size (List.replicate la 0) by
    rw [← HW2.out]
    refine Mine.alloc ?_ _
    have := HO.out
    rw [made_zeros] at this
    exact mine_of_owns this)
  have C0 := Lib.hid (show w2.heap[w1.heap.size]? = some (.cells #[.int .u64 1] 40 (0, 0)) by rw [← HW2.out]; exact heap_alloc_new w1 _)
  have B0 := Lib.hid (show Below w0.heap.size w0 w2 by
    rw [← HW2.out]
    exact ((Below.refl _ _).grown HG.out (Nat.le_refl _) (fun g hg => by cases hg)).alloc hs1 _)
  have HA0 := Lib.hid (show Row .u32 w0 a la ca za by rw [HW0.out]; exact HA.out)
  have HB0 := Lib.hid (show Row .u32 w0 b lb cb zb by rw [HW0.out]; exact HB.out)
  have BW := Lib.hid (show Below w0.heap.size w w0 by rw [HW0.out]; exact ⟨rfl, rfl, rfl, Nat.le_refl _, fun _ _ => rfl⟩)
  go_loopw [19] (fun v wr => ∃ (i : Nat) (c : Int) (ds : List Int), v = .int .i64 i ∧ i ≤ la ∧ 0 ≤ c ∧ c ≤ 1 ∧ ds.length = la ∧ Digs 4294967296 ds ∧ Mine wr w0.heap.size ds ∧ wr.heap[w1.heap.size]? = some (.cells #[.int .u64 c] 40 (0, 0)) ∧ val 4294967296 (ds.take i) + 4294967296 ^ i * (val 4294967296 (za.drop i) - val 4294967296 (zb.drop i) - (1 - c)) = m - n ∧ Below w0.heap.size w0 wr) (fun v _ => la - (intOf v).toNat)
  case atStart => exact ⟨0, 1, _, rfl, by omega, by omega, by omega, List.length_replicate, digs_zeroB _, M0.out, C0.out, by have h1 := IA.out.2.2; have h2 := IB.out.2.2; simp [val]; omega, B0.out⟩
  case round =>
    obtain ⟨i, c, ds, rfl, hik, c0, c1, hdl, hdg, hmi, hcb, hval, hbel⟩ := hrel
    have HDl := Lib.hid hdl
    have HDg := Lib.hid hdg
    have HMi := Lib.hid hmi
    have HCb := Lib.hid hcb
    have HVal := Lib.hid hval
    have HW := Lib.hid hbel
    have hsz := hbel.size
    clear hdl hdg hmi hcb hval hbel
    by_cases go : i < la
    · have b1 : decide ((i : Int) < (la : Int)) = true := by simp; omega
      obtain ⟨ba, oa, rfl, hca⟩ := (HA0.out.below HW.out).cell go
      obtain ⟨x1, x2⟩ := IA.out.1.getD (by omega) i
      obtain ⟨y1, y2⟩ := IB.out.1.getD (by omega) i
      obtain ⟨x, hx⟩ : ∃ x, za.getD i 0 = x := ⟨_, rfl⟩
      obtain ⟨y, hy⟩ : ∃ y, zb.getD i 0 = y := ⟨_, rfl⟩
      rw [hx] at x1 x2 hca
      rw [hy] at y1 y2
      have HX := Lib.hid hx
      have HY := Lib.hid hy
      clear hx hy
      have j1 : (i : Int) < (la : Int) := by omega
      have j2 : 0 ≤ (i : Int) := by omega
      have hltb := World.block_lt_of_cell? _ _ hca
      have HCA := Lib.hid (show wr.drew.cell? ⟨ba, oa + i, none⟩ = some (.int .u32 x) from hca)
      have HCbD := Lib.hid (show wr.drew.heap[w1.heap.size]? = some (.cells #[.int .u64 c] 40 (0, 0)) from HCb.out)
      have hlt0 : ba < w0.heap.size := by
        obtain ⟨b', o', he, hc'⟩ := HA0.out.cell go
        simp only [Option.some.injEq, Addr.mk.injEq] at he
        obtain ⟨rfl, rfl, _⟩ := he
        exact World.block_lt_of_cell? _ _ hc'
      go_wp2
      go_region_held3 (fun w' => w'.cell? ⟨ba, oa + i, none⟩ = some (.int .u32 x)) (first | go_keep | exact HK3.out | exact (World.cell?_of_block (w := w3) (Below.heap_setCell w3 _ _ ba (by simp; omega))).trans HK3.out)
        (first
          | (go_at_call 55; refine (limb_any b lb cb zb i _ (HB0.out.below HW.out).drew).mono ?_; rintro e w' ⟨rfl, rfl⟩; rw [HY.out])
          | (go_at_call 68; rw [turned x1 x2 y1 y2]; refine (carry_at (x + (4294967295 - y)) c w1.heap.size wr.drew HCbD.out (by omega) (by omega) (by omega)).mono ?_; rintro e w3 ⟨rfl, hc3, hg3⟩; have HC3 := Lib.hid hc3; have HG3 := Lib.hid hg3; have hm3 := HMi.out.drew.grown hg3 (by simp; omega); have hcl := hm3.cell (i := i) (by rw [HDl.out]; omega); have hfr := hm3.free i; have HM3 := Lib.hid hm3; have HK3 := Lib.hid (hg3.cell (a := ⟨ba, oa + i, none⟩) HCA.out (by simp; omega)); clear hc3 hg3 hm3))
      all_goals
        go_wp2
        go_roundw
        case rel =>
          refine ⟨i + 1, (x + (4294967295 - y) + c) / 4294967296, ds.set i ((x + (4294967295 - y) + c) % 4294967296), by go_num, by omega, by omega, by omega, by rw [List.length_set]; exact HDl.out, digs_setB HDg.out ⟨by omega, by omega⟩, HM3.out.set i _, ?_, ?_, ?_⟩
          · rw [Below.heap_setCell _ _ _ _ (by simp; omega)]; exact HC3.out
          · rw [take_set_succ (by rw [HDl.out]; omega)]
            exact sub_nextB (by rw [List.length_take, HDl.out]; omega) (by rw [HX.out, HY.out]; omega) HVal.out
          · exact (HW.out.drew.grown HG3.out hsz (fun g hg => by cases hg; exact hs1)).setCell (Nat.le_refl _) _
        case measure => simp [intOf]; omega
    · obtain rfl : i = la := by omega
      have b1 : decide ((i : Int) < (i : Int)) = false := by simp
      have hv : val 4294967296 ds = m - n := by
        have h1 := HVal.out
        have hge := HGE.out
        rw [List.take_of_length_le (by rw [HDl.out]; omega), List.drop_eq_nil_of_le (by rw [LA.out]; omega), List.drop_eq_nil_of_le (by rw [LB.out]; omega)] at h1
        rw [← HDl.out] at h1
        exact sub_endB (c := 1 - c) (by omega) HDg.out (by omega) (by omega) h1
      have HV := Lib.hid hv
      clear hv
      have HR := Lib.hid (HMi.out.row (cap := i) (by rw [HDl.out]; omega) (by omega))
      rw [HDl.out] at HR
      go_wp2_with (go_at_call 52; refine (ncut_any _ _ _ ds _ HR.out HDg.out).mono ?_; rintro e w' ⟨m1, l1, rfl, hr1, hi1, rfl⟩; rw [HV.out] at hi1; have HR1 := Lib.hid hr1; have HI1 := Lib.hid hi1; clear hr1 hi1)
      go_ret2
      exact ⟨_, _, _, _, rfl, HR1.out, HI1.out, (fun ad h => by cases h; exact Nat.le_of_eq S0.out.symm), by rw [← S0.out]; exact BW.out.trans HW.out⟩
end Go.Proofs.Ytenibpnifnlfeaa
