/-
  What package nat's Mul gives back: contract.
-/
import Derived.Test.YtenibpnifnlfeaaNat8
namespace Go.Proofs.Ytenibpnifnlfeaa
open Go.RowKit

theorem val_set {B : Int} {ds : List Int} {i : Nat} {q : Int} (h : i < ds.length) : val B (ds.set i q) = val B ds + B ^ i * (q - ds.getD i 0) := by
  have h1 := val_split B ds (i := i) (by omega)
  have h2 := val_split B (ds.set i q) (i := i) (by rw [List.length_set]; omega)
  rw [List.take_set_of_le (Nat.le_refl _), drop_set h, val] at h2
  rw [val_drop] at h1
  rw [h1, h2, Int.add_assoc, ← Int.mul_add]
  congr 2
  omega
theorem zero_at {ds : List Int} {k : Nat} (hd : Digs 4294967296 ds) (h : val 4294967296 (ds.drop k) = 0) : ds.getD k 0 = 0 ∧ val 4294967296 (ds.drop (k + 1)) = 0 := by
  have h1 := val_nonneg (by omega) (hd.drop (k + 1))
  have h2 := (hd.getD (by omega) k).1
  rw [val_drop] at h
  omega
theorem mul_step {B P v p c x y V d c' : Int} (h : x * y + p + c = d + B * c') : v + P * (d - p) + P * B * c' + P * B * (x * V) = v + P * c + P * (x * (y + B * V)) := by grind
theorem val_zeros {B : Int} (n : Nat) : val B (List.replicate n (0 : Int)) = 0 := by
  induction n with
  | zero => rfl
  | succ n ih => rw [List.replicate_succ, val, ih]; simp
theorem mul_row {P u x b : Int} : u * b + P * x * b = (u + P * x) * b := by rw [Int.add_mul]
theorem limb_prod {x y : Int} (x0 : 0 ≤ x) (x1 : x < 4294967296) (y0 : 0 ≤ y) (y1 : y < 4294967296) : 0 ≤ x * y ∧ x * y ≤ 18446744065119617025 := by
  refine ⟨Int.mul_nonneg x0 y0, ?_⟩
  have : x * y ≤ 4294967295 * 4294967295 := Int.mul_le_mul (by omega) (by omega) y0 (by omega)
  omega
theorem prod_arg {x y p : Int} (x0 : 0 ≤ x) (x1 : x < 4294967296) (y0 : 0 ≤ y) (y1 : y < 4294967296) (p0 : 0 ≤ p) (p1 : p < 4294967296) :
    IntKind.u64.wrap (IntKind.u64.wrap (IntKind.u64.wrap x * IntKind.u64.wrap y) + IntKind.u64.wrap p) = x * y + p := by
  have h := limb_prod x0 x1 y0 y1
  have h1 : IntKind.u64.wrap x = x := by rw [IntKind.wrap_u64]; omega
  have h2 : IntKind.u64.wrap y = y := by rw [IntKind.wrap_u64]; omega
  rw [h1, h2]
  generalize x * y = t at h ⊢
  rw [IntKind.wrap_u64, IntKind.wrap_u64, IntKind.wrap_u64]
  omega

set_option maxHeartbeats 4000000 in
theorem nMul_any (a : Option Addr) (la ca : Nat) (za : List Int) (b : Option Addr) (lb cb : Nat) (zb : List Int) (w : World)
    (ha : Row .u32 w a la ca za) (da : Digs 4294967296 za) (hb : Row .u32 w b lb cb zb) (db : Digs 4294967296 zb) (la6 : la ≤ 1000000) (lb6 : lb ≤ 1000000) :
    Calls Try.prog 35 #[.slice a la ca, .slice b lb cb] w (Gives .u32 w fun r => Is 4294967296 r (val 4294967296 za * val 4294967296 zb)) := by
  obtain ⟨i0, hi, hz0, hz1, hz2⟩ := info_parts Try.infoU32
  have HA := Lib.hid ha
  have HB := Lib.hid hb
  have DA := Lib.hid da
  have DB := Lib.hid db
  have LA := Lib.hid ha.len
  have LB := Lib.hid hb.len
  clear ha hb da db
  obtain ⟨N, hN⟩ : ∃ N, la + lb = N := ⟨_, rfl⟩
  have HN := Lib.hid hN
  have N6 : N ≤ 2000000 := by omega
  clear hN
  have HBY := Lib.hid (show i0.bytes * N ≤ 281474976710656 by rw [hz2]; omega)
  go_enter Try.func35, Try.ntmps35
  go_wp2_with (first
    | (at_make; refine wpList_make_full _ rfl _ _ 24 rfl w.heap.size 38 i0 (.int .u32 0) 1 Try.underlying24 hi hz0 hz1 _ _ _ _ N rfl rfl (by have := HN.out; omega) (by have := HN.out; omega) HBY.out (by unfold maxLen; omega) (Nat.le_refl _) ?_; intro w1 hown hgrow; have HO := Lib.hid hown; have HG := Lib.hid hgrow; clear hown hgrow))
  have M0 := Lib.hid (show Mine w1 w.heap.size (List.replicate N 0) by
    have := HO.out
    rw [made_zeros] at this
    exact mine_of_owns this)
  have B0 := Lib.hid ((Below.refl w.heap.size w).grown HG.out (Nat.le_refl _) (fun g hg => by cases hg))
  go_loopw [17] (fun v wr => ∃ (i : Nat) (ds : List Int), v = .int .i64 i ∧ i ≤ la ∧ ds.length = N ∧ Digs 4294967296 ds ∧ Mine wr w.heap.size ds ∧ val 4294967296 (ds.drop (i + lb)) = 0 ∧ val 4294967296 ds = val 4294967296 (za.take i) * val 4294967296 zb ∧ Below w.heap.size w wr) (fun v _ => la - (intOf v).toNat)
  case atStart =>
    refine ⟨0, _, rfl, by omega, List.length_replicate, digs_zeroB _, M0.out, ?_, ?_, B0.out⟩
    · rw [List.drop_replicate]; exact val_zeros _
    · rw [val_zeros]; simp [val]
  case round =>
    obtain ⟨i, ds, rfl, hil, hdl, hdg, hmi, hzr, hval, hbel⟩ := hrel
    have HDl := Lib.hid hdl
    have HDg := Lib.hid hdg
    have HMi := Lib.hid hmi
    have HZr := Lib.hid hzr
    have HVal := Lib.hid hval
    have HW := Lib.hid hbel
    have hsz := hbel.size
    have hmlt := hmi.lt
    clear hdl hdg hmi hzr hval hbel
    obtain ⟨wc, rfl⟩ : ∃ wc, wc = wr := ⟨_, rfl⟩
    by_cases go : i < la
    · have b1 : decide ((i : Int) < (la : Int)) = true := by simp; omega
      obtain ⟨ba, oa, rfl, hca⟩ := HA.out.cell go
      obtain ⟨x1, x2⟩ := DA.out.getD (by omega) i
      obtain ⟨x, hx⟩ : ∃ x, za.getD i 0 = x := ⟨_, rfl⟩
      rw [hx] at x1 x2 hca
      have HX := Lib.hid hx
      have HCA := Lib.hid hca
      have hlta := World.block_lt_of_cell? _ _ hca
      clear hx hca
      go_wp2_with (go_at_call 54; refine (carrier_any _ _).mono ?_; rintro e w2 ⟨rfl, hw2⟩; have HW2 := Lib.hid hw2; clear hw2)
      have M1 := Lib.hid (show Mine w2 w.heap.size ds by rw [← HW2.out]; exact HMi.out.alloc _)
      have C1 := Lib.hid (show w2.heap[wc.heap.size]? = some (.cells #[.int .u64 0] 40 (0, 0)) by rw [← HW2.out]; exact heap_alloc_new wc _)
      have B1 := Lib.hid (show Below w.heap.size w w2 by rw [← HW2.out]; exact HW.out.alloc hsz _)
      go_loopw [23] (fun v wr => ∃ (j : Nat) (c : Int) (es : List Int), v = .int .i64 j ∧ j ≤ lb ∧ 0 ≤ c ∧ c < 4294967296 ∧ es.length = N ∧ Digs 4294967296 es ∧ Mine wr w.heap.size es ∧ wr.heap[wc.heap.size]? = some (.cells #[.int .u64 c] 40 (0, 0)) ∧ val 4294967296 (es.drop (i + lb)) = 0 ∧ val 4294967296 es + 4294967296 ^ (i + j) * c + 4294967296 ^ (i + j) * (x * val 4294967296 (zb.drop j)) = val 4294967296 (za.take (i + 1)) * val 4294967296 zb ∧ Below w.heap.size w wr) (fun v _ => lb - (intOf v).toNat)
      case atStart =>
        refine ⟨0, 0, ds, rfl, by omega, by omega, by omega, HDl.out, HDg.out, M1.out, C1.out, HZr.out, ?_, B1.out⟩
        rw [take_snoc (by rw [LA.out]; exact go), val_append, List.length_take, LA.out, Nat.min_eq_left (by omega), HX.out, HVal.out, Int.add_mul]
        simp [val, Int.mul_assoc]
      case round =>
        obtain ⟨j, c, es, rfl, hjl, c0, c1, hel, heg, hmi2, hcb, hzr2, hval2, hbel2⟩ := hrel
        have HEl := Lib.hid hel
        have HEg := Lib.hid heg
        have HM2 := Lib.hid hmi2
        have HCb := Lib.hid hcb
        have HZ2 := Lib.hid hzr2
        have HV2 := Lib.hid hval2
        have HB2 := Lib.hid hbel2
        have hsz2 := hbel2.size
        clear hel heg hmi2 hcb hzr2 hval2 hbel2
        by_cases go2 : j < lb
        · have b2 : decide ((j : Int) < (lb : Int)) = true := by simp; omega
          obtain ⟨bb, ob, rfl, hcb2⟩ := HB.out.cell go2
          obtain ⟨y1, y2⟩ := DB.out.getD (by omega) j
          obtain ⟨y, hy⟩ : ∃ y, zb.getD j 0 = y := ⟨_, rfl⟩
          rw [hy] at y1 y2 hcb2
          have HY := Lib.hid hy
          clear hy
          have hltb := World.block_lt_of_cell? _ _ hcb2
          have ga : wr.drew.cell? ⟨ba, oa + i, none⟩ = some (.int .u32 x) := (HB2.out.cell (p := ⟨ba, oa + i, none⟩) hlta).trans HCA.out
          have gb : wr.drew.cell? ⟨bb, ob + j, none⟩ = some (.int .u32 y) := (HB2.out.cell (p := ⟨bb, ob + j, none⟩) hltb).trans hcb2
          clear hcb2
          have hij : i + j < es.length := by rw [HEl.out]; have := HN.out; omega
          have HIJ := Lib.hid hij
          have gp := HM2.out.drew.cell hij
          obtain ⟨p1, p2⟩ := HEg.out.getD (by omega) (i + j)
          obtain ⟨p, hp⟩ : ∃ p, es.getD (i + j) 0 = p := ⟨_, rfl⟩
          rw [hp] at gp p1 p2
          have HP := Lib.hid hp
          clear hp hij
          have ⟨t1, t2⟩ := limb_prod x1 x2 y1 y2
          obtain ⟨t, ht⟩ : ∃ t, x * y = t := ⟨_, rfl⟩
          rw [ht] at t1 t2
          have HTt := Lib.hid ht
          clear ht
          have PA := Lib.hid (prod_arg x1 x2 y1 y2 p1 p2)
          rw [HTt.out] at PA
          have HCbD := Lib.hid (show wr.drew.heap[wc.heap.size]? = some (.cells #[.int .u64 c] 40 (0, 0)) from HCb.out)
          have GA := Lib.hid ga
          have GB := Lib.hid gb
          clear ga gb
          have i1 : (i : Int) < (la : Int) := by omega
          have i2 : 0 ≤ (i : Int) := by omega
          have j1 : (j : Int) < (lb : Int) := by omega
          have j2 : 0 ≤ (j : Int) := by omega
          have n1 : (i : Int) + (j : Int) < (N : Int) := by have := HN.out; omega
          have n2 : 0 ≤ (i : Int) + (j : Int) := by omega
          have n3 : ((i : Int) + (j : Int)).toNat = i + j := by omega
          have n4 : IntKind.i64.wrap ((i : Int) + (j : Int)) = (i : Int) + (j : Int) := IntWalk.i64_in _ (by omega)
          go_wp2
          have ga := GA.out
          have gb := GB.out
          go_region_with
            (first
              | (go_at_call 68; rw [PA.out]; refine (carry_at (t + p) c wc.heap.size wr.drew HCbD.out (by clear n3 n4; omega) (by clear n3 n4; omega) (by clear n3 n4; omega)).mono ?_; rintro e w3 ⟨rfl, hc3, hg3⟩; have HC3 := Lib.hid hc3; have HG3 := Lib.hid hg3; have hm3 := HM2.out.drew.grown hg3 (by simp; omega); have hcl := hm3.cell (i := i + j) HIJ.out; have hfr := hm3.free (i + j); have HM3 := Lib.hid hm3; have HK3 := Lib.hid (And.intro (hg3.cell (a := ⟨ba, oa + i, none⟩) GA.out (by simp; omega)) (hg3.cell (a := ⟨bb, ob + j, none⟩) GB.out (by simp; omega))); clear hc3 hg3 hm3))
          all_goals
            clear n1 n2 n3 n4
            go_wp2
            go_roundw
            case rel =>
              refine ⟨j + 1, (t + p + c) / 4294967296, es.set (i + j) ((t + p + c) % 4294967296), by go_num, by omega, by omega, by omega, by rw [List.length_set]; exact HEl.out, digs_setB HEg.out ⟨by omega, by omega⟩, HM3.out.set (i + j) _, ?_, ?_, ?_, ?_⟩
              · rw [Below.heap_setCell _ _ _ _ (by simp; omega)]; exact HC3.out
              · rw [List.drop_set_of_lt (by omega)]; exact HZ2.out
              · rw [val_set HIJ.out, HP.out, ← HV2.out, val_drop 4294967296 zb j, HY.out, show i + (j + 1) = (i + j) + 1 by omega, Int.pow_succ]
                exact mul_step (by rw [HTt.out]; omega)
              · exact (HB2.out.drew.grown HG3.out hsz2 (fun g hg => by cases hg; exact hsz)).setCell (Nat.le_refl _) _
            case measure => simp [intOf]; omega
        · obtain rfl : j = lb := by omega
          have b2 : decide ((j : Int) < (j : Int)) = false := by simp
          have hij : i + j < es.length := by rw [HEl.out]; have := HN.out; omega
          have HIJ := Lib.hid hij
          clear hij
          have Z := Lib.hid (zero_at HEg.out HZ2.out)
          have n1 : (i : Int) + (j : Int) < (N : Int) := by have := HN.out; omega
          have EM := Lib.hid (show (0 + c) % 4294967296 = c by omega)
          go_wp2_with (go_at_call 68; refine (carry_at 0 c wc.heap.size wr HCb.out (by omega) (by omega) (by omega)).mono ?_; rintro e w3 ⟨rfl, hc3, hg3⟩; rw [EM.out]; have HC3 := Lib.hid hc3; have HG3 := Lib.hid hg3; have hm3 := HM2.out.grown hg3 (by simp; omega); have hcl := hm3.cell (i := i + j) HIJ.out; have hfr := hm3.free (i + j); have HM3 := Lib.hid hm3; clear hc3 hg3 hm3)
          go_roundw
          case rel =>
            refine ⟨i + 1, es.set (i + j) c, by go_num, by omega, by rw [List.length_set]; exact HEl.out, digs_setB HEg.out ⟨by omega, by omega⟩, HM3.out.set (i + j) _, ?_, ?_, ?_⟩
            · rw [List.drop_set_of_lt (by omega), show i + 1 + j = i + j + 1 by omega]; exact Z.out.2
            · rw [val_set HIJ.out, Z.out.1, ← HV2.out, List.drop_eq_nil_of_le (by rw [LB.out]; omega)]; simp [val]
            · exact (HB2.out.grown HG3.out hsz2 (fun g hg => by cases hg; exact hsz)).setCell (Nat.le_refl _) _
          case measure => simp [intOf]; omega
    · obtain rfl : i = la := by omega
      have b1 : decide ((i : Int) < (i : Int)) = false := by simp
      have hv : val 4294967296 ds = val 4294967296 za * val 4294967296 zb := by
        have h1 := HVal.out
        rw [List.take_of_length_le (by rw [LA.out]; omega)] at h1
        exact h1
      have HV := Lib.hid hv
      clear hv
      have HR := Lib.hid (HMi.out.row (cap := N) (by rw [HDl.out]; omega) (by omega))
      rw [HDl.out] at HR
      go_wp2_with (go_at_call 52; refine (ncut_any _ _ _ ds _ HR.out HDg.out).mono ?_; rintro e w' ⟨m1, l1, rfl, hr1, hi1, rfl⟩; rw [HV.out] at hi1; have HR1 := Lib.hid hr1; have HI1 := Lib.hid hi1; clear hr1 hi1)
      go_ret
      exact ⟨_, _, _, _, rfl, HR1.out, HI1.out, HW.out, (fun ad h => by cases h; exact Nat.le_refl _)⟩
end Go.Proofs.Ytenibpnifnlfeaa
