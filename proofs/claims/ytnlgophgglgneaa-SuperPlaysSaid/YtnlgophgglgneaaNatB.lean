/-
  What package nat's Mul gives back: contract.
  Rows of bytes that the program made itself and may write; what slices.Reverse gives back: contract.
  What package nat's Text gives back: contract.
  What package nat's formed and read give back: contracts.
  What package nat's Parse gives back: contract.
  What the laws' own awake gives back; slices that came in.
-/
import Derived.Test.YtnlgophgglgneaaNatA
namespace Go.Proofs.Ytnlgophgglgneaa
open Go.RowKit

theorem val_set {B : Int} {ds : List Int} {i : Nat} {q : Int} (h : i < ds.length) : val B (ds.set i q) = val B ds + B ^ i * (q - ds.getD i 0) := by
  have h1 := val_split B ds (i := i) (by omega)
  have h2 := val_split B (ds.set i q) (i := i) (by rw [List.length_set]; omega)
  rw [List.take_set_of_le (Nat.le_refl _), drop_set h, val] at h2
  rw [val_drop] at h1
  rw [h1, h2, Int.add_assoc, ← Int.mul_add]
  congr 2
  omega
theorem zero_at {ds : List Int} {k : Nat} (hd : Digs 4294967296 ds) (h : val 4294967296 (ds.drop k) = 0) : ds.getD k 0 = 0 ∧ val 4294967296 (ds.drop (k + 1)) = 0 := by
  have h1 := val_nonneg (by omega) (hd.drop (k + 1))
  have h2 := (hd.getD (by omega) k).1
  rw [val_drop] at h
  omega
theorem mul_step {B P v p c x y V d c' : Int} (h : x * y + p + c = d + B * c') : v + P * (d - p) + P * B * c' + P * B * (x * V) = v + P * c + P * (x * (y + B * V)) := by grind
theorem val_zeros {B : Int} (n : Nat) : val B (List.replicate n (0 : Int)) = 0 := by
  induction n with
  | zero => rfl
  | succ n ih => rw [List.replicate_succ, val, ih]; simp
theorem mul_row {P u x b : Int} : u * b + P * x * b = (u + P * x) * b := by rw [Int.add_mul]
theorem limb_prod {x y : Int} (x0 : 0 ≤ x) (x1 : x < 4294967296) (y0 : 0 ≤ y) (y1 : y < 4294967296) : 0 ≤ x * y ∧ x * y ≤ 18446744065119617025 := by
  refine ⟨Int.mul_nonneg x0 y0, ?_⟩
  have : x * y ≤ 4294967295 * 4294967295 := Int.mul_le_mul (by omega) (by omega) y0 (by omega)
  omega
theorem prod_arg {x y p : Int} (x0 : 0 ≤ x) (x1 : x < 4294967296) (y0 : 0 ≤ y) (y1 : y < 4294967296) (p0 : 0 ≤ p) (p1 : p < 4294967296) :
    IntKind.u64.wrap (IntKind.u64.wrap (IntKind.u64.wrap x * IntKind.u64.wrap y) + IntKind.u64.wrap p) = x * y + p := by
  have h := limb_prod x0 x1 y0 y1
  have h1 : IntKind.u64.wrap x = x := by rw [IntKind.wrap_u64]; omega
  have h2 : IntKind.u64.wrap y = y := by rw [IntKind.wrap_u64]; omega
  rw [h1, h2]
  generalize x * y = t at h ⊢
  rw [IntKind.wrap_u64, IntKind.wrap_u64, IntKind.wrap_u64]
  omega

set_option maxHeartbeats 4000000 in
theorem nMul_any (a : Option Addr) (la ca : Nat) (za : List Int) (b : Option Addr) (lb cb : Nat) (zb : List Int) (w : World)
    (ha : Row .u32 w a la ca za) (da : Digs 4294967296 za) (hb : Row .u32 w b lb cb zb) (db : Digs 4294967296 zb) (la6 : la ≤ 1000000) (lb6 : lb ≤ 1000000) :
    Calls Try.prog 114 #[.slice a la ca, .slice b lb cb] w (Gives .u32 w fun r => Is 4294967296 r (val 4294967296 za * val 4294967296 zb)) := by
  obtain ⟨i0, hi, hz0, hz1, hz2⟩ := info_parts Try.infoU32
  have HA := Lib.hid ha
  have HB := Lib.hid hb
  have DA := Lib.hid da
  have DB := Lib.hid db
  have LA := Lib.hid ha.len
  have LB := Lib.hid hb.len
  clear ha hb da db
  obtain ⟨N, hN⟩ : ∃ N, la + lb = N := ⟨_, rfl⟩
  have HN := Lib.hid hN
  have N6 : N ≤ 2000000 := by omega
  clear hN
  have HBY := Lib.hid (show i0.bytes * N ≤ 281474976710656 by rw [hz2]; omega)
  go_enter Try.func114, Try.ntmps114
  go_wp2_with (first
    | (at_make; refine wpList_make_full _ rfl _ _ 56 rfl w.heap.size 107 i0 (.int .u32 0) 1 Try.underlying56 hi hz0 hz1 _ _ _ _ N rfl rfl (by have := HN.out; omega) (by have := HN.out; omega) HBY.out (by unfold maxLen; omega) (Nat.le_refl _) ?_; intro w1 hown hgrow; have HO := Lib.hid hown; have HG := Lib.hid hgrow; clear hown hgrow))
  have M0 := Lib.hid (show Mine w1 w.heap.size (List.replicate N 0) by
    have := HO.out
    rw [made_zeros] at this
    exact mine_of_owns this)
  have B0 := Lib.hid ((Below.refl w.heap.size w).grown HG.out (Nat.le_refl _) (fun g hg => by cases hg))
  go_loopw [17] (fun v wr => ∃ (i : Nat) (ds : List Int), v = .int .i64 i ∧ i ≤ la ∧ ds.length = N ∧ Digs 4294967296 ds ∧ Mine wr w.heap.size ds ∧ val 4294967296 (ds.drop (i + lb)) = 0 ∧ val 4294967296 ds = val 4294967296 (za.take i) * val 4294967296 zb ∧ Below w.heap.size w wr) (fun v _ => la - (intOf v).toNat)
  case atStart =>
    refine ⟨0, _, rfl, by omega, List.length_replicate, digs_zeroB _, M0.out, ?_, ?_, B0.out⟩
    · rw [List.drop_replicate]; exact val_zeros _
    · rw [val_zeros]; simp [val]
  case round =>
    obtain ⟨i, ds, rfl, hil, hdl, hdg, hmi, hzr, hval, hbel⟩ := hrel
    have HDl := Lib.hid hdl
    have HDg := Lib.hid hdg
    have HMi := Lib.hid hmi
    have HZr := Lib.hid hzr
    have HVal := Lib.hid hval
    have HW := Lib.hid hbel
    have hsz := hbel.size
    have hmlt := hmi.lt
    clear hdl hdg hmi hzr hval hbel
    obtain ⟨wc, rfl⟩ : ∃ wc, wc = wr := ⟨_, rfl⟩
    by_cases go : i < la
    · have b1 : decide ((i : Int) < (la : Int)) = true := by simp; omega
      obtain ⟨ba, oa, rfl, hca⟩ := HA.out.cell go
      obtain ⟨x1, x2⟩ := DA.out.getD (by omega) i
      obtain ⟨x, hx⟩ : ∃ x, za.getD i 0 = x := ⟨_, rfl⟩
      rw [hx] at x1 x2 hca
      have HX := Lib.hid hx
      have HCA := Lib.hid hca
      have hlta := World.block_lt_of_cell? _ _ hca
      clear hx hca
      go_wp2_with (go_at_call 115; refine (carrier_any _ _).mono ?_; rintro e w2 ⟨rfl, hw2⟩; have HW2 := Lib.hid hw2; clear hw2)
      have M1 := Lib.hid (show Mine w2 w.heap.size ds by rw [← HW2.out]; exact HMi.out.alloc _)
      have C1 := Lib.hid (show w2.heap[wc.heap.size]? = some (.cells #[.int .u64 0] 92 (0, 0)) by rw [← HW2.out]; exact heap_alloc_new wc _)
      have B1 := Lib.hid (show Below w.heap.size w w2 by rw [← HW2.out]; exact HW.out.alloc hsz _)
      go_loopw [23] (fun v wr => ∃ (j : Nat) (c : Int) (es : List Int), v = .int .i64 j ∧ j ≤ lb ∧ 0 ≤ c ∧ c < 4294967296 ∧ es.length = N ∧ Digs 4294967296 es ∧ Mine wr w.heap.size es ∧ wr.heap[wc.heap.size]? = some (.cells #[.int .u64 c] 92 (0, 0)) ∧ val 4294967296 (es.drop (i + lb)) = 0 ∧ val 4294967296 es + 4294967296 ^ (i + j) * c + 4294967296 ^ (i + j) * (x * val 4294967296 (zb.drop j)) = val 4294967296 (za.take (i + 1)) * val 4294967296 zb ∧ Below w.heap.size w wr) (fun v _ => lb - (intOf v).toNat)
      case atStart =>
        refine ⟨0, 0, ds, rfl, by omega, by omega, by omega, HDl.out, HDg.out, M1.out, C1.out, HZr.out, ?_, B1.out⟩
        rw [take_snoc (by rw [LA.out]; exact go), val_append, List.length_take, LA.out, Nat.min_eq_left (by omega), HX.out, HVal.out, Int.add_mul]
        simp [val, Int.mul_assoc]
      case round =>
        obtain ⟨j, c, es, rfl, hjl, c0, c1, hel, heg, hmi2, hcb, hzr2, hval2, hbel2⟩ := hrel
        have HEl := Lib.hid hel
        have HEg := Lib.hid heg
        have HM2 := Lib.hid hmi2
        have HCb := Lib.hid hcb
        have HZ2 := Lib.hid hzr2
        have HV2 := Lib.hid hval2
        have HB2 := Lib.hid hbel2
        have hsz2 := hbel2.size
        clear hel heg hmi2 hcb hzr2 hval2 hbel2
        by_cases go2 : j < lb
        · have b2 : decide ((j : Int) < (lb : Int)) = true := by simp; omega
          obtain ⟨bb, ob, rfl, hcb2⟩ := HB.out.cell go2
          obtain ⟨y1, y2⟩ := DB.out.getD (by omega) j
          obtain ⟨y, hy⟩ : ∃ y, zb.getD j 0 = y := ⟨_, rfl⟩
          rw [hy] at y1 y2 hcb2
          have HY := Lib.hid hy
          clear hy
          have hltb := World.block_lt_of_cell? _ _ hcb2
          have ga : wr.drew.cell? ⟨ba, oa + i, none⟩ = some (.int .u32 x) := (HB2.out.cell (p := ⟨ba, oa + i, none⟩) hlta).trans HCA.out
          have gb : wr.drew.cell? ⟨bb, ob + j, none⟩ = some (.int .u32 y) := (HB2.out.cell (p := ⟨bb, ob + j, none⟩) hltb).trans hcb2
          clear hcb2
          have hij : i + j < es.length := by rw [HEl.out]; have := HN.out; omega
          have HIJ := Lib.hid hij
          have gp := HM2.out.drew.cell hij
          obtain ⟨p1, p2⟩ := HEg.out.getD (by omega) (i + j)
          obtain ⟨p, hp⟩ : ∃ p, es.getD (i + j) 0 = p := ⟨_, rfl⟩
          rw [hp] at gp p1 p2
          have HP := Lib.hid hp
          clear hp hij
          have ⟨t1, t2⟩ := limb_prod x1 x2 y1 y2
          obtain ⟨t, ht⟩ : ∃ t, x * y = t := ⟨_, rfl⟩
          rw [ht] at t1 t2
          have HTt := Lib.hid ht
          clear ht
          have PA := Lib.hid (prod_arg x1 x2 y1 y2 p1 p2)
          rw [HTt.out] at PA
          have HCbD := Lib.hid (show wr.drew.heap[wc.heap.size]? = some (.cells #[.int .u64 c] 92 (0, 0)) from HCb.out)
          have GA := Lib.hid ga
          have GB := Lib.hid gb
          clear ga gb
          have i1 : (i : Int) < (la : Int) := by omega
          have i2 : 0 ≤ (i : Int) := by omega
          have j1 : (j : Int) < (lb : Int) := by omega
          have j2 : 0 ≤ (j : Int) := by omega
          have n1 : (i : Int) + (j : Int) < (N : Int) := by have := HN.out; omega
          have n2 : 0 ≤ (i : Int) + (j : Int) := by omega
          have n3 : ((i : Int) + (j : Int)).toNat = i + j := by omega
          have n4 : IntKind.i64.wrap ((i : Int) + (j : Int)) = (i : Int) + (j : Int) := IntWalk.i64_in _ (by omega)
          go_wp2
          have ga := GA.out
          have gb := GB.out
          go_region_with
            (first
              | (go_at_call 122; rw [PA.out]; refine (carry_at (t + p) c wc.heap.size wr.drew HCbD.out (by clear n3 n4; omega) (by clear n3 n4; omega) (by clear n3 n4; omega)).mono ?_; rintro e w3 ⟨rfl, hc3, hg3⟩; have HC3 := Lib.hid hc3; have HG3 := Lib.hid hg3; have hm3 := HM2.out.drew.grown hg3 (by simp; omega); have hcl := hm3.cell (i := i + j) HIJ.out; have hfr := hm3.free (i + j); have HM3 := Lib.hid hm3; have HK3 := Lib.hid (And.intro (hg3.cell (a := ⟨ba, oa + i, none⟩) GA.out (by simp; omega)) (hg3.cell (a := ⟨bb, ob + j, none⟩) GB.out (by simp; omega))); clear hc3 hg3 hm3))
          all_goals
            clear n1 n2 n3 n4
            go_wp2
            go_roundw
            case rel =>
              refine ⟨j + 1, (t + p + c) / 4294967296, es.set (i + j) ((t + p + c) % 4294967296), by go_num, by omega, by omega, by omega, by rw [List.length_set]; exact HEl.out, digs_setB HEg.out ⟨by omega, by omega⟩, HM3.out.set (i + j) _, ?_, ?_, ?_, ?_⟩
              · rw [Below.heap_setCell _ _ _ _ (by simp; omega)]; exact HC3.out
              · rw [List.drop_set_of_lt (by omega)]; exact HZ2.out
              · rw [val_set HIJ.out, HP.out, ← HV2.out, val_drop 4294967296 zb j, HY.out, show i + (j + 1) = (i + j) + 1 by omega, Int.pow_succ]
                exact mul_step (by rw [HTt.out]; omega)
              · exact (HB2.out.drew.grown HG3.out hsz2 (fun g hg => by cases hg; exact hsz)).setCell (Nat.le_refl _) _
            case measure => simp [intOf]; omega
        · obtain rfl : j = lb := by omega
          have b2 : decide ((j : Int) < (j : Int)) = false := by simp
          have hij : i + j < es.length := by rw [HEl.out]; have := HN.out; omega
          have HIJ := Lib.hid hij
          clear hij
          have Z := Lib.hid (zero_at HEg.out HZ2.out)
          have n1 : (i : Int) + (j : Int) < (N : Int) := by have := HN.out; omega
          have EM := Lib.hid (show (0 + c) % 4294967296 = c by omega)
          go_wp2_with (go_at_call 122; refine (carry_at 0 c wc.heap.size wr HCb.out (by omega) (by omega) (by omega)).mono ?_; rintro e w3 ⟨rfl, hc3, hg3⟩; rw [EM.out]; have HC3 := Lib.hid hc3; have HG3 := Lib.hid hg3; have hm3 := HM2.out.grown hg3 (by simp; omega); have hcl := hm3.cell (i := i + j) HIJ.out; have hfr := hm3.free (i + j); have HM3 := Lib.hid hm3; clear hc3 hg3 hm3)
          go_roundw
          case rel =>
            refine ⟨i + 1, es.set (i + j) c, by go_num, by omega, by rw [List.length_set]; exact HEl.out, digs_setB HEg.out ⟨by omega, by omega⟩, HM3.out.set (i + j) _, ?_, ?_, ?_⟩
            · rw [List.drop_set_of_lt (by omega), show i + 1 + j = i + j + 1 by omega]; exact Z.out.2
            · rw [val_set HIJ.out, Z.out.1, ← HV2.out, List.drop_eq_nil_of_le (by rw [LB.out]; omega)]; simp [val]
            · exact (HB2.out.grown HG3.out hsz2 (fun g hg => by cases hg; exact hsz)).setCell (Nat.le_refl _) _
          case measure => simp [intOf]; omega
    · obtain rfl : i = la := by omega
      have b1 : decide ((i : Int) < (i : Int)) = false := by simp
      have hv : val 4294967296 ds = val 4294967296 za * val 4294967296 zb := by
        have h1 := HVal.out
        rw [List.take_of_length_le (by rw [LA.out]; omega)] at h1
        exact h1
      have HV := Lib.hid hv
      clear hv
      have HR := Lib.hid (HMi.out.row (cap := N) (by rw [HDl.out]; omega) (by omega))
      rw [HDl.out] at HR
      go_wp2_with (go_at_call 100; refine (ncut_any _ _ _ ds _ HR.out HDg.out).mono ?_; rintro e w' ⟨m1, l1, rfl, hr1, hi1, rfl⟩; rw [HV.out] at hi1; have HR1 := Lib.hid hr1; have HI1 := Lib.hid hi1; clear hr1 hi1)
      go_ret
      exact ⟨_, _, _, _, rfl, HR1.out, HI1.out, HW.out, (fun ad h => by cases h; exact Nat.le_refl _)⟩
end Go.Proofs.Ytnlgophgglgneaa
namespace Go.Proofs.Ytnlgophgglgneaa
open Go.RowKit

/-- block g is a row of bytes that may be written; it begins with zs -/
def Mine8 (W : World) (g : Nat) (zs : List Int) : Prop :=
  ∃ cur, W.heap[g]? = some (.cells cur 5 (0, 0)) ∧ cur.toList.take zs.length = zs.map (Value.int .u8)

theorem Mine8.lt {W : World} {g : Nat} {zs : List Int} (h : Mine8 W g zs) : g < W.heap.size := by
  obtain ⟨cur, h1, _⟩ := h; exact lt_of_block h1
theorem Mine8.cell {W : World} {g : Nat} {zs : List Int} (h : Mine8 W g zs) {i : Nat} (hi : i < zs.length) : W.cell? ⟨g, i, none⟩ = some (.int .u8 (zs.getD i 0)) := by
  obtain ⟨cur, h1, h2⟩ := h
  rw [cell_of_row W g i cur 5 (0, 0) h1, ← Array.getElem?_toList, ← List.getElem?_take_of_lt (l := cur.toList) hi, h2, List.getElem?_map, List.getElem?_eq_getElem hi, List.getD_eq_getElem?_getD, List.getElem?_eq_getElem hi]
  rfl
theorem Mine8.free {W : World} {g : Nat} {zs : List Int} (h : Mine8 W g zs) (i : Nat) : W.frozen? ⟨g, i, none⟩ = false := by
  obtain ⟨cur, h1, _⟩ := h
  exact frozen_of_row W g i cur 5 h1
theorem Mine8.set {W : World} {g : Nat} {zs : List Int} (h : Mine8 W g zs) (i : Nat) (q : Int) : Mine8 (W.setCell ⟨g, i, none⟩ (.int .u8 q)) g (zs.set i q) := by
  obtain ⟨cur, h1, h2⟩ := h
  refine ⟨_, heap_setCell_same W g i cur 5 _ h1, ?_⟩
  rw [List.length_set, Array.toList_setIfInBounds, List.take_set, h2, List.map_set]
theorem Mine8.other {W : World} {g : Nat} {zs : List Int} (h : Mine8 W g zs) {a : Addr} (ha : g ≠ a.block) (u : Value) : Mine8 (W.setCell a u) g zs := by
  obtain ⟨cur, h1, h2⟩ := h
  exact ⟨cur, by rw [Below.heap_setCell _ _ _ _ ha]; exact h1, h2⟩
theorem Mine8.grown {W W' : World} {g : Nat} {zs : List Int} {row : Option Nat} (h : Mine8 W g zs) (hg : W.grownBy W' row) (hne : some g ≠ row) : Mine8 W' g zs := by
  have := h.lt
  obtain ⟨cur, h1, h2⟩ := h
  exact ⟨cur, by rw [hg.block g this hne]; exact h1, h2⟩
theorem Mine8.below {W W' : World} {g B : Nat} {zs : List Int} (h : Mine8 W g zs) (hb : Below B W W') (hg : g < B) : Mine8 W' g zs := by
  obtain ⟨cur, h1, h2⟩ := h
  exact ⟨cur, by rw [hb.block g hg]; exact h1, h2⟩
theorem Mine8.alloc {W : World} {g : Nat} {zs : List Int} (h : Mine8 W g zs) (o : Obj) : Mine8 (W.alloc o) g zs := by
  have := h.lt
  obtain ⟨cur, h1, h2⟩ := h
  exact ⟨cur, by rw [Below.heap_alloc _ _ _ this]; exact h1, h2⟩
theorem Mine8.drew {W : World} {g : Nat} {zs : List Int} (h : Mine8 W g zs) : Mine8 W.drew g zs := h
theorem Mine8.take {W : World} {g : Nat} {zs : List Int} (h : Mine8 W g zs) {m : Nat} (hm : m ≤ zs.length) : Mine8 W g (zs.take m) := by
  obtain ⟨cur, h1, h2⟩ := h
  refine ⟨cur, h1, ?_⟩
  rw [List.length_take, Nat.min_eq_left hm, List.map_take, ← h2, List.take_take, Nat.min_eq_left hm]
theorem Mine8.row {W : World} {g : Nat} {zs : List Int} (h : Mine8 W g zs) {cap : Nat} (h1 : zs.length ≤ cap) (h2 : cap ≤ 9223372036854775807) : Row .u8 W (some ⟨g, 0, none⟩) zs.length cap zs :=
  ⟨rfl, h1, h2, (fun e => by cases e), fun i hi => ⟨g, 0, rfl, by rw [Nat.zero_add]; exact h.cell hi⟩⟩
theorem mine8_of_owns {W : World} {base g n cap : Nat} {zs : List Int} (h : W.ownsRow base 5 1 (.slice (some ⟨g, 0, none⟩) n cap) n (zs.map (Value.int .u8))) : Mine8 W g zs := by
  have hl : zs.length = n := by have := h.1; simpa using this
  rcases h.2 with ⟨h', _⟩ | ⟨g', cap', cur, h', _, hg, _, _, _, htake⟩
  · simp at h'
  · simp only [Value.slice.injEq, Option.some.injEq, Addr.mk.injEq, and_true, true_and] at h'
    obtain ⟨rfl, rfl⟩ := h'
    exact ⟨cur, hg, by rw [hl]; simpa using htake⟩


/-- what a row is when its ends up to i have changed places -/
def Turned (zs ds : List Int) (i : Nat) : Prop :=
  ds.length = zs.length ∧ ∀ k, k < zs.length → ds.getD k 0 = if i ≤ k ∧ k + i < zs.length then zs.getD k 0 else zs.getD (zs.length - 1 - k) 0
theorem getD_reverse {zs : List Int} {k : Nat} (h : k < zs.length) : zs.reverse.getD k 0 = zs.getD (zs.length - 1 - k) 0 := by
  rw [List.getD_eq_getElem?_getD, List.getElem?_reverse h, ← List.getD_eq_getElem?_getD]
theorem list_ext_getD {x y : List Int} (hl : x.length = y.length) (h : ∀ k, k < y.length → x.getD k 0 = y.getD k 0) : x = y := by
  apply List.ext_getElem hl
  intro k h1 h2
  have := h k h2
  rw [List.getD_eq_getElem?_getD, List.getD_eq_getElem?_getD, List.getElem?_eq_getElem h1, List.getElem?_eq_getElem h2] at this
  simpa using this
theorem turned_start (zs : List Int) : Turned zs zs 0 := ⟨rfl, fun k hk => by rw [if_pos (by omega)]⟩
theorem turned_end {zs ds : List Int} {i : Nat} (h : Turned zs ds i) (hi : zs.length ≤ 2 * i + 1) : ds = zs.reverse := by
  refine list_ext_getD (by rw [h.1, List.length_reverse]) (fun k hk => ?_)
  rw [List.length_reverse] at hk
  rw [getD_reverse hk, h.2 k hk]
  by_cases g : i ≤ k ∧ k + i < zs.length
  · rw [if_pos g, show zs.length - 1 - k = k by omega]
  · rw [if_neg g]
theorem turned_swap {zs ds : List Int} {i j : Nat} (h : Turned zs ds i) (hij : i + j + 1 = zs.length) (hlt : i < j) : Turned zs ((ds.set i (ds.getD j 0)).set j (ds.getD i 0)) (i + 1) := by
  have hl := h.1
  refine ⟨by rw [List.length_set, List.length_set]; exact hl, fun k hk => ?_⟩
  have ei := h.2 i (by omega)
  have ej := h.2 j (by omega)
  have ek := h.2 k hk
  rw [if_pos (by omega)] at ei ej
  by_cases g1 : k = j
  · subst g1
    rw [if_neg (by omega), List.getD_eq_getElem?_getD, List.getElem?_set_self (by rw [List.length_set, hl]; exact hk), Option.getD_some, ei, show zs.length - 1 - k = i by omega]
  · rw [List.getD_eq_getElem?_getD, List.getElem?_set_ne (fun e => g1 e.symm)]
    by_cases g2 : k = i
    · subst g2
      rw [if_neg (by omega), List.getElem?_set_self (by rw [hl]; exact hk), Option.getD_some, ej, show zs.length - 1 - k = j by omega]
    · rw [List.getElem?_set_ne (fun e => g2 e.symm), ← List.getD_eq_getElem?_getD, ek]
      by_cases g3 : i ≤ k ∧ k + i < zs.length
      · rw [if_pos g3, if_pos (by omega)]
      · rw [if_neg g3, if_neg (by omega)]

theorem grown_drew {w w' : World} {row : Option Nat} (h : w.grownBy w' row) : w.grownBy w'.drew row := ⟨h.os, h.tape, h.output, h.size, h.block⟩
def Reverses (w : World) (g : Nat) (zs : List Int) (e : Ending) (w' : World) : Prop :=
  e = .returned (.tuple #[]) ∧ Mine8 w' g zs.reverse ∧ w.grownBy w' (some g)

end Go.Proofs.Ytnlgophgglgneaa
namespace Go.Proofs.Ytnlgophgglgneaa
open Go.RowKit

def up (d : Int) : Int := 48 + d
theorem Whose.trim {W : World} {base : Nat} {a : Option Addr} {len cap m : Nat} {zs : List Int} (h : Whose W base a len cap zs) (hm : m ≤ len) : Whose W base a m m (zs.take m) := by
  obtain ⟨h0, h1, h2, h3⟩ := h
  refine ⟨by rw [List.length_take, h0]; omega, Nat.le_refl _, by omega, ?_⟩
  rcases h3 with ⟨rfl, rfl⟩ | ⟨g, rfl, h4, h5⟩
  · exact .inl ⟨rfl, by omega⟩
  · exact .inr ⟨g, rfl, h4, h5.take (by omega)⟩
theorem apart_types {W : World} {g base n : Nat} {zs : List Int} {v : Value} {xs : List Value} (hm : Mine W g zs) (ho : W.ownsRow base 5 1 v n xs) : some g ≠ v.ownBlock := by
  intro e
  obtain ⟨cur, h1, _⟩ := hm
  rcases ho.2 with ⟨rfl, _⟩ | ⟨g', cap, cur', rfl, _, h2, _⟩
  · simp [Value.ownBlock] at e
  · simp [Value.ownBlock] at e
    subst e
    rw [h1] at h2
    simp at h2
theorem Whose.grown8 {W W' : World} {base base' n : Nat} {a : Option Addr} {len cap : Nat} {zs : List Int} {v : Value} {xs : List Value} {o : Obj} (h : Whose W base a len cap zs) (ho : W.ownsRow base' 5 1 v n xs) (hg : (W.alloc o).grownBy W' v.ownBlock) : Whose W' base a len cap zs := by
  obtain ⟨h0, h1, h2, h3⟩ := h
  refine ⟨h0, h1, h2, ?_⟩
  rcases h3 with h3 | ⟨g, rfl, h4, h5⟩
  · exact .inl h3
  · exact .inr ⟨g, rfl, h4, (h5.alloc o).grown hg (apart_types h5 ho)⟩
theorem owns_divided {W W' : World} {base base' n : Nat} {a : Option Addr} {len cap : Nat} {zs : List Int} {v : Value} {xs : List Value} (h : Whose W base a len cap zs) (ho : W.ownsRow base' 5 1 v n xs)
    (hg : ∀ row, (∀ g, a = some ⟨g, 0, none⟩ → row = some g) → W.grownBy W' row) : W'.ownsRow base' 5 1 v n xs := by
  obtain ⟨_, _, _, h3⟩ := h
  rcases h3 with ⟨rfl, _⟩ | ⟨g, rfl, h4, h5⟩
  · exact ho.kept (hg none (fun _ e => by cases e)) (by cases hv : v.ownBlock <;> simp)
  · exact ho.kept (hg (some g) (fun _ e => by cases e; rfl)) (.inr (fun e => apart_types h5 ho e.symm))
theorem owns_len {W : World} {base n : Nat} {e : TypeId} {v : Value} {xs : List Value} (h : W.ownsRow base e 1 v n xs) : lenOf v = n := by
  rcases h.2 with ⟨rfl, rfl⟩ | ⟨g, cap, cur, rfl, _⟩ <;> rfl
theorem len_room {bs : List Int} {c m : Int} (hd : Digs 10 bs) (hc : 0 < c) (h : val 10 bs + 10 ^ bs.length * c = m) (hm : m < 10 ^ 500) : bs.length < 500 := by
  rcases Nat.lt_or_ge bs.length 500 with g | g
  · exact g
  · exfalso
    have h1 := ipow_le (B := 10) (by omega) g
    have h2 := val_nonneg (by omega) hd
    have h3 : (10 : Int) ^ bs.length * 1 ≤ 10 ^ bs.length * c := Int.mul_le_mul_of_nonneg_left (by omega) (Int.le_of_lt (ipow_pos (by omega) _))
    omega
theorem piece_step {n : Nat} {q R : Int} (h : n < 9) : q + 10 ^ (9 - n) * R = q % 10 + 10 * (q / 10 + 10 ^ (9 - (n + 1)) * R) := by
  rw [show 9 - n = (9 - (n + 1)) + 1 by omega, Int.pow_succ, Int.mul_add]
  have : (10 : Int) ^ (9 - (n + 1)) * 10 * R = 10 * (10 ^ (9 - (n + 1)) * R) := by rw [Int.mul_comm ((10 : Int) ^ (9 - (n + 1))) 10, Int.mul_assoc]
  omega
theorem piece_lt {n : Nat} {q : Int} (h : n < 9) (hq : q < 10 ^ (9 - n)) : q / 10 < 10 ^ (9 - (n + 1)) := by
  rw [show 9 - n = (9 - (n + 1)) + 1 by omega, Int.pow_succ] at hq
  omega
theorem owns_up {W : World} {base : Nat} {v : Value} {n : Nat} {bs : List Int} {d : Int} (h : W.ownsRow base 5 1 v (n + 1) (((bs.map up).map (Value.int .u8)) ++ [Value.int .u8 (48 + d)])) :
    W.ownsRow base 5 1 v (n + 1) (((bs ++ [d]).map up).map (Value.int .u8)) := by
  rw [List.map_append, List.map_append]; exact h

theorem conv_text {W : World} {bs : List Int} {g L cap : Nat} (src dst : TypeId) (hd : Digs 10 bs) (hl : bs.length = L) (hm : Mine8 W g (bs.map up).reverse) (hs : Try.prog.underlying src = some (.slice 5)) (hdt : Try.prog.underlying dst = some .string) :
    (convert src dst (.slice (some ⟨g, 0, none⟩) L cap)).run Try.prog W = .ok (.string ⟨(bs.reverse.map digB).toArray⟩) W := by
  have e : (bs.reverse.map digB).length = L := by rw [List.length_map, List.length_reverse, hl]
  rw [← e]
  refine run_convert_bytes_back (P := Try.prog) W src dst 5 ⟨g, 0, none⟩ cap (bs.reverse.map digB) hs Try.underlying5 hdt (fun j hj => ?_)
  rw [List.length_map] at hj
  have h1 := hm.cell (i := j) (by rw [List.length_reverse, List.length_map, ← List.length_reverse]; exact hj)
  have h2 : (⟨g, 0, none⟩ : Addr).add j = ⟨g, j, none⟩ := by unfold Addr.add; split <;> simp_all
  rw [h2, h1]
  rw [← List.map_reverse, List.getD_eq_getElem?_getD, List.getElem?_map, List.getElem?_eq_getElem hj, List.getElem_map]
  have h3 := hd _ (List.mem_reverse.mp (List.getElem_mem hj))
  simp only [Option.map_some, Option.getD_some]
  rw [digB_toNat h3.1 h3.2]
  rfl
theorem Try.infoU8 : (Try.prog.info? 5).map (fun i => (i.zero, i.size, i.bytes)) = some (some (.int .u8 0), 1, 1) := by kernel_rfl

end Go.Proofs.Ytnlgophgglgneaa
namespace Go.Proofs.Ytnlgophgglgneaa
open Go.RowKit

theorem take_bytes {s : ByteArray} {i : Nat} (h : i < s.size) : s.data.toList.take (i + 1) = s.data.toList.take i ++ [s[i]] := by
  rw [List.take_succ_eq_append_getElem (by simpa using h)]; rfl
theorem bool_of_not {r : Bool} {p : Prop} (hr : r = true ↔ p) (h : ¬ p) : r = false := by
  cases r
  · rfl
  · exact absurd (hr.mp rfl) h

theorem numL_append (x y : List UInt8) : numL (x ++ y) = numL y ++ numL x := by simp [numL]
theorem numL_len (x : List UInt8) : (numL x).length = x.length := by simp [numL]

end Go.Proofs.Ytnlgophgglgneaa
namespace Go.Proofs.Ytnlgophgglgneaa
open Go.RowKit

theorem piece_pow (k : Nat) : (10 : Int) ^ (9 * k) ≤ 4294967296 ^ k := by
  induction k with
  | zero => simp
  | succ k ih =>
    rw [Nat.mul_succ, Int.pow_add, Int.pow_succ (4294967296 : Int)]
    have h1 : (10 : Int) ^ 9 = 1000000000 := by decide +kernel
    rw [h1]
    have h2 := ipow_pos (B := 4294967296) (by omega) k
    omega
/-- the bytes of a part of a text -/
theorem extract_list (s : ByteArray) (i j : Nat) : (s.extract i j).data.toList = (s.data.toList.take j).drop i := by
  rw [ByteArray.data_extract]
  simp [List.drop_take]
theorem val_parts {L : List UInt8} {i j : Nat} (hij : i ≤ j) (hj : j ≤ L.length) : val 10 (numL (L.take j)) = val 10 (numL (L.take i)) * 10 ^ (j - i) + val 10 (numL ((L.take j).drop i)) := by
  have h : L.take j = L.take i ++ (L.take j).drop i := by
    have := (List.take_append_drop i (L.take j)).symm
    rwa [List.take_take, Nat.min_eq_left hij] at this
  have hl : ((L.take j).drop i).length = j - i := by rw [List.length_drop, List.length_take]; omega
  have e : numL (L.take j) = numL ((L.take j).drop i) ++ numL (L.take i) := by
    rw [← numL_append, ← h]
  rw [e, val_append, numL_len, hl, Int.mul_comm]
  omega
theorem shift_step {B P v c x y V d c' : Int} (h : y * x + c = d + B * c') : v + P * d + P * B * (c' + x * V) = v + P * (c + x * (y + B * V)) := by grind

end Go.Proofs.Ytnlgophgglgneaa
namespace Go.Proofs.Ytnlgophgglgneaa
open Go.RowKit

def ddAwake : List Int := [6, 1, 6, 1, 5, 5, 9, 0, 7, 3, 7, 0, 4, 4, 7, 6, 4, 4, 8, 1]
theorem is_awake : Is 10 ddAwake 18446744073709551616 := ⟨by unfold ddAwake Digs; decide, by unfold ddAwake Top; decide, by unfold ddAwake; simp [val]⟩
theorem text_awake : textL ddAwake = [49, 56, 52, 52, 54, 55, 52, 52, 48, 55, 51, 55, 48, 57, 53, 53, 49, 54, 49, 54] := by decide +kernel

theorem row_came {w : World} {x : Addr} {len cap : Nat} {zs : List Int} (hl : len ≤ cap) (hm : cap ≤ maxLen) (hz : zs.length = cap) (hc : ∀ i, i < zs.length → w.cell? (x.add i) = some (.int .u32 (zs.getD i 0))) :
    Row .u32 w (some x) len cap (zs.take len) := by
  refine ⟨by rw [List.length_take, hz]; omega, hl, by unfold maxLen at hm; omega, (fun e => by cases e), fun i hi => ?_⟩
  obtain ⟨b, off, rfl, hc'⟩ := ints_at hc (by omega)
  refine ⟨b, off, rfl, ?_⟩
  rw [hc' i (by omega), List.getD_eq_getElem?_getD, List.getD_eq_getElem?_getD, List.getElem?_take_of_lt hi]
theorem digs_came {zs : List Int} {len : Nat} (h : ∀ n ∈ zs, (Lit.int .u32 n).wf = true) : Digs 4294967296 (zs.take len) := fun z hz => by
  have := bounds_u32 (h z (List.mem_of_mem_take hz))
  omega
end Go.Proofs.Ytnlgophgglgneaa
