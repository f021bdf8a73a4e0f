/-
  What package nat's Parse gives back: contract.
-/
import Derived.Test.YthelebgalihngaaNat12
namespace Go.Proofs.Ythelebgalihngaa
open Go.RowKit

theorem nParse_no (s : ByteArray) (w : World) (h : s.size ≤ 1000) (hg : ¬ GoodS s.data.toList) :
    Calls Try.prog 22 #[.string s] w fun e w' => e = .returned (.tuple #[.slice none 0 0, .int .i64 10]) ∧ w = w' := by
  have F := Lib.hid (formed_any s w h false ⟨fun e => (by cases e), fun e => absurd e hg⟩)
  clear hg
  go_enter Try.func22, Try.ntmps22
  go_wp2_with (go_at_call 43; refine F.out.mono ?_; rintro e w' ⟨rfl, rfl⟩)
  go_ret2
  exact ⟨rfl, rfl⟩

theorem piece_pow (k : Nat) : (10 : Int) ^ (9 * k) ≤ 4294967296 ^ k := by
  induction k with
  | zero => simp
  | succ k ih =>
    rw [Nat.mul_succ, Int.pow_add, Int.pow_succ (4294967296 : Int)]
    have h1 : (10 : Int) ^ 9 = 1000000000 := by decide +kernel
    rw [h1]
    have h2 := ipow_pos (B := 4294967296) (by omega) k
    omega
/-- the bytes of a part of a text -/
theorem extract_list (s : ByteArray) (i j : Nat) : (s.extract i j).data.toList = (s.data.toList.take j).drop i := by
  rw [ByteArray.data_extract]
  simp [List.drop_take]
theorem val_parts {L : List UInt8} {i j : Nat} (hij : i ≤ j) (hj : j ≤ L.length) : val 10 (numL (L.take j)) = val 10 (numL (L.take i)) * 10 ^ (j - i) + val 10 (numL ((L.take j).drop i)) := by
  have h : L.take j = L.take i ++ (L.take j).drop i := by
    have := (List.take_append_drop i (L.take j)).symm
    rwa [List.take_take, Nat.min_eq_left hij] at this
  have hl : ((L.take j).drop i).length = j - i := by rw [List.length_drop, List.length_take]; omega
  have e : numL (L.take j) = numL ((L.take j).drop i) ++ numL (L.take i) := by
    rw [← numL_append, ← h]
  rw [e, val_append, numL_len, hl, Int.mul_comm]
  omega
theorem shift_step {B P v c x y V d c' : Int} (h : y * x + c = d + B * c') : v + P * d + P * B * (c' + x * V) = v + P * (c + x * (y + B * V)) := by grind

theorem nParse_yes (s : ByteArray) (w : World) (h : s.size ≤ 1000) (hg : GoodS s.data.toList) :
    Calls Try.prog 22 #[.string s] w (GivesE w 0 fun r => Is 4294967296 r (val 10 (numL s.data.toList))) := by
  obtain ⟨i0, hi, hz0, hz1, hz2⟩ := info_parts Try.infoU32
  have F := Lib.hid (formed_any s w h true ⟨fun _ => hg, fun _ => rfl⟩)
  have len : s.data.toList.length = s.size := by simp
  obtain ⟨L, hL⟩ : ∃ L, s.data.toList = L := ⟨_, rfl⟩
  rw [hL] at len hg ⊢
  have HL := Lib.hid hL
  have HLen := Lib.hid len
  have HGo := Lib.hid hg.2.1
  clear hL hg len
  obtain ⟨N, hN⟩ : ∃ N, (s.size + 8) / 9 = N := ⟨_, rfl⟩
  have N1 : s.size ≤ 9 * N := by omega
  have N2 : 9 * N ≤ s.size + 8 := by omega
  have HN := Lib.hid hN
  clear hN
  have HBY := Lib.hid (show i0.bytes * N ≤ 281474976710656 by rw [hz2]; omega)
  go_enter Try.func22, Try.ntmps22
  go_wp2_with (first
    | (go_at_call 43; refine F.out.mono ?_; rintro e w' ⟨rfl, rfl⟩)
    | (at_make; refine wpList_make_full _ rfl _ _ 22 rfl w.heap.size 23 i0 (.int .u32 0) 1 Try.underlying22 hi hz0 hz1 _ _ _ _ N rfl rfl (by have := HN.out; omega) (by have := HN.out; omega) HBY.out (by unfold maxLen; omega) (Nat.le_refl _) ?_; intro w1 hown hgrow; have HO := Lib.hid hown; have HG := Lib.hid hgrow; clear hown hgrow))
  have M0 := Lib.hid (show Mine w1 w.heap.size (List.replicate N 0) by
    have := HO.out
    rw [made_zeros] at this
    exact mine_of_owns this)
  have B0 := Lib.hid ((Below.refl w.heap.size w).grown HG.out (Nat.le_refl _) (fun g hg => by cases hg))
  go_loopw [21] (fun v wr => ∃ (i : Nat) (ds : List Int), v = .int .i64 i ∧ i ≤ N ∧ ds.length = N ∧ Digs 4294967296 ds ∧ Mine wr w.heap.size ds ∧ val 4294967296 (ds.drop i) = 0 ∧ val 4294967296 ds = val 10 (numL (L.take (9 * i))) ∧ Below w.heap.size w wr) (fun v _ => N - (intOf v).toNat)
  case atStart =>
    refine ⟨0, _, rfl, by omega, List.length_replicate, digs_zeroB _, M0.out, ?_, ?_, B0.out⟩
    · rw [List.drop_replicate]; exact val_zeros _
    · rw [val_zeros]; simp [val, numL]
  case round =>
    obtain ⟨i, ds, rfl, hil, hdl, hdg, hmi, hzr, hval, hbel⟩ := hrel
    have HDl := Lib.hid hdl
    have HDg := Lib.hid hdg
    have HMi := Lib.hid hmi
    have HZr := Lib.hid hzr
    have HVal := Lib.hid hval
    have HW := Lib.hid hbel
    have hsz := hbel.size
    have hmlt := hmi.lt
    clear hdl hdg hmi hzr hval hbel
    obtain ⟨wc, rfl⟩ : ∃ wc, wc = wr := ⟨_, rfl⟩
    by_cases go : i < N
    · have b1 : decide ((i : Int) < (N : Int)) = true := by simp; omega
      by_cases hm : 9 * (i + 1) ≤ s.size
      · have hm' : ((i : Int) + 1) * 9 ≤ (s.size : Int) := by omega
        have hsl := run_slice_string (P := Try.prog) wc 9 s .i64 .i64 ((i : Int) * 9) (((i : Int) + 1) * 9) Try.underlying9 (by omega) (by omega) (by omega)
        have SX := Lib.hid (show (s.extract ((i : Int) * 9).toNat (((i : Int) + 1) * 9).toNat).data.toList = (L.take (9 * (i + 1))).drop (9 * i) by
          rw [extract_list, HL.out, show ((i : Int) * 9).toNat = 9 * i by omega, show (((i : Int) + 1) * 9).toNat = (9 * (i + 1)) by omega])
        obtain ⟨t, ht⟩ : ∃ t, s.extract ((i : Int) * 9).toNat (((i : Int) + 1) * 9).toNat = t := ⟨_, rfl⟩
        rw [ht] at hsl SX
        clear ht
        have SZ := Lib.hid (show t.size = (9 * (i + 1)) - 9 * i by
          have h1 : t.data.toList.length = t.size := by simp
          rw [← h1, SX.out, List.length_drop, List.length_take, HLen.out]; omega)
        have RD := Lib.hid (read_any t wc (by rw [SZ.out]; omega) (by rw [SX.out]; exact fun x hx => HGo.out x (List.mem_of_mem_take (List.mem_of_mem_drop hx))))
        rw [SX.out, SZ.out] at RD
        have VP := Lib.hid (val_parts (L := L) (i := 9 * i) (j := (9 * (i + 1))) (by omega) (by rw [HLen.out]; omega))
        obtain ⟨z, hz⟩ : ∃ z, (10 : Int) ^ ((9 * (i + 1)) - 9 * i) = z := ⟨_, rfl⟩
        obtain ⟨q, hq⟩ : ∃ q, val 10 (numL ((L.take (9 * (i + 1))).drop (9 * i))) = q := ⟨_, rfl⟩
        have zb : 1 ≤ z ∧ z ≤ 1000000000 := by
          have h1 := ipow_le (B := 10) (by omega) (show (9 * (i + 1)) - 9 * i ≤ 9 by omega)
          have h2 := ipow_pos (B := 10) (by omega) ((9 * (i + 1)) - 9 * i)
          rw [show (10 : Int) ^ 9 = 1000000000 by decide +kernel] at h1
          rw [hz] at h1 h2
          omega
        have qb : 0 ≤ q ∧ q < 1000000000 := by
          have hd : Digs 10 (numL ((L.take (9 * (i + 1))).drop (9 * i))) := numL_digs (fun c hc => HGo.out c (List.mem_of_mem_take (List.mem_of_mem_drop hc)))
          have h0 := val_nonneg (by omega) hd
          have h1 := val_lt (by omega) hd
          rw [numL_len] at h1
          have h2 := ipow_le (B := 10) (by omega) (show ((L.take (9 * (i + 1))).drop (9 * i)).length ≤ 9 by rw [List.length_drop, List.length_take]; omega)
          rw [show (10 : Int) ^ 9 = 1000000000 by decide +kernel] at h2
          rw [hq] at h0 h1
          omega
        rw [hz, hq] at RD VP
        rw [← HVal.out] at VP
        obtain ⟨z1, z2⟩ := zb
        obtain ⟨q1, q2⟩ := qb
        have TL := Lib.hid (show val 10 (numL (L.take (9 * (i + 1)))) < 4294967296 ^ (i + 1) by
          have hd : Digs 10 (numL (L.take (9 * (i + 1)))) := numL_digs (fun c hc => HGo.out c (List.mem_of_mem_take hc))
          have h1 := val_lt (by omega) hd
          rw [numL_len] at h1
          have h2 := ipow_le (B := 10) (by omega) (show (L.take (9 * (i + 1))).length ≤ 9 * (i + 1) by rw [List.length_take]; omega)
          have h3 := piece_pow (i + 1)
          omega)
        obtain ⟨T, hT⟩ : ∃ T, val 10 (numL (L.take (9 * (i + 1)))) = T := ⟨_, rfl⟩
        rw [hT] at TL VP
        have HT := Lib.hid hT
        clear hz hq hT
        go_wp2_with (first
          | (go_at_call 44; refine RD.out.mono ?_; rintro e w' ⟨rfl, rfl⟩)
          | (go_at_call 30; refine (carrier_any _ _).mono ?_; rintro e w2 ⟨rfl, hw2⟩; have HW2 := Lib.hid hw2; clear hw2))
        have M1 := Lib.hid (show Mine w2 w.heap.size ds by rw [← HW2.out]; exact HMi.out.alloc _)
        have C1 := Lib.hid (show w2.heap[wc.heap.size]? = some (.cells #[.int .u64 q] 38 (0, 0)) by rw [← HW2.out]; exact heap_alloc_new wc _)
        have B1 := Lib.hid (show Below w.heap.size w w2 by rw [← HW2.out]; exact HW.out.alloc hsz _)
        clear hsl
        go_loopw [42] (fun v wr => ∃ (j : Nat) (c : Int) (es : List Int), v = .int .i64 j ∧ j ≤ i + 1 ∧ 0 ≤ c ∧ c < 4294967296 ∧ es.length = N ∧ Digs 4294967296 es ∧ Mine wr w.heap.size es ∧ wr.heap[wc.heap.size]? = some (.cells #[.int .u64 c] 38 (0, 0)) ∧ es.drop j = ds.drop j ∧ val 4294967296 (es.take j) + 4294967296 ^ j * (c + z * val 4294967296 (ds.drop j)) = T ∧ Below w.heap.size w wr) (fun v _ => i + 1 - (intOf v).toNat)
        case atStart =>
          refine ⟨0, q, ds, rfl, by omega, by omega, by omega, HDl.out, HDg.out, M1.out, C1.out, rfl, ?_, B1.out⟩
          rw [VP.out, List.drop_zero, List.take_zero, Int.pow_zero, Int.one_mul, val, Int.mul_comm z]
          omega
        case round =>
          obtain ⟨j, c, es, rfl, hjl, c0, c1, hel, heg, hmi2, hcb, hdr2, hval2, hbel2⟩ := hrel
          have HEl := Lib.hid hel
          have HEg := Lib.hid heg
          have HM2 := Lib.hid hmi2
          have HCb := Lib.hid hcb
          have HD2 := Lib.hid hdr2
          have HV2 := Lib.hid hval2
          have HB2 := Lib.hid hbel2
          have hsz2 := hbel2.size
          clear hel heg hmi2 hcb hdr2 hval2 hbel2
          by_cases go2 : j < i + 1
          · have b2 : decide ((j : Int) < (i : Int) + 1) = true := by simp; omega
            have hjl2 : j < es.length := by rw [HEl.out]; omega
            have HJ := Lib.hid hjl2
            have gp := HM2.out.cell hjl2
            obtain ⟨p1, p2⟩ := HEg.out.getD (by omega) j
            obtain ⟨p, hp⟩ : ∃ p, es.getD j 0 = p := ⟨_, rfl⟩
            rw [hp] at gp p1 p2
            have HP := Lib.hid hp
            clear hp hjl2
            have HPd := Lib.hid (show ds.getD j 0 = p by
              have h1 := HD2.out
              rw [drop_at (zs := es) HJ.out, drop_at (zs := ds) (k := j) (by rw [HDl.out]; omega)] at h1
              rw [← HP.out]
              exact (List.cons.inj h1).1.symm)
            have t1 : 0 ≤ p * z := Int.mul_nonneg p1 (by omega)
            have t2 : p * z ≤ 4294967295000000000 := by
              have : p * z ≤ 4294967295 * 1000000000 := Int.mul_le_mul (by omega) (by omega) (by omega) (by omega)
              omega
            have j1 : (j : Int) < (N : Int) := by omega
            obtain ⟨u, hu⟩ : ∃ u, p * z = u := ⟨_, rfl⟩
            rw [hu] at t1 t2
            have HU := Lib.hid hu
            go_wp2_with (go_at_call 47; refine (carry_at u c wc.heap.size wr HCb.out (by omega) (by omega) (by omega)).mono ?_; rintro e w3 ⟨rfl, hc3, hg3⟩; have HC3 := Lib.hid hc3; have HG3 := Lib.hid hg3; have hm3 := HM2.out.grown hg3 (by simp; omega); have hcl := hm3.cell (i := j) HJ.out; have hfr := hm3.free j; have HM3 := Lib.hid hm3; clear hc3 hg3 hm3)
            clear hu
            go_roundw
            case rel =>
              refine ⟨j + 1, (u + c) / 4294967296, es.set j ((u + c) % 4294967296), by go_num, by omega, by omega, by omega, by rw [List.length_set]; exact HEl.out, digs_setB HEg.out ⟨by omega, by omega⟩, HM3.out.set j _, ?_, ?_, ?_, ?_⟩
              · rw [Below.heap_setCell _ _ _ _ (by simp; omega)]; exact HC3.out
              · rw [List.drop_set_of_lt (by omega)]
                have h1 := HD2.out
                rw [drop_at (zs := es) HJ.out, drop_at (zs := ds) (k := j) (by rw [HDl.out]; omega)] at h1
                exact (List.cons.inj h1).2
              · rw [take_set_succ HJ.out, val_append, List.length_take, Nat.min_eq_left (by have := HJ.out; omega), ← HV2.out, val_drop 4294967296 ds j, HPd.out, Int.pow_succ]
                have e1 : val 4294967296 [(u + c) % 4294967296] = (u + c) % 4294967296 := by simp [val]
                rw [e1]
                exact shift_step (by rw [HU.out]; omega)
              · exact (HB2.out.grown HG3.out hsz2 (fun g hg => by cases hg; exact hsz)).setCell (Nat.le_refl _) _
            case measure => simp [intOf]; omega
          · obtain rfl : j = i + 1 := by omega
            have b2 : decide (((i + 1 : Nat) : Int) < (i : Int) + 1) = false := by simp
            have Z := Lib.hid (zero_at HDg.out HZr.out)
            have VE := Lib.hid (show val 4294967296 es = T by
              have h1 := HV2.out
              rw [Z.out.2, Int.mul_zero, Int.add_zero] at h1
              have h2 := carry_none (ipow_pos (by omega) _) c0 (val_nonneg (by omega) (HEg.out.take _)) TL.out h1
              rw [h2, Int.mul_zero, Int.add_zero] at h1
              rw [val_split 4294967296 es (i := i + 1) (by rw [HEl.out]; omega), HD2.out, Z.out.2, Int.mul_zero, Int.add_zero]
              exact h1)
            go_wp2
            go_roundw
            case rel =>
              refine ⟨i + 1, es, by go_num, by omega, HEl.out, HEg.out, HM2.out, ?_, ?_, HB2.out⟩
              · rw [HD2.out]; exact Z.out.2
              · rw [VE.out, ← HT.out]
            case measure => simp [intOf]; omega
      · have hm' : ¬ ((i : Int) + 1) * 9 ≤ (s.size : Int) := by omega
        have hsl := run_slice_string (P := Try.prog) wc 9 s .i64 .i64 ((i : Int) * 9) ((s.size : Int)) Try.underlying9 (by omega) (by omega) (by omega)
        have SX := Lib.hid (show (s.extract ((i : Int) * 9).toNat ((s.size : Int)).toNat).data.toList = (L.take s.size).drop (9 * i) by
          rw [extract_list, HL.out, show ((i : Int) * 9).toNat = 9 * i by omega, show ((s.size : Int)).toNat = s.size by omega])
        obtain ⟨t, ht⟩ : ∃ t, s.extract ((i : Int) * 9).toNat ((s.size : Int)).toNat = t := ⟨_, rfl⟩
        rw [ht] at hsl SX
        clear ht
        have SZ := Lib.hid (show t.size = s.size - 9 * i by
          have h1 : t.data.toList.length = t.size := by simp
          rw [← h1, SX.out, List.length_drop, List.length_take, HLen.out]; omega)
        have RD := Lib.hid (read_any t wc (by rw [SZ.out]; omega) (by rw [SX.out]; exact fun x hx => HGo.out x (List.mem_of_mem_take (List.mem_of_mem_drop hx))))
        rw [SX.out, SZ.out] at RD
        have VP := Lib.hid (val_parts (L := L) (i := 9 * i) (j := s.size) (by omega) (by rw [HLen.out]; omega))
        obtain ⟨z, hz⟩ : ∃ z, (10 : Int) ^ (s.size - 9 * i) = z := ⟨_, rfl⟩
        obtain ⟨q, hq⟩ : ∃ q, val 10 (numL ((L.take s.size).drop (9 * i))) = q := ⟨_, rfl⟩
        have zb : 1 ≤ z ∧ z ≤ 1000000000 := by
          have h1 := ipow_le (B := 10) (by omega) (show s.size - 9 * i ≤ 9 by omega)
          have h2 := ipow_pos (B := 10) (by omega) (s.size - 9 * i)
          rw [show (10 : Int) ^ 9 = 1000000000 by decide +kernel] at h1
          rw [hz] at h1 h2
          omega
        have qb : 0 ≤ q ∧ q < 1000000000 := by
          have hd : Digs 10 (numL ((L.take s.size).drop (9 * i))) := numL_digs (fun c hc => HGo.out c (List.mem_of_mem_take (List.mem_of_mem_drop hc)))
          have h0 := val_nonneg (by omega) hd
          have h1 := val_lt (by omega) hd
          rw [numL_len] at h1
          have h2 := ipow_le (B := 10) (by omega) (show ((L.take s.size).drop (9 * i)).length ≤ 9 by rw [List.length_drop, List.length_take]; omega)
          rw [show (10 : Int) ^ 9 = 1000000000 by decide +kernel] at h2
          rw [hq] at h0 h1
          omega
        rw [hz, hq] at RD VP
        rw [← HVal.out] at VP
        obtain ⟨z1, z2⟩ := zb
        obtain ⟨q1, q2⟩ := qb
        have TL := Lib.hid (show val 10 (numL (L.take s.size)) < 4294967296 ^ (i + 1) by
          have hd : Digs 10 (numL (L.take s.size)) := numL_digs (fun c hc => HGo.out c (List.mem_of_mem_take hc))
          have h1 := val_lt (by omega) hd
          rw [numL_len] at h1
          have h2 := ipow_le (B := 10) (by omega) (show (L.take s.size).length ≤ 9 * (i + 1) by rw [List.length_take]; omega)
          have h3 := piece_pow (i + 1)
          omega)
        have TE := Lib.hid (show L.take s.size = L.take (9 * (i + 1)) by rw [List.take_of_length_le (by rw [HLen.out]; omega), List.take_of_length_le (by rw [HLen.out]; omega)])
        obtain ⟨T, hT⟩ : ∃ T, val 10 (numL (L.take s.size)) = T := ⟨_, rfl⟩
        rw [hT] at TL VP
        have HT := Lib.hid hT
        clear hz hq hT
        go_wp2_with (first
          | (go_at_call 44; refine RD.out.mono ?_; rintro e w' ⟨rfl, rfl⟩)
          | (go_at_call 30; refine (carrier_any _ _).mono ?_; rintro e w2 ⟨rfl, hw2⟩; have HW2 := Lib.hid hw2; clear hw2))
        have M1 := Lib.hid (show Mine w2 w.heap.size ds by rw [← HW2.out]; exact HMi.out.alloc _)
        have C1 := Lib.hid (show w2.heap[wc.heap.size]? = some (.cells #[.int .u64 q] 38 (0, 0)) by rw [← HW2.out]; exact heap_alloc_new wc _)
        have B1 := Lib.hid (show Below w.heap.size w w2 by rw [← HW2.out]; exact HW.out.alloc hsz _)
        clear hsl
        go_loopw [42] (fun v wr => ∃ (j : Nat) (c : Int) (es : List Int), v = .int .i64 j ∧ j ≤ i + 1 ∧ 0 ≤ c ∧ c < 4294967296 ∧ es.length = N ∧ Digs 4294967296 es ∧ Mine wr w.heap.size es ∧ wr.heap[wc.heap.size]? = some (.cells #[.int .u64 c] 38 (0, 0)) ∧ es.drop j = ds.drop j ∧ val 4294967296 (es.take j) + 4294967296 ^ j * (c + z * val 4294967296 (ds.drop j)) = T ∧ Below w.heap.size w wr) (fun v _ => i + 1 - (intOf v).toNat)
        case atStart =>
          refine ⟨0, q, ds, rfl, by omega, by omega, by omega, HDl.out, HDg.out, M1.out, C1.out, rfl, ?_, B1.out⟩
          rw [VP.out, List.drop_zero, List.take_zero, Int.pow_zero, Int.one_mul, val, Int.mul_comm z]
          omega
        case round =>
          obtain ⟨j, c, es, rfl, hjl, c0, c1, hel, heg, hmi2, hcb, hdr2, hval2, hbel2⟩ := hrel
          have HEl := Lib.hid hel
          have HEg := Lib.hid heg
          have HM2 := Lib.hid hmi2
          have HCb := Lib.hid hcb
          have HD2 := Lib.hid hdr2
          have HV2 := Lib.hid hval2
          have HB2 := Lib.hid hbel2
          have hsz2 := hbel2.size
          clear hel heg hmi2 hcb hdr2 hval2 hbel2
          by_cases go2 : j < i + 1
          · have b2 : decide ((j : Int) < (i : Int) + 1) = true := by simp; omega
            have hjl2 : j < es.length := by rw [HEl.out]; omega
            have HJ := Lib.hid hjl2
            have gp := HM2.out.cell hjl2
            obtain ⟨p1, p2⟩ := HEg.out.getD (by omega) j
            obtain ⟨p, hp⟩ : ∃ p, es.getD j 0 = p := ⟨_, rfl⟩
            rw [hp] at gp p1 p2
            have HP := Lib.hid hp
            clear hp hjl2
            have HPd := Lib.hid (show ds.getD j 0 = p by
              have h1 := HD2.out
              rw [drop_at (zs := es) HJ.out, drop_at (zs := ds) (k := j) (by rw [HDl.out]; omega)] at h1
              rw [← HP.out]
              exact (List.cons.inj h1).1.symm)
            have t1 : 0 ≤ p * z := Int.mul_nonneg p1 (by omega)
            have t2 : p * z ≤ 4294967295000000000 := by
              have : p * z ≤ 4294967295 * 1000000000 := Int.mul_le_mul (by omega) (by omega) (by omega) (by omega)
              omega
            have j1 : (j : Int) < (N : Int) := by omega
            obtain ⟨u, hu⟩ : ∃ u, p * z = u := ⟨_, rfl⟩
            rw [hu] at t1 t2
            have HU := Lib.hid hu
            go_wp2_with (go_at_call 47; refine (carry_at u c wc.heap.size wr HCb.out (by omega) (by omega) (by omega)).mono ?_; rintro e w3 ⟨rfl, hc3, hg3⟩; have HC3 := Lib.hid hc3; have HG3 := Lib.hid hg3; have hm3 := HM2.out.grown hg3 (by simp; omega); have hcl := hm3.cell (i := j) HJ.out; have hfr := hm3.free j; have HM3 := Lib.hid hm3; clear hc3 hg3 hm3)
            clear hu
            go_roundw
            case rel =>
              refine ⟨j + 1, (u + c) / 4294967296, es.set j ((u + c) % 4294967296), by go_num, by omega, by omega, by omega, by rw [List.length_set]; exact HEl.out, digs_setB HEg.out ⟨by omega, by omega⟩, HM3.out.set j _, ?_, ?_, ?_, ?_⟩
              · rw [Below.heap_setCell _ _ _ _ (by simp; omega)]; exact HC3.out
              · rw [List.drop_set_of_lt (by omega)]
                have h1 := HD2.out
                rw [drop_at (zs := es) HJ.out, drop_at (zs := ds) (k := j) (by rw [HDl.out]; omega)] at h1
                exact (List.cons.inj h1).2
              · rw [take_set_succ HJ.out, val_append, List.length_take, Nat.min_eq_left (by have := HJ.out; omega), ← HV2.out, val_drop 4294967296 ds j, HPd.out, Int.pow_succ]
                have e1 : val 4294967296 [(u + c) % 4294967296] = (u + c) % 4294967296 := by simp [val]
                rw [e1]
                exact shift_step (by rw [HU.out]; omega)
              · exact (HB2.out.grown HG3.out hsz2 (fun g hg => by cases hg; exact hsz)).setCell (Nat.le_refl _) _
            case measure => simp [intOf]; omega
          · obtain rfl : j = i + 1 := by omega
            have b2 : decide (((i + 1 : Nat) : Int) < (i : Int) + 1) = false := by simp
            have Z := Lib.hid (zero_at HDg.out HZr.out)
            have VE := Lib.hid (show val 4294967296 es = T by
              have h1 := HV2.out
              rw [Z.out.2, Int.mul_zero, Int.add_zero] at h1
              have h2 := carry_none (ipow_pos (by omega) _) c0 (val_nonneg (by omega) (HEg.out.take _)) TL.out h1
              rw [h2, Int.mul_zero, Int.add_zero] at h1
              rw [val_split 4294967296 es (i := i + 1) (by rw [HEl.out]; omega), HD2.out, Z.out.2, Int.mul_zero, Int.add_zero]
              exact h1)
            go_wp2
            go_roundw
            case rel =>
              refine ⟨i + 1, es, by go_num, by omega, HEl.out, HEg.out, HM2.out, ?_, ?_, HB2.out⟩
              · rw [HD2.out]; exact Z.out.2
              · rw [VE.out, ← HT.out, TE.out]
            case measure => simp [intOf]; omega
    · obtain rfl : i = N := by omega
      have b1 : decide ((i : Int) < (i : Int)) = false := by simp
      have hv : val 4294967296 ds = val 10 (numL L) := by
        have h1 := HVal.out
        rw [List.take_of_length_le (by rw [HLen.out]; omega)] at h1
        exact h1
      have HV := Lib.hid hv
      clear hv
      have HR := Lib.hid (HMi.out.row (cap := i) (by rw [HDl.out]; omega) (by omega))
      rw [HDl.out] at HR
      go_wp2_with (go_at_call 32; refine (ncut_any _ _ _ ds _ HR.out HDg.out).mono ?_; rintro e w' ⟨m1, l1, rfl, hr1, hi1, rfl⟩; rw [HV.out] at hi1; have HR1 := Lib.hid hr1; have HI1 := Lib.hid hi1; clear hr1 hi1)
      go_ret2
      exact ⟨_, _, _, _, rfl, HR1.out, HI1.out, HW.out, (fun ad h => by cases h; exact Nat.le_refl _)⟩
end Go.Proofs.Ythelebgalihngaa
