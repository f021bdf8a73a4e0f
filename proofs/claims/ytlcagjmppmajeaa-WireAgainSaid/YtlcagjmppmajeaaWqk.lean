/-
  The walk of the law WireAgain.
-/
import Derived.Test.YtlcagjmppmajeaaWqj
namespace Go.Proofs.Ytlcagjmppmajeaa
open Go.RowKit

theorem ext_pre (M : List UInt8) (k : Nat) : (BS M).extract 0 k = BS (M.take k) := by
  have := ext_take (BS M) 0 k
  rw [Nat.zero_add, BS_data, List.drop_zero] at this
  exact this
theorem readO_end {x : List UInt8} {L : List Cm} {at_ : Nat} {er : Int} (h : ReadO x L at_ er) : at_ ≤ x.length ∧ (((at_ : Int) == (x.length : Int)) = (er == 0)) := by
  have hl := h.1.is.le
  refine ⟨hl, ?_⟩
  rcases h.2 with ⟨h1, h2⟩ | ⟨h1, _, h2⟩ | ⟨h1, _, _, h2⟩
  · rw [h2]; simp; omega
  · rw [h2]; simp; omega
  · rw [h2]; simp; omega
set_option maxRecDepth 20000 in
set_option maxHeartbeats 8000000 in
theorem wagain_walk (s : ByteArray) (w : World) :
    Calls Try.prog 4 #[.string s] w fun e w' => e = .returned (.bool true) ∧ Below w.heap.size w w' := by
  by_cases q : s.size ≤ 80
  · obtain ⟨x, hx, xl⟩ : ∃ x : List UInt8, s = BS x ∧ x.length ≤ 80 := ⟨s.data.toList, by apply ByteArray.ext; simp [BS], by simpa using q⟩
    subst hx
    have b0 : decide ((80 : Int) < ((BS x).size : Int)) = false := by simp; omega
    have b0' : decide (80 < (BS x).size) = false := by simp; omega
    clear q
    go_enter Try.func4, Try.ntmps4
    go_wp2_with fail
    refine (awake18_any w).mono ?_
    rintro e w1 ⟨rfl, hb⟩
    have B1 := Lib.hid hb
    clear hb
    go_wp2_with fail
    refine (wread_any x w1 (by omega)).mono ?_
    rintro e w2 ⟨L, a, cap, at_, er, rfl, hro, hrc, hb⟩
    have B2 := Lib.hid (below_next B1.out hb)
    have TI := Lib.hid hro.1.is
    obtain ⟨al, ae⟩ := readO_end hro
    have RC := Lib.hid hrc
    have LF : L.length ≤ 4096 := by have := hro.1.is.few; rwa [List.length_map] at this
    have MC := Lib.hid (show ∀ y ∈ L, MayC y.1 from fun y hy => hro.1.is.may y.1 (List.mem_map_of_mem hy))
    have EE := Lib.hid hro.1.is.enc
    clear hb hro hrc b0 b0'
    have b1 : decide ((at_ : Int) < 0) = false := by simp
    have b2 : decide (((BS x).size : Int) < (at_ : Int)) = false := by rw [BS_size]; simp; omega
    have b2' : decide ((BS x).size < at_) = false := by rw [BS_size]; simp; omega
    have ae2 : ((at_ : Int) == ((BS x).size : Int)) = (er == 0) := by rw [BS_size]; exact ae
    obtain ⟨len, hlen⟩ : ∃ len, L.length = len := ⟨_, rfl⟩
    have LL := Lib.hid hlen
    rw [hlen] at RC LF ⊢
    cases hz : (er == 0) with
    | false =>
      rw [hz] at ae2
      clear hlen ae
      go_wp2
      go_loopw [7, 8] (fun sm u wr => ∃ i : Nat, u = .int .i64 i ∧ i ≤ len ∧ sm = .int .i64 ((encs ((L.take i).map Prod.fst)).length : Nat) ∧ Below w.heap.size w wr ∧ RowC wr a len cap L) (fun _ u _ => len - (intOf u).toNat)
      case atStart => exact ⟨0, rfl, by omega, by simp [encs], B2.out, RC.out⟩
      case round =>
        obtain ⟨i, rfl, i1, rfl, hb, hr⟩ := hrel
        have B := Lib.hid hb
        have R := Lib.hid hr
        clear hb hr
        by_cases go : i < len
        · have c1 : decide ((i : Int) < (len : Int)) = true := by simp; omega
          have c1' : decide (i < len) = true := by simp; omega
          obtain ⟨y, hy, hts⟩ := get_of (l := L) (i := i) (by rw [LL.out]; exact go)
          have TS : (encs ((L.take (i + 1)).map Prod.fst)).length = (encs ((L.take i).map Prod.fst)).length + (encC y.1).length := by rw [hts, List.map_append, show [y].map Prod.fst = [y.1] from rfl, encs_snoc, List.length_append]
          have MX := Lib.hid (MC.out y (List.mem_of_getElem? hy))
          have EL : (encs ((L.take i).map Prod.fst)).length ≤ 409600 := by
            have h1 := encs_len ((L.take i).map Prod.fst) (fun c hc => by
              obtain ⟨z, hz, rfl⟩ := List.mem_map.mp hc
              exact MC.out z (List.mem_of_mem_take hz))
            rw [List.length_map, List.length_take] at h1
            omega
          have EC := encC_len MX.out
          obtain ⟨b, off, rfl, hpt, hc⟩ := R.out.at hy
          obtain ⟨⟨k, id, sv, m, co, e, p, early, parts⟩, v⟩ := y
          have hpt2 : PartsAt wr v parts := hpt
          obtain ⟨pa, pc, hv, -⟩ := hpt2
          subst hv
          have PP := Lib.hid hpt
          obtain ⟨A, hA⟩ : ∃ A, (encs ((L.take i).map Prod.fst)).length = A := ⟨_, rfl⟩
          obtain ⟨D, hD⟩ : ∃ D, (encC ⟨k, id, sv, m, co, e, p, early, parts⟩).length = D := ⟨_, rfl⟩
          rw [hA] at EL TS ⊢
          simp only at TS EC
          rw [hD] at TS EC
          have wv : IntKind.i64.wrap ((A : Int) + (D : Int)) = ((A + D : Nat) : Int) := by rw [IntWalk.i64_in _ (by omega)]; omega
          have HD := Lib.hid hD
          have TT := Lib.hid TS
          have i3 : (i : Int) < (len : Int) := by omega
          have i0 : 0 ≤ (i : Int) := by omega
          have x0 := hc 0 _ rfl; have x1 := hc 1 _ rfl; have x2 := hc 2 _ rfl; have x3 := hc 3 _ rfl; have x4 := hc 4 _ rfl; have x5 := hc 5 _ rfl; have x6 := hc 6 _ rfl; have x7 := hc 7 _ rfl; have x8 := hc 8 _ rfl
          simp only [Nat.add_zero] at x0
          have HC := Lib.hid hc
          clear hy hts hc hpt hA hD TS
          go_wp2_with fail
          refine (wcheck_yes ⟨k, id, sv, m, co, e, p, early, parts⟩ (.slice pa parts.length pc) wr MX.out PP.out).mono ?_
          rintro e3 w3 ⟨rfl, hb⟩
          have B3 := Lib.hid (below_next B.out hb)
          have R3 := Lib.hid (R.out.below hb)
          have P3 := Lib.hid (PP.out.below hb)
          have x0 := cell_on hb x0; have x1 := cell_on hb x1; have x2 := cell_on hb x2; have x3 := cell_on hb x3; have x4 := cell_on hb x4; have x5 := cell_on hb x5; have x6 := cell_on hb x6; have x7 := cell_on hb x7; have x8 := cell_on hb x8
          clear hb
          go_wp2_with fail
          refine (wsize_any ⟨k, id, sv, m, co, e, p, early, parts⟩ (.slice pa parts.length pc) w3 MX.out P3.out).mono ?_
          rintro e4 w4 ⟨rfl, hb⟩
          rw [HD.out]
          have B4 := Lib.hid (below_next B3.out hb)
          have R4 := Lib.hid (R3.out.below hb)
          clear hb x0 x1 x2 x3 x4 x5 x6 x7 x8
          go_wp2
          go_roundw
          case rel => exact ⟨i + 1, by go_num, by omega, by rw [TT.out, Int.natCast_add], B4.out, R4.out⟩
          case measure => simp [intOf]; omega
        · have c1 : decide ((i : Int) < (len : Int)) = false := by simp; omega
          have c1' : decide (i < len) = false := by simp; omega
          have ET : (encs ((L.take i).map Prod.fst)).length = at_ := by
            rw [List.take_of_length_le (show L.length ≤ i by rw [LL.out]; omega), EE.out, List.length_take]
            omega
          rw [ET]
          have ex := ext_pre x at_
          have s1 : 0 ≤ (at_ : Int) := by omega
          have s2 : (at_ : Int) ≤ ((BS x).size : Int) := by rw [BS_size]; omega
          have s2' : at_ ≤ (BS x).size := by rw [BS_size]; omega
          have RD := Lib.hid (show RowC wr.drew a len cap L from R.out.below ((Below.refl _ _).drew))
          clear ET
          go_upto_region 14 with fail
          go_region_held3 (fun _ => True) (trivial)
            (first | (go_at_call 9; ((with_reducible refine (wbytes_any a len cap L wr.drew RD.out MC.out (by omega)).mono ?_)); rintro e5 w5 ⟨rfl, hb5⟩; rw [EE.out]))
          all_goals
            have B5 := Lib.hid (below_next B.out (below_next (show Below wr.heap.size wr wr.drew from (Below.refl _ _).drew) hb5))
            clear hb5
            go_wp2
            go_ret
            exact ⟨rfl, B5.out⟩
    | true =>
      rw [hz] at ae2
      clear hlen ae
      go_wp2
      go_loopw [7, 8] (fun sm u wr => ∃ i : Nat, u = .int .i64 i ∧ i ≤ len ∧ sm = .int .i64 ((encs ((L.take i).map Prod.fst)).length : Nat) ∧ Below w.heap.size w wr ∧ RowC wr a len cap L) (fun _ u _ => len - (intOf u).toNat)
      case atStart => exact ⟨0, rfl, by omega, by simp [encs], B2.out, RC.out⟩
      case round =>
        obtain ⟨i, rfl, i1, rfl, hb, hr⟩ := hrel
        have B := Lib.hid hb
        have R := Lib.hid hr
        clear hb hr
        by_cases go : i < len
        · have c1 : decide ((i : Int) < (len : Int)) = true := by simp; omega
          have c1' : decide (i < len) = true := by simp; omega
          obtain ⟨y, hy, hts⟩ := get_of (l := L) (i := i) (by rw [LL.out]; exact go)
          have TS : (encs ((L.take (i + 1)).map Prod.fst)).length = (encs ((L.take i).map Prod.fst)).length + (encC y.1).length := by rw [hts, List.map_append, show [y].map Prod.fst = [y.1] from rfl, encs_snoc, List.length_append]
          have MX := Lib.hid (MC.out y (List.mem_of_getElem? hy))
          have EL : (encs ((L.take i).map Prod.fst)).length ≤ 409600 := by
            have h1 := encs_len ((L.take i).map Prod.fst) (fun c hc => by
              obtain ⟨z, hz, rfl⟩ := List.mem_map.mp hc
              exact MC.out z (List.mem_of_mem_take hz))
            rw [List.length_map, List.length_take] at h1
            omega
          have EC := encC_len MX.out
          obtain ⟨b, off, rfl, hpt, hc⟩ := R.out.at hy
          obtain ⟨⟨k, id, sv, m, co, e, p, early, parts⟩, v⟩ := y
          have hpt2 : PartsAt wr v parts := hpt
          obtain ⟨pa, pc, hv, -⟩ := hpt2
          subst hv
          have PP := Lib.hid hpt
          obtain ⟨A, hA⟩ : ∃ A, (encs ((L.take i).map Prod.fst)).length = A := ⟨_, rfl⟩
          obtain ⟨D, hD⟩ : ∃ D, (encC ⟨k, id, sv, m, co, e, p, early, parts⟩).length = D := ⟨_, rfl⟩
          rw [hA] at EL TS ⊢
          simp only at TS EC
          rw [hD] at TS EC
          have wv : IntKind.i64.wrap ((A : Int) + (D : Int)) = ((A + D : Nat) : Int) := by rw [IntWalk.i64_in _ (by omega)]; omega
          have HD := Lib.hid hD
          have TT := Lib.hid TS
          have i3 : (i : Int) < (len : Int) := by omega
          have i0 : 0 ≤ (i : Int) := by omega
          have x0 := hc 0 _ rfl; have x1 := hc 1 _ rfl; have x2 := hc 2 _ rfl; have x3 := hc 3 _ rfl; have x4 := hc 4 _ rfl; have x5 := hc 5 _ rfl; have x6 := hc 6 _ rfl; have x7 := hc 7 _ rfl; have x8 := hc 8 _ rfl
          simp only [Nat.add_zero] at x0
          have HC := Lib.hid hc
          clear hy hts hc hpt hA hD TS
          go_wp2_with fail
          refine (wcheck_yes ⟨k, id, sv, m, co, e, p, early, parts⟩ (.slice pa parts.length pc) wr MX.out PP.out).mono ?_
          rintro e3 w3 ⟨rfl, hb⟩
          have B3 := Lib.hid (below_next B.out hb)
          have R3 := Lib.hid (R.out.below hb)
          have P3 := Lib.hid (PP.out.below hb)
          have x0 := cell_on hb x0; have x1 := cell_on hb x1; have x2 := cell_on hb x2; have x3 := cell_on hb x3; have x4 := cell_on hb x4; have x5 := cell_on hb x5; have x6 := cell_on hb x6; have x7 := cell_on hb x7; have x8 := cell_on hb x8
          clear hb
          go_wp2_with fail
          refine (wsize_any ⟨k, id, sv, m, co, e, p, early, parts⟩ (.slice pa parts.length pc) w3 MX.out P3.out).mono ?_
          rintro e4 w4 ⟨rfl, hb⟩
          rw [HD.out]
          have B4 := Lib.hid (below_next B3.out hb)
          have R4 := Lib.hid (R3.out.below hb)
          clear hb x0 x1 x2 x3 x4 x5 x6 x7 x8
          go_wp2
          go_roundw
          case rel => exact ⟨i + 1, by go_num, by omega, by rw [TT.out, Int.natCast_add], B4.out, R4.out⟩
          case measure => simp [intOf]; omega
        · have c1 : decide ((i : Int) < (len : Int)) = false := by simp; omega
          have c1' : decide (i < len) = false := by simp; omega
          have ET : (encs ((L.take i).map Prod.fst)).length = at_ := by
            rw [List.take_of_length_le (show L.length ≤ i by rw [LL.out]; omega), EE.out, List.length_take]
            omega
          rw [ET]
          have ex := ext_pre x at_
          have s1 : 0 ≤ (at_ : Int) := by omega
          have s2 : (at_ : Int) ≤ ((BS x).size : Int) := by rw [BS_size]; omega
          have s2' : at_ ≤ (BS x).size := by rw [BS_size]; omega
          have RD := Lib.hid (show RowC wr.drew a len cap L from R.out.below ((Below.refl _ _).drew))
          clear ET
          go_upto_region 14 with fail
          go_region_held3 (fun _ => True) (trivial)
            (first | (go_at_call 9; ((with_reducible refine (wbytes_any a len cap L wr.drew RD.out MC.out (by omega)).mono ?_)); rintro e5 w5 ⟨rfl, hb5⟩; rw [EE.out]))
          all_goals
            have B5 := Lib.hid (below_next B.out (below_next (show Below wr.heap.size wr wr.drew from (Below.refl _ _).drew) hb5))
            clear hb5
            go_wp2
            go_ret
            exact ⟨rfl, B5.out⟩
  · have EX : s.extract 0 80 = BS (s.data.toList.take 80) := by have := ext_take s 0 80; rw [Nat.zero_add, List.drop_zero] at this; exact this
    obtain ⟨x, hx, xl⟩ : ∃ x : List UInt8, s.extract 0 80 = BS x ∧ x.length ≤ 80 := ⟨_, EX, by rw [List.length_take]; omega⟩
    have b0 : decide ((80 : Int) < (s.size : Int)) = true := by simp; omega
    have b0' : decide (80 < s.size) = true := by simp; omega
    have s0 : (80 : Int) ≤ (s.size : Int) := by omega
    have s0' : 80 ≤ s.size := by omega
    clear q EX
    go_enter Try.func4, Try.ntmps4
    go_wp2_with fail
    refine (awake18_any w).mono ?_
    rintro e w1 ⟨rfl, hb⟩
    have B1 := Lib.hid hb
    clear hb
    go_wp2_with fail
    refine (wread_any x w1 (by omega)).mono ?_
    rintro e w2 ⟨L, a, cap, at_, er, rfl, hro, hrc, hb⟩
    have B2 := Lib.hid (below_next B1.out hb)
    have TI := Lib.hid hro.1.is
    obtain ⟨al, ae⟩ := readO_end hro
    have RC := Lib.hid hrc
    have LF : L.length ≤ 4096 := by have := hro.1.is.few; rwa [List.length_map] at this
    have MC := Lib.hid (show ∀ y ∈ L, MayC y.1 from fun y hy => hro.1.is.may y.1 (List.mem_map_of_mem hy))
    have EE := Lib.hid hro.1.is.enc
    clear hb hro hrc b0 b0'
    have b1 : decide ((at_ : Int) < 0) = false := by simp
    have b2 : decide (((BS x).size : Int) < (at_ : Int)) = false := by rw [BS_size]; simp; omega
    have b2' : decide ((BS x).size < at_) = false := by rw [BS_size]; simp; omega
    have ae2 : ((at_ : Int) == ((BS x).size : Int)) = (er == 0) := by rw [BS_size]; exact ae
    obtain ⟨len, hlen⟩ : ∃ len, L.length = len := ⟨_, rfl⟩
    have LL := Lib.hid hlen
    rw [hlen] at RC LF ⊢
    cases hz : (er == 0) with
    | false =>
      rw [hz] at ae2
      clear hlen ae
      go_wp2
      go_loopw [7, 8] (fun sm u wr => ∃ i : Nat, u = .int .i64 i ∧ i ≤ len ∧ sm = .int .i64 ((encs ((L.take i).map Prod.fst)).length : Nat) ∧ Below w.heap.size w wr ∧ RowC wr a len cap L) (fun _ u _ => len - (intOf u).toNat)
      case atStart => exact ⟨0, rfl, by omega, by simp [encs], B2.out, RC.out⟩
      case round =>
        obtain ⟨i, rfl, i1, rfl, hb, hr⟩ := hrel
        have B := Lib.hid hb
        have R := Lib.hid hr
        clear hb hr
        by_cases go : i < len
        · have c1 : decide ((i : Int) < (len : Int)) = true := by simp; omega
          have c1' : decide (i < len) = true := by simp; omega
          obtain ⟨y, hy, hts⟩ := get_of (l := L) (i := i) (by rw [LL.out]; exact go)
          have TS : (encs ((L.take (i + 1)).map Prod.fst)).length = (encs ((L.take i).map Prod.fst)).length + (encC y.1).length := by rw [hts, List.map_append, show [y].map Prod.fst = [y.1] from rfl, encs_snoc, List.length_append]
          have MX := Lib.hid (MC.out y (List.mem_of_getElem? hy))
          have EL : (encs ((L.take i).map Prod.fst)).length ≤ 409600 := by
            have h1 := encs_len ((L.take i).map Prod.fst) (fun c hc => by
              obtain ⟨z, hz, rfl⟩ := List.mem_map.mp hc
              exact MC.out z (List.mem_of_mem_take hz))
            rw [List.length_map, List.length_take] at h1
            omega
          have EC := encC_len MX.out
          obtain ⟨b, off, rfl, hpt, hc⟩ := R.out.at hy
          obtain ⟨⟨k, id, sv, m, co, e, p, early, parts⟩, v⟩ := y
          have hpt2 : PartsAt wr v parts := hpt
          obtain ⟨pa, pc, hv, -⟩ := hpt2
          subst hv
          have PP := Lib.hid hpt
          obtain ⟨A, hA⟩ : ∃ A, (encs ((L.take i).map Prod.fst)).length = A := ⟨_, rfl⟩
          obtain ⟨D, hD⟩ : ∃ D, (encC ⟨k, id, sv, m, co, e, p, early, parts⟩).length = D := ⟨_, rfl⟩
          rw [hA] at EL TS ⊢
          simp only at TS EC
          rw [hD] at TS EC
          have wv : IntKind.i64.wrap ((A : Int) + (D : Int)) = ((A + D : Nat) : Int) := by rw [IntWalk.i64_in _ (by omega)]; omega
          have HD := Lib.hid hD
          have TT := Lib.hid TS
          have i3 : (i : Int) < (len : Int) := by omega
          have i0 : 0 ≤ (i : Int) := by omega
          have x0 := hc 0 _ rfl; have x1 := hc 1 _ rfl; have x2 := hc 2 _ rfl; have x3 := hc 3 _ rfl; have x4 := hc 4 _ rfl; have x5 := hc 5 _ rfl; have x6 := hc 6 _ rfl; have x7 := hc 7 _ rfl; have x8 := hc 8 _ rfl
          simp only [Nat.add_zero] at x0
          have HC := Lib.hid hc
          clear hy hts hc hpt hA hD TS
          go_wp2_with fail
          refine (wcheck_yes ⟨k, id, sv, m, co, e, p, early, parts⟩ (.slice pa parts.length pc) wr MX.out PP.out).mono ?_
          rintro e3 w3 ⟨rfl, hb⟩
          have B3 := Lib.hid (below_next B.out hb)
          have R3 := Lib.hid (R.out.below hb)
          have P3 := Lib.hid (PP.out.below hb)
          have x0 := cell_on hb x0; have x1 := cell_on hb x1; have x2 := cell_on hb x2; have x3 := cell_on hb x3; have x4 := cell_on hb x4; have x5 := cell_on hb x5; have x6 := cell_on hb x6; have x7 := cell_on hb x7; have x8 := cell_on hb x8
          clear hb
          go_wp2_with fail
          refine (wsize_any ⟨k, id, sv, m, co, e, p, early, parts⟩ (.slice pa parts.length pc) w3 MX.out P3.out).mono ?_
          rintro e4 w4 ⟨rfl, hb⟩
          rw [HD.out]
          have B4 := Lib.hid (below_next B3.out hb)
          have R4 := Lib.hid (R3.out.below hb)
          clear hb x0 x1 x2 x3 x4 x5 x6 x7 x8
          go_wp2
          go_roundw
          case rel => exact ⟨i + 1, by go_num, by omega, by rw [TT.out, Int.natCast_add], B4.out, R4.out⟩
          case measure => simp [intOf]; omega
        · have c1 : decide ((i : Int) < (len : Int)) = false := by simp; omega
          have c1' : decide (i < len) = false := by simp; omega
          have ET : (encs ((L.take i).map Prod.fst)).length = at_ := by
            rw [List.take_of_length_le (show L.length ≤ i by rw [LL.out]; omega), EE.out, List.length_take]
            omega
          rw [ET]
          have ex := ext_pre x at_
          have s1 : 0 ≤ (at_ : Int) := by omega
          have s2 : (at_ : Int) ≤ ((BS x).size : Int) := by rw [BS_size]; omega
          have s2' : at_ ≤ (BS x).size := by rw [BS_size]; omega
          have RD := Lib.hid (show RowC wr.drew a len cap L from R.out.below ((Below.refl _ _).drew))
          clear ET
          go_upto_region 14 with fail
          go_region_held3 (fun _ => True) (trivial)
            (first | (go_at_call 9; ((with_reducible refine (wbytes_any a len cap L wr.drew RD.out MC.out (by omega)).mono ?_)); rintro e5 w5 ⟨rfl, hb5⟩; rw [EE.out]))
          all_goals
            have B5 := Lib.hid (below_next B.out (below_next (show Below wr.heap.size wr wr.drew from (Below.refl _ _).drew) hb5))
            clear hb5
            go_wp2
            go_ret
            exact ⟨rfl, B5.out⟩
    | true =>
      rw [hz] at ae2
      clear hlen ae
      go_wp2
      go_loopw [7, 8] (fun sm u wr => ∃ i : Nat, u = .int .i64 i ∧ i ≤ len ∧ sm = .int .i64 ((encs ((L.take i).map Prod.fst)).length : Nat) ∧ Below w.heap.size w wr ∧ RowC wr a len cap L) (fun _ u _ => len - (intOf u).toNat)
      case atStart => exact ⟨0, rfl, by omega, by simp [encs], B2.out, RC.out⟩
      case round =>
        obtain ⟨i, rfl, i1, rfl, hb, hr⟩ := hrel
        have B := Lib.hid hb
        have R := Lib.hid hr
        clear hb hr
        by_cases go : i < len
        · have c1 : decide ((i : Int) < (len : Int)) = true := by simp; omega
          have c1' : decide (i < len) = true := by simp; omega
          obtain ⟨y, hy, hts⟩ := get_of (l := L) (i := i) (by rw [LL.out]; exact go)
          have TS : (encs ((L.take (i + 1)).map Prod.fst)).length = (encs ((L.take i).map Prod.fst)).length + (encC y.1).length := by rw [hts, List.map_append, show [y].map Prod.fst = [y.1] from rfl, encs_snoc, List.length_append]
          have MX := Lib.hid (MC.out y (List.mem_of_getElem? hy))
          have EL : (encs ((L.take i).map Prod.fst)).length ≤ 409600 := by
            have h1 := encs_len ((L.take i).map Prod.fst) (fun c hc => by
              obtain ⟨z, hz, rfl⟩ := List.mem_map.mp hc
              exact MC.out z (List.mem_of_mem_take hz))
            rw [List.length_map, List.length_take] at h1
            omega
          have EC := encC_len MX.out
          obtain ⟨b, off, rfl, hpt, hc⟩ := R.out.at hy
          obtain ⟨⟨k, id, sv, m, co, e, p, early, parts⟩, v⟩ := y
          have hpt2 : PartsAt wr v parts := hpt
          obtain ⟨pa, pc, hv, -⟩ := hpt2
          subst hv
          have PP := Lib.hid hpt
          obtain ⟨A, hA⟩ : ∃ A, (encs ((L.take i).map Prod.fst)).length = A := ⟨_, rfl⟩
          obtain ⟨D, hD⟩ : ∃ D, (encC ⟨k, id, sv, m, co, e, p, early, parts⟩).length = D := ⟨_, rfl⟩
          rw [hA] at EL TS ⊢
          simp only at TS EC
          rw [hD] at TS EC
          have wv : IntKind.i64.wrap ((A : Int) + (D : Int)) = ((A + D : Nat) : Int) := by rw [IntWalk.i64_in _ (by omega)]; omega
          have HD := Lib.hid hD
          have TT := Lib.hid TS
          have i3 : (i : Int) < (len : Int) := by omega
          have i0 : 0 ≤ (i : Int) := by omega
          have x0 := hc 0 _ rfl; have x1 := hc 1 _ rfl; have x2 := hc 2 _ rfl; have x3 := hc 3 _ rfl; have x4 := hc 4 _ rfl; have x5 := hc 5 _ rfl; have x6 := hc 6 _ rfl; have x7 := hc 7 _ rfl; have x8 := hc 8 _ rfl
          simp only [Nat.add_zero] at x0
          have HC := Lib.hid hc
          clear hy hts hc hpt hA hD TS
          go_wp2_with fail
          refine (wcheck_yes ⟨k, id, sv, m, co, e, p, early, parts⟩ (.slice pa parts.length pc) wr MX.out PP.out).mono ?_
          rintro e3 w3 ⟨rfl, hb⟩
          have B3 := Lib.hid (below_next B.out hb)
          have R3 := Lib.hid (R.out.below hb)
          have P3 := Lib.hid (PP.out.below hb)
          have x0 := cell_on hb x0; have x1 := cell_on hb x1; have x2 := cell_on hb x2; have x3 := cell_on hb x3; have x4 := cell_on hb x4; have x5 := cell_on hb x5; have x6 := cell_on hb x6; have x7 := cell_on hb x7; have x8 := cell_on hb x8
          clear hb
          go_wp2_with fail
          refine (wsize_any ⟨k, id, sv, m, co, e, p, early, parts⟩ (.slice pa parts.length pc) w3 MX.out P3.out).mono ?_
          rintro e4 w4 ⟨rfl, hb⟩
          rw [HD.out]
          have B4 := Lib.hid (below_next B3.out hb)
          have R4 := Lib.hid (R3.out.below hb)
          clear hb x0 x1 x2 x3 x4 x5 x6 x7 x8
          go_wp2
          go_roundw
          case rel => exact ⟨i + 1, by go_num, by omega, by rw [TT.out, Int.natCast_add], B4.out, R4.out⟩
          case measure => simp [intOf]; omega
        · have c1 : decide ((i : Int) < (len : Int)) = false := by simp; omega
          have c1' : decide (i < len) = false := by simp; omega
          have ET : (encs ((L.take i).map Prod.fst)).length = at_ := by
            rw [List.take_of_length_le (show L.length ≤ i by rw [LL.out]; omega), EE.out, List.length_take]
            omega
          rw [ET]
          have ex := ext_pre x at_
          have s1 : 0 ≤ (at_ : Int) := by omega
          have s2 : (at_ : Int) ≤ ((BS x).size : Int) := by rw [BS_size]; omega
          have s2' : at_ ≤ (BS x).size := by rw [BS_size]; omega
          have RD := Lib.hid (show RowC wr.drew a len cap L from R.out.below ((Below.refl _ _).drew))
          clear ET
          go_upto_region 14 with fail
          go_region_held3 (fun _ => True) (trivial)
            (first | (go_at_call 9; ((with_reducible refine (wbytes_any a len cap L wr.drew RD.out MC.out (by omega)).mono ?_)); rintro e5 w5 ⟨rfl, hb5⟩; rw [EE.out]))
          all_goals
            have B5 := Lib.hid (below_next B.out (below_next (show Below wr.heap.size wr wr.drew from (Below.refl _ _).drew) hb5))
            clear hb5
            go_wp2
            go_ret
            exact ⟨rfl, B5.out⟩
end Go.Proofs.Ytlcagjmppmajeaa
