/-
  The walk of the law SlotReads.
-/
import Derived.Test.YtndhpihgeacdfaaSx6
import Derived.Deep.CutBlock
import Derived.BigRegion
namespace Go.Proofs.Ytndhpihgeacdfaa
open Go.RowKit

theorem tmod2 (x r : Int) (h : 0 < r) : 0 ≤ (x.tmod r + r).tmod r ∧ (x.tmod r + r).tmod r < r ∧ -r < x.tmod r ∧ x.tmod r < r := by
  have c1 := Int.lt_tmod_of_pos x h
  have c2 := Int.tmod_lt_of_pos x h
  exact ⟨Int.tmod_nonneg r (by omega), Int.tmod_lt_of_pos _ h, by omega, c2⟩
/-- bytes in memory -/
structure ByAt (W : World) (g : Nat) (L : List UInt8) : Prop where
  c : ∀ j (hj : j < L.length), W.cell? ⟨g, j, none⟩ = some (.int .u8 (L[j].toNat : Int))
  f : ∀ j, j < L.length → W.frozen? ⟨g, j, none⟩ = false
theorem ByAt.drew {W : World} {g : Nat} {L : List UInt8} (h : ByAt W g L) : ByAt W.drew g L := ⟨h.c, h.f⟩
theorem ByAt.set {W : World} {g k : Nat} {L : List UInt8} {z : Int} {u : Value} {c : UInt8} (h : ByAt W g L) (hu : W.cell? ⟨g, k, none⟩ = some u) (hc : (c.toNat : Int) = z) : ByAt (W.setCell ⟨g, k, none⟩ (.int .u8 z)) g (L.set k c) := by
  refine ⟨fun j hj => ?_, fun j hj => ?_⟩
  · rw [List.length_set] at hj
    by_cases e : k = j
    · subst e
      rw [World.cell?_setCell_same _ _ _ hu]
      simp [hc]
    · rw [World.cell?_setCell_other _ _ _ _ (fun q => e (Addr.mk.inj q).2.1), h.c j hj, List.getElem_set_ne e]
  · rw [List.length_set] at hj
    rw [World.frozen?_setCell]
    exact h.f j hj
theorem ByAt.conv {W : World} {g : Nat} {L : List UInt8} (h : ByAt W g L) (cp : Nat) : (convert 30 9 (.slice (some ⟨g, 0, none⟩) L.length cp)).run Try.prog W = .ok (.string (BS L)) W := by
  refine run_convert_bytes_back (P := Try.prog) _ _ _ 5 ⟨g, 0, none⟩ cp L Try.underlying30 Try.underlying5 Try.underlying9 (fun j hj => ?_)
  have hadd : (⟨g, 0, none⟩ : Addr).add j = ⟨g, j, none⟩ := by unfold Addr.add; split <;> simp_all
  rw [hadd]
  exact h.c j hj
theorem xor_bd (a b : Int) : 0 ≤ bits .xor .u8 a b ∧ bits .xor .u8 a b < 256 := by
  have e : ∃ y, bits .xor .u8 a b = IntKind.u8.wrap y := ⟨_, rfl⟩
  obtain ⟨y, hy⟩ := e
  rw [hy]
  show 0 ≤ y % 256 ∧ y % 256 < 256
  omega
theorem ext_pre (M : List UInt8) (k : Nat) : (BS M).extract 0 k = BS (M.take k) := by
  have := ext_take (BS M) 0 k
  rw [Nat.zero_add, BS_data, List.drop_zero] at this
  exact this
set_option maxRecDepth 20000 in
set_option maxHeartbeats 4000000 in
theorem sreads_walk (s : ByteArray) (b : Option Addr) (lb cb : Nat) (zs : List (List Int)) (q0 q1 q2 : Int) (w : World) (g : RowN w b lb cb zs) (hw : ∀ z ∈ zs, ∀ x ∈ z, (Lit.int .i64 x).wf = true) (hs : s.size ≤ maxLen) :
    Calls Try.prog 4 #[.string s, .slice b lb cb, .agg #[.int .i64 q0, .int .i64 q1, .int .i64 q2]] w fun e w' => e = .returned (.bool true) ∧ Below w.heap.size w w' := by
  unfold maxLen at hs
  have G := Lib.hid g
  have WF := Lib.hid hw
  clear g hw
  have B0 := Lib.hid (wbox w (.cells #[.int .i64 q0, .int .i64 q1, .int .i64 q2] 29))
  have X0 := Lib.hid (Blk.new w 29 #[.int .i64 q0, .int .i64 q1, .int .i64 q2])
  have EX := Lib.hid (show s.extract 0 60 = BS (s.data.toList.take 60) by have := ext_take s 0 60; rw [Nat.zero_add, List.drop_zero] at this; exact this)
  have ES := Lib.hid (show s = BS s.data.toList by apply ByteArray.ext; simp [BS])
  have EL := Lib.hid (show s.data.toList.length = s.size by simp)
  go_enter Try.func4, Try.ntmps4
  go_wp2_with fail
  refine (awake16_any _).mono ?_
  rintro e w1 ⟨rfl, hb⟩
  have B1 := Lib.hid (below_next B0.out hb)
  have X1 := Lib.hid (X0.out.below hb)
  clear hb B0 X0
  go_upto_if 18 with fail
  go_cut [0] (fun s0 wx => ∃ M, s0 = .string (BS M) ∧ M.length ≤ 60 ∧ wx = w1)
  case first =>
    by_cases q : 60 < s.size
    · have d1 : decide ((60 : Int) < (s.size : Int)) = true := by simp; omega
      have d1' : decide (60 < s.size) = true := by simp; omega
      have d2 : (60 : Int) ≤ (s.size : Int) := by omega
      go_wp2_with fail
      go_meet
      exact ⟨s.data.toList.take 60, by rw [EX.out], by rw [List.length_take]; omega, rfl⟩
    · have d1 : decide ((60 : Int) < (s.size : Int)) = false := by simp; omega
      have d1' : decide (60 < s.size) = false := by simp; omega
      have LL := Lib.hid (show s.data.toList.length ≤ 60 by rw [EL.out]; omega)
      go_wp2_with fail
      go_meet
      exact ⟨s.data.toList, by rw [← ES.out], LL.out, rfl⟩
  case rest =>
    obtain ⟨M, rfl, hM, rfl⟩ := hcut
    have ML := Lib.hid hM
    clear hM
    have x0 := X1.out.cell 0; have x1 := X1.out.cell 1; have x2 := X1.out.cell 2
    simp at x0 x1 x2
    obtain ⟨v, hv⟩ : ∃ v, bits .and .i64 q0 3 = v := ⟨_, rfl⟩
    go_upto_if 24 with fail
    go_cut [0] (fun s0 wx => ∃ M, s0 = .string (BS M) ∧ M.length ≤ 400000000 ∧ Below w.heap.size w wx)
    case first =>
      by_cases z : v = 0
      · have d1 : (v != 0) = false := by simp [z]
        have B2 := Lib.hid B1.out
        clear z
        go_wp2_with fail
        go_meet
        exact ⟨M, rfl, by have := ML.out; omega, B2.out⟩
      · have d1 : (v != 0) = true := by simp [z]
        clear z
        have ⟨f0, f1⟩ := and_low q1 1073741823 (by omega) (by omega)
        have MR := Lib.hid (made_row (l := zs) f0 f1 (show 64 ≤ (1024 : Int) by omega) (Int.le_refl _))
        have ⟨ms, ml⟩ := made_small (bits .and .i64 q1 1073741823) zs
        have MS := Lib.hid ms
        clear f0 f1 ms
        go_wp2_with fail
        refine (made16_any q1 b lb cb zs _ (G.out.below B1.out) WF.out).mono ?_
        rintro e w2 ⟨⟨ba, na, ca, rfl, hr, -⟩, hb⟩
        obtain ⟨R, hR⟩ : ∃ R, madeV (bits .and .i64 q1 1073741823) zs = R := ⟨_, rfl⟩
        rw [hR] at hr MR MS ml
        have R2 := Lib.hid hr
        have B2 := Lib.hid (below_next B1.out hb)
        have X2 := Lib.hid (X1.out.below hb)
        clear hr hb hR
        have BK := Lib.hid (show bytesK R = bytesL R by unfold bytesK; rw [rowB_yes MR.out, if_pos rfl])
        have BL := Lib.hid (back_len MR.out MS.out)
        have BP := Lib.hid (show 0 < (bytesL R).length by
          obtain ⟨x, y, e, _⟩ := num_shape R.length
          unfold bytesL
          rw [e]
          simp
          omega)
        go_wp2_with fail
        refine (r16bytes_any ba na ca R w2 R2.out MS.out).mono ?_
        rintro e w3 ⟨rfl, hb⟩
        rw [BK.out]
        obtain ⟨L, hL⟩ : ∃ L, bytesL R = L := ⟨_, rfl⟩
        rw [hL] at BL BP ⊢
        have B3 := Lib.hid (below_next B2.out hb)
        have X3 := Lib.hid (X2.out.below hb)
        clear hb hL BK
        obtain ⟨n, hn⟩ : ∃ n, L.length = n := ⟨_, rfl⟩
        have LN := Lib.hid hn
        have n0 : 0 < n := by rw [← hn]; exact BP.out
        have n1 : n ≤ 400000000 := by rw [← hn]; exact BL.out
        have hcv := run_bytes_of_string (P := Try.prog) w3 9 30 5 (BS L) Try.underlying9 Try.underlying30 Try.underlying5
        rw [BS_size, hn] at hcv
        obtain ⟨cp, hcp⟩ : ∃ cp, grownCap w3 n 0 5 = cp := ⟨_, rfl⟩
        rw [hcp] at hcv
        obtain ⟨W4, hW4⟩ : ∃ W4, w3.drew.alloc (.cells (bytesRow (BS L) cp) 5 ((bytesRow (BS L) cp).size, (bytesRow (BS L) cp).size + 1)) = W4 := ⟨_, rfl⟩
        have Y4 := Lib.hid (show ByAt W4 w3.heap.size L from ⟨fun j hj => by
          rw [← hW4]
          have h1 := World.cell?_alloc_mark w3.drew (bytesRow (BS L) cp) 5 ((bytesRow (BS L) cp).size, (bytesRow (BS L) cp).size + 1) j
          have h2 := bytesRow_at (BS L) cp j (by show j < (BS L).size; rw [BS_size]; exact hj)
          rw [h2] at h1
          refine h1.trans ?_
          unfold BS
          simp, fun j hj => by
          rw [← hW4]
          have h1 := World.frozen?_alloc_mark w3.drew (bytesRow (BS L) cp) 5 (bytesRow (BS L) cp).size ((bytesRow (BS L) cp).size + 1) j
          refine h1.trans ?_
          have h3 : j < (bytesRow (BS L) cp).size := by
            have h2 := bytesRow_at (BS L) cp j (by show j < (BS L).size; rw [BS_size]; exact hj)
            exact (Array.getElem?_eq_some_iff.1 h2).1
          simp
          omega⟩)
        have BW := Lib.hid (show Below w3.heap.size w3 W4 by rw [← hW4]; exact ((Below.refl _ _).drew).alloc (Nat.le_refl _) _)
        have B4 := Lib.hid (below_next B3.out BW.out)
        have X4 := Lib.hid (X3.out.below BW.out)
        have GN := Lib.hid (show w3.heap.size ≠ w.heap.size from fun e => by have := X3.out.lt; omega)
        rw [hW4] at hcv
        obtain ⟨g4, hg4⟩ : ∃ g4, w3.heap.size = g4 := ⟨_, rfl⟩
        rw [hg4] at hcv Y4 GN
        have LT := Lib.hid (show w.heap.size ≤ g4 by rw [← hg4]; exact B3.out.size)
        clear hn hcp hW4 hg4 BW x0 x1 x2
        have x0 := X4.out.cell 0; have x1 := X4.out.cell 1; have x2 := X4.out.cell 2
        simp at x0 x1 x2
        obtain ⟨t0, t1, t2, t3⟩ := tmod2 q1 n (by omega)
        obtain ⟨A, hA⟩ : ∃ A, q1.tmod (n : Int) = A := ⟨_, rfl⟩
        rw [hA] at t0 t1 t2 t3
        obtain ⟨K, hK⟩ : ∃ K, (A + (n : Int)).tmod (n : Int) = K := ⟨_, rfl⟩
        have hK2 : (A + (n : Int)) % (n : Int) = K := by rw [← hK]; exact (Int.tmod_eq_emod_of_nonneg (by omega)).symm
        rw [hK] at t0 t1
        obtain ⟨k, rfl⟩ := Int.eq_ofNat_of_zero_le t0
        have kn : k < n := by omega
        have c1 : decide ((0 : Int) < (n : Int)) = true := by simp; omega
        have c1' : decide (0 < n) = true := by simp; omega
        have nz : ¬ (n : Int) = 0 := by omega
        have nz' : ¬ n = 0 := by omega
        have wA : IntKind.i64.wrap (A + (n : Int)) = A + (n : Int) := IntWalk.i64_in _ (by omega)
        go_upto_region 8 with fail
        have kl : k < L.length := by rw [LN.out]; exact kn
        have y := Y4.out.c k kl
        have yf := Y4.out.f k kl
        obtain ⟨x, hx⟩ : ∃ x, L[k] = x := ⟨_, rfl⟩
        rw [hx] at y
        have i0 : 0 ≤ (k : Int) := by omega
        have i1 : (k : Int) < (n : Int) := by omega
        clear hx nz nz' wA hcv hA hK hK2 c1 c1' x0 x1 t0 t1 t2 t3
        go_region
        obtain ⟨Z, hZ⟩ : ∃ Z, bits .xor .u8 (x.toNat : Int) (q2 % 256) = Z := ⟨_, rfl⟩
        rw [hZ]
        have zb := xor_bd (x.toNat : Int) (q2 % 256)
        rw [hZ] at zb
        have bz := bt_toNat zb.1 zb.2
        obtain ⟨W5, hW5⟩ : ∃ W5, (W4.setCell ⟨g4, k, none⟩ (.int .u8 Z)).drew = W5 := ⟨_, rfl⟩
        have Y5 := Lib.hid (show ByAt W5 g4 (L.set k (bt Z)) by rw [← hW5]; exact (Y4.out.set y bz).drew)
        have K5 := Lib.hid (show Keeps (fun k => k = g4) W4 W5 by rw [← hW5]; exact ((Keeps.refl (fun k => k = g4) W4).set (.inl rfl) _ _).drew)
        have B5 := Lib.hid (show Below w.heap.size w W5 from K5.out.below B4.out (fun k (e : k = g4) => by have := LT.out; omega) B4.out.size)
        have X5 := Lib.hid (X4.out.keeps K5.out (fun e => GN.out e.symm))
        rw [hW5]
        have LS := Lib.hid (show (L.set k (bt Z)).length = n by rw [List.length_set, LN.out])
        obtain ⟨L5, hL5⟩ : ∃ L5, L.set k (bt Z) = L5 := ⟨_, rfl⟩
        rw [hL5] at Y5 LS
        have hcv := Y5.out.conv cp
        rw [LS.out] at hcv
        have ZS := Lib.hid (show (BS L5).size = n by rw [BS_size, LS.out])
        have EXT := Lib.hid (ext_pre L5 k)
        obtain ⟨S5, hS5⟩ : ∃ S5, BS L5 = S5 := ⟨_, rfl⟩
        rw [hS5] at hcv ZS EXT
        have HS5 := Lib.hid hS5
        clear x2 y yf zb bz hW5 hZ hL5 hS5
        have x0 := X5.out.cell 0
        simp at x0
        by_cases z : v = 3
        · have d2 : (v == 3) = true := by simp [z]
          have d3 : (k : Int) ≤ (S5.size : Int) := by rw [ZS.out]; omega
          clear z
          go_wp2_with fail
          go_meet
          exact ⟨L5.take k, by rw [EXT.out], by rw [List.length_take]; omega, B5.out⟩
        · have d2 : (v == 3) = false := by simp [z]
          clear z
          go_wp2_with fail
          go_meet
          exact ⟨L5, by rw [HS5.out], by rw [LS.out]; omega, B5.out⟩
    case rest =>
      obtain ⟨M2, rfl, hM, hb⟩ := hcut
      have ML2 := Lib.hid hM
      have B2 := Lib.hid hb
      clear hM hb ML hv x0 x1 x2
      go_wp2_with fail
      refine (pread_bs M2 _ (by have := ML2.out; omega)).mono ?_
      rintro e w3 ⟨hc, hb⟩
      have B3 := Lib.hid (below_next B2.out hb)
      clear hb
      have RB := Lib.hid (r16row_read_any (BS M2) w3 (by rw [BS_size]; have := ML2.out; omega))
      rw [BS_data] at RB
      rcases hc with ⟨x, bx, cx, hx, rfl, hrx⟩ | ⟨hx, rfl⟩
      · have X3 := Lib.hid hrx
        have HX := Lib.hid hx
        clear hrx hx
        go_wp2_with fail
        refine RB.out.mono ?_
        rintro e w4 ⟨hc, hb⟩
        have B4 := Lib.hid (below_next B3.out hb)
        have X4 := Lib.hid (X3.out.below hb)
        clear hb
        rcases hc with ⟨y, by', cy, hy, rfl, hry⟩ | ⟨hy, rfl⟩
        · rw [HX.out] at hy
          cases hy
          have Y4 := Lib.hid hry
          clear hry
          go_wp2_with fail
          refine (r16same_yes bx by' x.length cx cy x w4 X4.out Y4.out).mono ?_
          rintro e w5 ⟨rfl, hb⟩
          have B5 := Lib.hid (below_next B4.out hb)
          clear hb
          go_wp2
          go_ret
          exact ⟨rfl, B5.out⟩
        · rw [HX.out] at hy
          cases hy
      · have HX := Lib.hid hx
        clear hx
        go_wp2_with fail
        refine RB.out.mono ?_
        rintro e w4 ⟨hc, hb⟩
        have B4 := Lib.hid (below_next B3.out hb)
        clear hb
        rcases hc with ⟨y, by', cy, hy, rfl, hry⟩ | ⟨hy, rfl⟩
        · rw [HX.out] at hy
          cases hy
        · clear hy
          go_wp2_with fail
          refine (r16same_yes none none 0 0 0 [] w4 RowK.nil RowK.nil).mono ?_
          rintro e w5 ⟨rfl, hb⟩
          have B5 := Lib.hid (below_next B4.out hb)
          clear hb
          go_wp2
          go_ret
          exact ⟨rfl, B5.out⟩
end Go.Proofs.Ytndhpihgeacdfaa
