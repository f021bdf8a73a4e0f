/-
  The laws' awake and tells (regattalaw16): contracts.
-/
import Derived.Test.YtndhpihgeacdfaaSw2
import Derived.Test.YtndhpihgeacdfaaSw4
import Derived.Test.YtndhpihgeacdfaaSw6
import Derived.Test.YtndhpihgeacdfaaSo2
import Derived.Deep.RegionHeld3
namespace Go.Proofs.Ytndhpihgeacdfaa
open Go.RowKit

def xl : List Sk := [⟨5, [⟨3, 1, 2⟩]⟩]
theorem xl_may {m : Int} (h : 2 ≤ m) (h2 : m ≤ 1024) : RowTo xl m xl.length := by
  intro j s hj hs
  have j0 : j = 0 := by simp [xl] at hj; omega
  subst j0
  have : s = ⟨5, [⟨3, 1, 2⟩]⟩ := by simp [xl] at hs; exact hs.symm
  subst this
  refine ⟨⟨by omega, h2, by show (0 : Int) ≤ 5; omega, by show (5 : Int) ≤ _; omega, ⟨fun r hr => ?_, by simp, by simp⟩⟩, fun t h => by omega⟩
  have : r = ⟨3, 1, 2⟩ := by simpa using hr
  subst this
  show 0 ≤ (1 : Int) ∧ (1 : Int) < m ∧ 0 ≤ (3 : Int) ∧ (3 : Int) ≤ 1023 ∧ 1 ≤ (2 : Int) ∧ (2 : Int) ≤ 1099511627776
  omega
theorem xl_bytes : bytesK xl = [1, 5, 1, 1, 3, 2] := by
  unfold bytesK
  rw [rowB_yes (xl_may (by omega) (by omega)), if_pos rfl]
  simp [bytesL, xl, slotsB, slotB, runsB, numI, headAt, num_last, bt]
theorem nil_bytes : bytesK [] = [0, 0] := by
  unfold bytesK
  rw [rowB_yes (fun j s hj => by simp at hj), if_pos rfl]
  simp [bytesL, slotsB, numI, headAt, num_last, bt]
theorem nil_small : SmallK [] := ⟨by simp, by simp⟩
theorem xl_small : SmallK xl := ⟨by simp [xl], by simp [xl]⟩
theorem xl_empty : emV xl 2 = 1 := by
  unfold emV
  rw [rowB_yes (xl_may (by omega) (by omega)), if_pos rfl]
  simp [emS, xl]
theorem xl_row (w : World) : RowK ((w.alloc (.cells #[.int .i64 3, .int .i64 1, .int .i64 2] 44)).alloc (.cells #[.int .i64 5, .slice (some ⟨w.heap.size, 0, none⟩) 1 1] 47)) (some ⟨w.heap.size + 1, 0, none⟩) 1 1 xl := by
  have hu : RowU (w.alloc (.cells #[.int .i64 3, .int .i64 1, .int .i64 2] 44)) (some ⟨w.heap.size, 0, none⟩) 1 1 [⟨3, 1, 2⟩] := by
    obtain ⟨ad, cap, hv, hr, _⟩ := rowU_of_owns (l := [⟨3, 1, 2⟩]) (World.ownsRow_lit (base := w.heap.size) (e := 44) (size := 3) w #[.int .i64 3, .int .i64 1, .int .i64 2] 1 (Nat.le_refl _) (by unfold maxLen; omega) rfl) rfl
    simp only [Value.slice.injEq] at hv
    obtain ⟨rfl, _, rfl⟩ := hv
    exact hr
  obtain ⟨ad, cap, hv, hr, _⟩ := rowF_of_owns (rs := List.zipWith skc xl [(some ⟨w.heap.size, 0, none⟩, 1, 1)]) (wideK _ _) (World.ownsRow_lit (base := 0) (e := 47) (size := 2) (w.alloc (.cells #[.int .i64 3, .int .i64 1, .int .i64 2] 44)) #[.int .i64 5, .slice (some ⟨w.heap.size, 0, none⟩) 1 1] 1 (Nat.zero_le _) (by unfold maxLen; omega) rfl) rfl
  simp only [Value.slice.injEq] at hv
  obtain ⟨rfl, _, rfl⟩ := hv
  rw [wsize] at hr
  refine ⟨[(some ⟨w.heap.size, 0, none⟩, 1, 1)], rfl, hr, fun i s v hs hv => ?_⟩
  have i0 : i = 0 := by have := lt_of_get hs; simp [xl] at this; omega
  subst i0
  simp [xl] at hs hv
  subst hs hv
  exact hu.below (wbox _ _)
set_option maxRecDepth 20000 in
set_option maxHeartbeats 4000000 in
theorem awake16_any (w : World) : Calls Try.prog 8 #[] w fun e w' => e = .returned (.bool true) ∧ Below w.heap.size w w' := by
  have R := Lib.hid (xl_row w)
  have B := Lib.hid (wbox2 w (.cells #[.int .i64 3, .int .i64 1, .int .i64 2] 44) (.cells #[.int .i64 5, .slice (some ⟨w.heap.size, 0, none⟩) 1 1] 47))
  have e1 := BS_list [0, 0]
  have e2 := BS_list [1, 5, 1, 1, 3, 2]
  go_enter Try.func8, Try.ntmps8
  go_wp2_with fail
  refine (pbytes_any none 0 0 [] _ RowK.nil nil_small).mono ?_
  rintro e w1 ⟨rfl, hb⟩
  rw [nil_bytes]
  have R1 := Lib.hid (R.out.below hb)
  have B1 := Lib.hid (below_next B.out hb)
  clear hb R B
  go_wp2_with fail
  refine (pbytes_any _ 1 1 xl _ R1.out xl_small).mono ?_
  rintro e w2 ⟨rfl, hb⟩
  rw [xl_bytes]
  have R2 := Lib.hid (R1.out.below hb)
  have B2 := Lib.hid (below_next B1.out hb)
  clear hb
  go_wp2_with fail
  refine (prow_any _ 1 1 xl 2 _ R2.out).mono ?_
  rintro e w3 ⟨rfl, hb⟩
  rw [rowB_yes (xl_may (by omega) (by omega))]
  have R3 := Lib.hid (R2.out.below hb)
  have B3 := Lib.hid (below_next B2.out hb)
  clear hb
  go_wp2_with fail
  refine (pempty_any _ 1 1 xl 2 _ R3.out xl_small).mono ?_
  rintro e w4 ⟨rfl, hb⟩
  rw [xl_empty]
  have B4 := Lib.hid (below_next B3.out hb)
  clear hb
  go_wp2
  go_ret
  exact ⟨rfl, B4.out⟩
set_option maxRecDepth 20000 in
set_option maxHeartbeats 4000000 in
theorem tells16_any (a : Option Addr) (len cap : Nat) (l : List Sk) (m id : Int) (w : World) (h : RowK w a len cap l) (hs : SmallK l) :
    Calls Try.prog 9 #[.slice a len cap, .int .i64 m, .int .i64 id] w fun e w' => e = .returned (.bool true) ∧ Below w.heap.size w w' := by
  have H := Lib.hid h
  have LN := Lib.hid h.len
  have HS := Lib.hid hs
  have ⟨k1, k2⟩ := h.cap_le
  have len4 : len ≤ 4096 := by rw [← h.len]; exact hs.a
  clear h hs
  go_enter Try.func9, Try.ntmps9
  go_wp2
  go_loopw [7] (fun u wr => ∃ i : Nat, u = .int .i64 i ∧ i ≤ len ∧ Below w.heap.size w wr) (fun u _ => len - (intOf u).toNat)
  case atStart => exact ⟨0, rfl, by omega, Below.refl _ _⟩
  case round =>
    obtain ⟨i, rfl, i1, hb⟩ := hrel
    have B := Lib.hid hb
    clear hb
    by_cases go : i < len
    · have b1 : decide ((i : Int) < (len : Int)) = true := by simp; omega
      have b1' : decide (i < len) = true := by simp; omega
      obtain ⟨s, hs, -⟩ := get_of (l := l) (i := i) (by rw [LN.out]; exact go)
      obtain ⟨ba, oa, ao, lo, co, rfl, x0, x1, hu⟩ := H.out.at hs
      have HU := Lib.hid (hu.below B.out)
      have x0 := cell_on B.out x0
      have x1 := cell_on B.out x1
      have i3 : (i : Int) < (len : Int) := by omega
      have i0 : 0 ≤ (i : Int) := by omega
      obtain ⟨tm, rs⟩ := s
      replace x0 : wr.cell? ⟨ba, oa + i * 2, none⟩ = some (.int .i64 tm) := x0
      clear hs hu
      have BW := Lib.hid (Below.refl wr.heap.size wr)
      obtain ⟨v, hv⟩ : ∃ v, mayS ⟨tm, rs⟩ m = v := ⟨_, rfl⟩
      have HV := Lib.hid hv
      clear hv
      go_upto_region 4 with fail
      have KEPT := Lib.hid (show ∀ w' : World, Below wr.heap.size wr w' → w'.cell? ⟨ba, oa + i * 2, none⟩ = some (.int .i64 tm) ∧ w'.cell? ⟨ba, oa + i * 2 + 1, none⟩ = some (.slice ao lo co) from fun w' BL => ⟨cell_on BL x0, cell_on BL x1⟩)
      clear x0 x1 BW
      have BL := Lib.hid (show Below wr.heap.size wr wr.drew from bdN (Below.refl _ _) 1)
      refine wp_region_noPanic ?_
      refine wp_region_held_drew (S := fun w' => w'.cell? ⟨ba, oa + i * 2, none⟩ = some (.int .i64 tm) ∧ w'.cell? ⟨ba, oa + i * 2 + 1, none⟩ = some (.slice ao lo co)) (by kernel_rfl) (KEPT.out _ BL.out) (fun hHeld => ?_)
      refine' takeY (i := 0) (oi := _) (v := _) ?him1 (by kernel_rfl) (by kernel_rfl) (by kernel_rfl) (fun _ _ _ h => h) ?hwm1 ?hym1 hHeld ?restm1
      case him1 => (simp only [List.getElem?_toArray, List.getElem?_cons_zero]; rfl)
      case hwm1 => rfl
      case hym1 => (intro w hSw; (try dsimp only at hSw); go_simp; try with_reducible rfl)
      try simp only [Act.put, List.setIfInBounds_toArray, List.set_cons_zero, List.set_cons_succ]
      refine' takeY (i := 1) (oi := _) (v := _) ?him2 (by kernel_rfl) (by kernel_rfl) (by kernel_rfl) (fun _ _ _ h => h) ?hwm2 ?hym2 hHeld ?restm2
      case him2 => (simp only [List.getElem?_toArray, List.getElem?_cons_succ, List.getElem?_cons_zero]; rfl)
      case hwm2 => rfl
      case hym2 => (intro w hSw; (try dsimp only at hSw); go_simp; try with_reducible rfl)
      try simp only [Act.put, List.setIfInBounds_toArray, List.set_cons_zero, List.set_cons_succ]
      refine' takeY (i := 2) (oi := _) (v := _) ?him3 (by kernel_rfl) (by kernel_rfl) (by kernel_rfl) (fun _ _ _ h => h) ?hwm3 ?hym3 hHeld ?restm3
      case him3 => (simp only [List.getElem?_toArray, List.getElem?_cons_succ, List.getElem?_cons_zero]; rfl)
      case hwm3 => rfl
      case hym3 => (intro w hSw; (try dsimp only at hSw); go_simp; try with_reducible rfl)
      try simp only [Act.put, List.setIfInBounds_toArray, List.set_cons_zero, List.set_cons_succ]
      refine' takeY (i := 3) (oi := _) (v := _) ?him4 (by kernel_rfl) (by kernel_rfl) (by kernel_rfl) (fun _ _ _ h => h) ?hwm4 ?hym4 hHeld ?restm4
      case him4 => (simp only [List.getElem?_toArray, List.getElem?_cons_succ, List.getElem?_cons_zero]; rfl)
      case hwm4 => rfl
      case hym4 => (intro w hSw; (try dsimp only at hSw); go_simp; try with_reducible rfl)
      try simp only [Act.put, List.setIfInBounds_toArray, List.set_cons_zero, List.set_cons_succ]
      refine' takeY (i := 4) (oi := _) (v := _) ?him5 (by kernel_rfl) (by kernel_rfl) (by kernel_rfl) (fun _ _ _ h => h) ?hwm5 ?hym5 hHeld ?restm5
      case him5 => (simp only [List.getElem?_toArray, List.getElem?_cons_succ, List.getElem?_cons_zero]; rfl)
      case hwm5 => rfl
      case hym5 => (intro w hSw; (try dsimp only at hSw); go_simp; try with_reducible rfl)
      try simp only [Act.put, List.setIfInBounds_toArray, List.set_cons_zero, List.set_cons_succ]
      refine' takeY (i := 6) (oi := _) (v := _) ?him6 (by kernel_rfl) (by kernel_rfl) (by kernel_rfl) (fun _ _ _ h => h) ?hwm6 ?hym6 hHeld ?restm6
      case him6 => (simp only [List.getElem?_toArray, List.getElem?_cons_succ, List.getElem?_cons_zero]; rfl)
      case hwm6 => rfl
      case hym6 => (intro w hSw; (try dsimp only at hSw); go_simp; try with_reducible rfl)
      try simp only [Act.put, List.setIfInBounds_toArray, List.set_cons_zero, List.set_cons_succ]
      refine' takeY (i := 7) (oi := _) (v := _) ?him7 (by kernel_rfl) (by kernel_rfl) (by kernel_rfl) (fun _ _ _ h => h) ?hwm7 ?hym7 hHeld ?restm7
      case him7 => (simp only [List.getElem?_toArray, List.getElem?_cons_succ, List.getElem?_cons_zero]; rfl)
      case hwm7 => rfl
      case hym7 => (intro w hSw; (try dsimp only at hSw); go_simp; try with_reducible rfl)
      try simp only [Act.put, List.setIfInBounds_toArray, List.set_cons_zero, List.set_cons_succ]
      refine' takeY (i := 8) (oi := _) (v := _) ?him8 (by kernel_rfl) (by kernel_rfl) (by kernel_rfl) (fun _ _ _ h => h) ?hwm8 ?hym8 hHeld ?restm8
      case him8 => (simp only [List.getElem?_toArray, List.getElem?_cons_succ, List.getElem?_cons_zero]; rfl)
      case hwm8 => rfl
      case hym8 => (intro w hSw; (try dsimp only at hSw); go_simp; try with_reducible rfl)
      try simp only [Act.put, List.setIfInBounds_toArray, List.set_cons_zero, List.set_cons_succ]
      refine' takeY (i := 9) (oi := _) (v := _) ?him9 (by kernel_rfl) (by kernel_rfl) (by kernel_rfl) (fun _ _ _ h => h) ?hwm9 ?hym9 hHeld ?restm9
      case him9 => (simp only [List.getElem?_toArray, List.getElem?_cons_succ, List.getElem?_cons_zero]; rfl)
      case hwm9 => rfl
      case hym9 => (intro w hSw; (try dsimp only at hSw); go_simp; try with_reducible rfl)
      try simp only [Act.put, List.setIfInBounds_toArray, List.set_cons_zero, List.set_cons_succ]
      refine' takeY (i := 10) (oi := _) (v := _) ?him10 (by kernel_rfl) (by kernel_rfl) (by kernel_rfl) (fun _ _ _ h => h) ?hwm10 ?hym10 hHeld ?restm10
      case him10 => (simp only [List.getElem?_toArray, List.getElem?_cons_succ, List.getElem?_cons_zero]; rfl)
      case hwm10 => rfl
      case hym10 => (intro w hSw; (try dsimp only at hSw); go_simp; try with_reducible rfl)
      try simp only [Act.put, List.setIfInBounds_toArray, List.set_cons_zero, List.set_cons_succ]
      refine wpAnyH_ready (rs := [5]) (by kernel_rfl) (by simp) ?_
      refine' AllReadyH.cons (o := _) ?him11 (fun K hK => ?stepm11) (AllReadyH.nil)
      case him11 => (simp only [List.getElem?_toArray, List.getElem?_cons_succ, List.getElem?_cons_zero]; rfl)
      case stepm11 =>
        go_simp
        (go_at_call 21; (with_reducible refine (pcheck_any tm ao lo co rs m _ (HU.out.below BL.out)).mono ?_); rintro e w4 ⟨rfl, hb⟩; rw [HV.out]; have BL := Lib.hid (below_next BL.out hb); clear hb)
        go_wp2_with fail
        clear hHeld
        refine hK.out _ _ (KEPT.out _ BL.out) (fun hHeld => ?_)
        clear hK K
        try simp only [Act.put, List.setIfInBounds_toArray, List.set_cons_zero, List.set_cons_succ]
        refine wpAnyH_ready (rs := [11]) (by kernel_rfl) (by simp) ?_
        refine' AllReadyH.cons (o := _) ?him12 (fun K hK => ?stepm12) (AllReadyH.nil)
        case him12 => (simp only [List.getElem?_toArray, List.getElem?_cons_succ, List.getElem?_cons_zero]; rfl)
        case stepm12 =>
          go_simp
          (go_at_call 22; (with_reducible refine (r16check_any tm ao lo co rs m _ (HU.out.below BL.out)).mono ?_); rintro e w5 ⟨rfl, hb⟩; rw [HV.out]; have BL := Lib.hid (below_next BL.out hb); clear hb)
          go_wp2_with fail
          clear hHeld
          refine hK.out _ _ (KEPT.out _ BL.out) (fun hHeld => ?_)
          clear hK K
          try simp only [Act.put, List.setIfInBounds_toArray, List.set_cons_zero, List.set_cons_succ]
          refine' takeY (i := 12) (oi := _) (v := _) ?him13 (by kernel_rfl) (by kernel_rfl) (by kernel_rfl) (fun _ _ _ h => h) ?hwm13 ?hym13 hHeld ?restm13
          case him13 => (simp only [List.getElem?_toArray, List.getElem?_cons_succ, List.getElem?_cons_zero]; rfl)
          case hwm13 => rfl
          case hym13 => (intro w hSw; (try dsimp only at hSw); go_simp; try with_reducible rfl)
          try simp only [Act.put, List.setIfInBounds_toArray, List.set_cons_zero, List.set_cons_succ]
          refine wpAnyH_done (by kernel_rfl) ?_ _
          refine NoPanic.normal ?_
          have B2 := Lib.hid (below_next B.out BL.out)
          go_wp2
          go_roundw
          case rel => exact ⟨i + 1, by go_num, by omega, B2.out⟩
          case measure => simp [intOf]; omega
    · have b1 : decide ((i : Int) < (len : Int)) = false := by simp; omega
      have b1' : decide (i < len) = false := by simp; omega
      have HC := Lib.hid (H.out.below B.out)
      have BC := Lib.hid B.out
      go_wp2_with fail
      refine (prow_any a len cap l m _ HC.out).mono ?_
      rintro e w1 ⟨rfl, hb⟩
      have HC := Lib.hid (HC.out.below hb)
      have BC := Lib.hid (below_next BC.out hb)
      clear hb
      go_wp2_with fail
      refine (r16row_any a len cap l m _ HC.out).mono ?_
      rintro e w2 ⟨rfl, hb⟩
      have HC := Lib.hid (HC.out.below hb)
      have BC := Lib.hid (below_next BC.out hb)
      clear hb
      go_wp2_with fail
      refine (pquanta_any a len cap l id _ HC.out HS.out).mono ?_
      rintro e w3 ⟨rfl, hb⟩
      have HC := Lib.hid (HC.out.below hb)
      have BC := Lib.hid (below_next BC.out hb)
      clear hb
      go_wp2_with fail
      refine (r16quanta_any a len cap l id _ HC.out HS.out).mono ?_
      rintro e w4 ⟨rfl, rfl⟩
      go_wp2_with fail
      refine (pmoves_any a len cap l id _ HC.out HS.out).mono ?_
      rintro e w5 ⟨rfl, hb⟩
      have HC := Lib.hid (HC.out.below hb)
      have BC := Lib.hid (below_next BC.out hb)
      clear hb
      go_wp2_with fail
      refine (r16moves_any a len cap l id _ HC.out HS.out).mono ?_
      rintro e w6 ⟨rfl, hb⟩
      have HC := Lib.hid (HC.out.below hb)
      have BC := Lib.hid (below_next BC.out hb)
      clear hb
      go_wp2_with fail
      refine (pempty_any a len cap l m _ HC.out HS.out).mono ?_
      rintro e w7 ⟨rfl, hb⟩
      have HC := Lib.hid (HC.out.below hb)
      have BC := Lib.hid (below_next BC.out hb)
      clear hb
      go_wp2_with fail
      refine (r16empty_any a len cap l m _ HC.out HS.out).mono ?_
      rintro e w8 ⟨rfl, hb⟩
      have HC := Lib.hid (HC.out.below hb)
      have BC := Lib.hid (below_next BC.out hb)
      clear hb
      go_wp2_with fail
      refine (pbytes_any a len cap l _ HC.out HS.out).mono ?_
      rintro e w9 ⟨rfl, hb⟩
      have HC := Lib.hid (HC.out.below hb)
      have BC := Lib.hid (below_next BC.out hb)
      clear hb
      go_wp2_with fail
      refine (r16bytes_any a len cap l _ HC.out HS.out).mono ?_
      rintro e w10 ⟨rfl, hb⟩
      have HC := Lib.hid (HC.out.below hb)
      have BC := Lib.hid (below_next BC.out hb)
      clear hb
      go_wp2
      go_ret
      exact ⟨rfl, BC.out⟩
end Go.Proofs.Ytndhpihgeacdfaa
