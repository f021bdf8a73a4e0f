/-
  The walk of the law SlotParts.
-/
import Derived.Test.YtndhpihgeacdfaaSx5
import Derived.Test.YtndhpihgeacdfaaSx8
import Derived.Test.YtndhpihgeacdfaaSx7
namespace Go.Proofs.Ytndhpihgeacdfaa
open Go.RowKit

theorem em_bd2 {l : List Sk} {m : Int} (h : l.length ≤ 12) (m0 : 0 ≤ m) (m1 : m ≤ 80) (g : (allR l).length ≤ 96) : -96 ≤ emS l m ∧ emS l m ≤ 960 := by
  have ha := em_all l m
  have h1 : 0 ≤ m * (l.length : Int) := Int.mul_nonneg m0 (by omega)
  have h2 : m * (l.length : Int) ≤ 80 * 12 := Int.le_trans (Int.mul_le_mul_of_nonneg_right m1 (by omega)) (Int.mul_le_mul_of_nonneg_left (by omega) (by omega))
  omega
theorem row_nil {W : World} {R : List Sk} (h : R.length = 0) : RowK W none 0 0 (R.drop 0) := by
  have h0 : R = [] := List.length_eq_zero_iff.mp h
  subst h0
  exact RowK.nil
theorem all_take_len (R : List Sk) (k : Nat) : (allR (R.take k)).length ≤ (allR R).length ∧ (allR (R.drop k)).length ≤ (allR R).length := by
  have h := all_append (R.take k) (R.drop k)
  rw [List.take_append_drop] at h
  rw [h, List.length_append]
  omega
set_option maxRecDepth 20000 in
set_option maxHeartbeats 4000000 in
theorem sparts_walk (at_ : Int) (b : Option Addr) (lb cb : Nat) (zs : List (List Int)) (q0 q1 : Int) (w : World) (g : RowN w b lb cb zs) (hw : ∀ z ∈ zs, ∀ x ∈ z, (Lit.int .i64 x).wf = true) :
    Calls Try.prog 7 #[.int .i64 at_, .slice b lb cb, .agg #[.int .i64 q0, .int .i64 q1]] w fun e w' => e = .returned (.bool true) ∧ Below w.heap.size w w' := by
  have G := Lib.hid g
  have WF := Lib.hid hw
  clear g hw
  have ⟨f0, f1⟩ := and_low at_ 1073741823 (by omega) (by omega)
  have B0 := Lib.hid (wbox w (.cells #[.int .i64 q0, .int .i64 q1] 41))
  have X0 := Lib.hid (Blk.new w 41 #[.int .i64 q0, .int .i64 q1])
  go_enter Try.func7, Try.ntmps7
  go_wp2_with fail
  refine (awake16_any _).mono ?_
  rintro e w0 ⟨rfl, hb⟩
  have B1 := Lib.hid (below_next B0.out hb)
  have X1 := Lib.hid (X0.out.below hb)
  clear hb
  go_wp2_with fail
  refine (made16_any at_ b lb cb zs _ (G.out.below B1.out) WF.out).mono ?_
  rintro e w1 ⟨⟨ba, n, ca, rfl, hr, hz⟩, hb⟩
  have B2 := Lib.hid (below_next B1.out hb)
  have X2 := Lib.hid (X1.out.below hb)
  have MR := Lib.hid (made_row (l := zs) f0 f1 (show 64 ≤ (64 : Int) by omega) (by omega))
  have MF := made_few (bits .and .i64 at_ 1073741823) zs
  have ⟨ms, ml⟩ := made_small (bits .and .i64 at_ 1073741823) zs
  have MS := Lib.hid ms
  obtain ⟨R, hR⟩ : ∃ R, madeV (bits .and .i64 at_ 1073741823) zs = R := ⟨_, rfl⟩
  rw [hR] at hr MR MF MS ml
  have LN := Lib.hid hr.len
  have A := Lib.hid hr
  have n12 : n ≤ 12 := by rw [← hr.len]; exact ml
  have ⟨c1, c2⟩ := hr.cap_le
  clear hb hr hR ms f0 f1
  have x0 := X2.out.cell 0; have x1 := X2.out.cell 1
  simp at x0 x1
  obtain ⟨id, hid⟩ : ∃ id, bits .and .i64 q1 255 = id := ⟨_, rfl⟩
  by_cases z : n = 0
  · obtain ⟨rfl, rfl⟩ := hz z
    subst z
    have d1 : decide ((0 : Int) < ((0 : Nat) : Int)) = false := by simp
    have PV := Lib.hid (parts_of MR.out 0 id)
    have T := Lib.hid (show RowK w1 none 0 0 (R.take 0) from A.out.take (by omega))
    have D := Lib.hid (show RowK w1 none (0) (0) (R.drop 0) from row_nil LN.out)
    have AL := all_take_len R 0
    have EA := em_bd2 ml (show 0 ≤ (64 : Int) by omega) (by omega) MF
    have ET := em_bd2 (l := R.take 0) (m := 64) (by rw [List.length_take]; omega) (by omega) (by omega) (by omega)
    have ED := em_bd2 (l := R.drop 0) (m := 64) (by rw [List.length_drop]; omega) (by omega) (by omega) (by omega)
    have EY := Lib.hid (show emV R 64 = emS R 64 ∧ emV (R.take 0) 64 = emS (R.take 0) 64 ∧ emV (R.drop 0) 64 = emS (R.drop 0) 64 from ⟨em_yes MR.out, em_yes (row_take MR.out 0), em_yes (row_drop MR.out 0)⟩)
    rw [← EY.out.1] at EA
    rw [← EY.out.2.1] at ET
    rw [← EY.out.2.2] at ED
    have QA := qu_le (allR R) id
    have QT := qu_le (allR (R.take 0)) id
    have QD := qu_le (allR (R.drop 0)) id
    have VA : (mvU (allR R) id).1 ≤ 0 + (allR R).length := mv_le (allR R) id (0, none)
    have VT : (mvU (allR (R.take 0)) id).1 ≤ 0 + (allR (R.take 0)).length := mv_le _ id (0, none)
    have VD : (mvU (allR (R.drop 0)) id).1 ≤ 0 + (allR (R.drop 0)).length := mv_le _ id (0, none)
    have B := Lib.hid B2.out
    have PQ := PV.out.q
    have PE := PV.out.e
    have P1 := PV.out.m1
    have P2 := PV.out.m2
    have PR := Lib.hid PV.out.r
    obtain ⟨qa, hqa⟩ : ∃ x, quU (allR R) id = x := ⟨_, rfl⟩
    obtain ⟨qt, hqt⟩ : ∃ x, quU (allR (R.take 0)) id = x := ⟨_, rfl⟩
    obtain ⟨qd, hqd⟩ : ∃ x, quU (allR (R.drop 0)) id = x := ⟨_, rfl⟩
    obtain ⟨ea, hea⟩ : ∃ x, emV R 64 = x := ⟨_, rfl⟩
    obtain ⟨et, het⟩ : ∃ x, emV (R.take 0) 64 = x := ⟨_, rfl⟩
    obtain ⟨ed, hed⟩ : ∃ x, emV (R.drop 0) 64 = x := ⟨_, rfl⟩
    obtain ⟨va, hva⟩ : ∃ x, (mvU (allR R) id).1 = x := ⟨_, rfl⟩
    obtain ⟨vt, hvt⟩ : ∃ x, (mvU (allR (R.take 0)) id).1 = x := ⟨_, rfl⟩
    obtain ⟨vd, hvd⟩ : ∃ x, (mvU (allR (R.drop 0)) id).1 = x := ⟨_, rfl⟩
    rw [hqa, hqt, hqd] at PQ
    rw [hea, het, hed] at PE
    rw [hva, hvt] at P1
    rw [hva, hvt, hvd] at P2
    rw [hqa] at QA
    rw [hqt] at QT
    rw [hqd] at QD
    rw [hea] at EA
    rw [het] at ET
    rw [hed] at ED
    rw [hva] at VA
    rw [hvt] at VT
    rw [hvd] at VD
    have y1 : IntKind.i64.wrap ((qt : Int) + (qd : Int)) = (qt : Int) + (qd : Int) := IntWalk.i64_in _ (by omega)
    have y2 : ((qa : Int) == (qt : Int) + (qd : Int)) = true := by simp; omega
    have y3 : IntKind.i64.wrap (et + ed) = et + ed := IntWalk.i64_in _ (by omega)
    have y4 : (ea == et + ed) = true := by simp; omega
    have y5 : IntKind.i64.wrap ((va : Int) - (vt : Int)) = (va : Int) - (vt : Int) := IntWalk.i64_in _ (by omega)
    have y6 : IntKind.i64.wrap ((va : Int) - (vt : Int) - (vd : Int)) = (va : Int) - (vt : Int) - (vd : Int) := IntWalk.i64_in _ (by omega)
    have y7 : decide ((va : Int) - (vt : Int) - (vd : Int) ≤ 1) = true := by simp; omega
    have y8 : decide ((vt : Int) ≤ (va : Int)) = true := by simp; omega
    have y8' : decide (vt ≤ va) = true := by simp; omega
    have HQ := Lib.hid (And.intro hqa (And.intro hqt hqd))
    have HE := Lib.hid (And.intro hea (And.intro het hed))
    have HV := Lib.hid (And.intro hva (And.intro hvt hvd))
    clear hqa hqt hqd hea het hed hva hvt hvd PQ PE P1 P2 QA QT QD EA ET ED VA VT VD AL MF
    go_upto_region 7 with fail
    try rw [hid]
    clear hid x0 x1 d1
    simp only [List.append]
    have BW := Lib.hid (show Below w1.heap.size w1 w1.drew from bdN (Below.refl _ _) 1)
    refine wp_region_noPanic ?_
    refine wp_region_held_drew (S := fun w' => True) (by kernel_rfl) (trivial) (fun hHeld => ?_)
    refine' takeY (i := 0) (oi := _) (v := _) ?hia1 (by kernel_rfl) (by kernel_rfl) (by kernel_rfl) (fun _ _ _ h => h) ?hwa1 ?hya1 hHeld ?resta1
    case hia1 => (simp only [List.getElem?_toArray, List.getElem?_cons_zero]; rfl)
    case hwa1 => rfl
    case hya1 => (intro w hSw; (try dsimp only at hSw); go_simp; try with_reducible rfl)
    try simp only [Act.put, List.setIfInBounds_toArray, List.set_cons_zero, List.set_cons_succ]
    refine' takeY (i := 1) (oi := _) (v := _) ?hia2 (by kernel_rfl) (by kernel_rfl) (by kernel_rfl) (fun _ _ _ h => h) ?hwa2 ?hya2 hHeld ?resta2
    case hia2 => (simp only [List.getElem?_toArray, List.getElem?_cons_succ, List.getElem?_cons_zero]; rfl)
    case hwa2 => rfl
    case hya2 => (intro w hSw; (try dsimp only at hSw); go_simp; try with_reducible rfl)
    try simp only [Act.put, List.setIfInBounds_toArray, List.set_cons_zero, List.set_cons_succ]
    refine' takeY (i := 2) (oi := _) (v := _) ?hia3 (by kernel_rfl) (by kernel_rfl) (by kernel_rfl) (fun _ _ _ h => h) ?hwa3 ?hya3 hHeld ?resta3
    case hia3 => (simp only [List.getElem?_toArray, List.getElem?_cons_succ, List.getElem?_cons_zero]; rfl)
    case hwa3 => rfl
    case hya3 => (intro w hSw; (try dsimp only at hSw); go_simp; try with_reducible rfl)
    try simp only [Act.put, List.setIfInBounds_toArray, List.set_cons_zero, List.set_cons_succ]
    refine' takeY (i := 3) (oi := _) (v := _) ?hia4 (by kernel_rfl) (by kernel_rfl) (by kernel_rfl) (fun _ _ _ h => h) ?hwa4 ?hya4 hHeld ?resta4
    case hia4 => (simp only [List.getElem?_toArray, List.getElem?_cons_succ, List.getElem?_cons_zero]; rfl)
    case hwa4 => rfl
    case hya4 => (intro w hSw; (try dsimp only at hSw); go_simp; try with_reducible rfl)
    try simp only [Act.put, List.setIfInBounds_toArray, List.set_cons_zero, List.set_cons_succ]
    refine' takeY (i := 5) (oi := _) (v := _) ?hia5 (by kernel_rfl) (by kernel_rfl) (by kernel_rfl) (fun _ _ _ h => h) ?hwa5 ?hya5 hHeld ?resta5
    case hia5 => (simp only [List.getElem?_toArray, List.getElem?_cons_succ, List.getElem?_cons_zero]; rfl)
    case hwa5 => rfl
    case hya5 => (intro w hSw; (try dsimp only at hSw); go_simp; try with_reducible rfl)
    try simp only [Act.put, List.setIfInBounds_toArray, List.set_cons_zero, List.set_cons_succ]
    refine' takeY (i := 6) (oi := _) (v := _) ?hia6 (by kernel_rfl) (by kernel_rfl) (by kernel_rfl) (fun _ _ _ h => h) ?hwa6 ?hya6 hHeld ?resta6
    case hia6 => (simp only [List.getElem?_toArray, List.getElem?_cons_succ, List.getElem?_cons_zero]; rfl)
    case hwa6 => rfl
    case hya6 => (intro w hSw; (try dsimp only at hSw); go_simp; try with_reducible rfl)
    try simp only [Act.put, List.setIfInBounds_toArray, List.set_cons_zero, List.set_cons_succ]
    refine' takeY (i := 7) (oi := _) (v := _) ?hia7 (by kernel_rfl) (by kernel_rfl) (by kernel_rfl) (fun _ _ _ h => h) ?hwa7 ?hya7 hHeld ?resta7
    case hia7 => (simp only [List.getElem?_toArray, List.getElem?_cons_succ, List.getElem?_cons_zero]; rfl)
    case hwa7 => rfl
    case hya7 => (intro w hSw; (try dsimp only at hSw); go_simp; try with_reducible rfl)
    try simp only [Act.put, List.setIfInBounds_toArray, List.set_cons_zero, List.set_cons_succ]
    refine' takeY (i := 8) (oi := _) (v := _) ?hia8 (by kernel_rfl) (by kernel_rfl) (by kernel_rfl) (fun _ _ _ h => h) ?hwa8 ?hya8 hHeld ?resta8
    case hia8 => (simp only [List.getElem?_toArray, List.getElem?_cons_succ, List.getElem?_cons_zero]; rfl)
    case hwa8 => rfl
    case hya8 => (intro w hSw; (try dsimp only at hSw); go_simp; try with_reducible rfl)
    try simp only [Act.put, List.setIfInBounds_toArray, List.set_cons_zero, List.set_cons_succ]
    refine' takeY (i := 10) (oi := _) (v := _) ?hia9 (by kernel_rfl) (by kernel_rfl) (by kernel_rfl) (fun _ _ _ h => h) ?hwa9 ?hya9 hHeld ?resta9
    case hia9 => (simp only [List.getElem?_toArray, List.getElem?_cons_succ, List.getElem?_cons_zero]; rfl)
    case hwa9 => rfl
    case hya9 => (intro w hSw; (try dsimp only at hSw); go_simp; try with_reducible rfl)
    try simp only [Act.put, List.setIfInBounds_toArray, List.set_cons_zero, List.set_cons_succ]
    refine' takeY (i := 11) (oi := _) (v := _) ?hia10 (by kernel_rfl) (by kernel_rfl) (by kernel_rfl) (fun _ _ _ h => h) ?hwa10 ?hya10 hHeld ?resta10
    case hia10 => (simp only [List.getElem?_toArray, List.getElem?_cons_succ, List.getElem?_cons_zero]; rfl)
    case hwa10 => rfl
    case hya10 => (intro w hSw; (try dsimp only at hSw); go_simp; try with_reducible rfl)
    try simp only [Act.put, List.setIfInBounds_toArray, List.set_cons_zero, List.set_cons_succ]
    refine' takeY (i := 12) (oi := _) (v := _) ?hia11 (by kernel_rfl) (by kernel_rfl) (by kernel_rfl) (fun _ _ _ h => h) ?hwa11 ?hya11 hHeld ?resta11
    case hia11 => (simp only [List.getElem?_toArray, List.getElem?_cons_succ, List.getElem?_cons_zero]; rfl)
    case hwa11 => rfl
    case hya11 => (intro w hSw; (try dsimp only at hSw); go_simp; try with_reducible rfl)
    try simp only [Act.put, List.setIfInBounds_toArray, List.set_cons_zero, List.set_cons_succ]
    refine' takeY (i := 13) (oi := _) (v := _) ?hia12 (by kernel_rfl) (by kernel_rfl) (by kernel_rfl) (fun _ _ _ h => h) ?hwa12 ?hya12 hHeld ?resta12
    case hia12 => (simp only [List.getElem?_toArray, List.getElem?_cons_succ, List.getElem?_cons_zero]; rfl)
    case hwa12 => rfl
    case hya12 => (intro w hSw; (try dsimp only at hSw); go_simp; try with_reducible rfl)
    try simp only [Act.put, List.setIfInBounds_toArray, List.set_cons_zero, List.set_cons_succ]
    refine wpAnyH_ready (rs := [4]) (by kernel_rfl) (by simp) ?_
    refine' AllReadyH.cons (o := _) ?hia13 (fun K hK => ?stepa13) (AllReadyH.nil)
    case hia13 => (simp only [List.getElem?_toArray, List.getElem?_cons_succ, List.getElem?_cons_zero]; rfl)
    case stepa13 =>
      go_simp
      (go_at_call 19; (with_reducible refine (pquanta_any none 0 0 R id _ (A.out.below BW.out) MS.out).mono ?_); rintro e v4 ⟨rfl, hb⟩; dsimp only; rw [HQ.out.1]; have BW := Lib.hid (below_next BW.out hb); clear hb)
      go_wp2_with fail
      clear hHeld
      refine hK.out _ _ (trivial) (fun hHeld => ?_)
      clear hK K
      try simp only [Act.put, List.setIfInBounds_toArray, List.set_cons_zero, List.set_cons_succ]
      refine wpAnyH_ready (rs := [9]) (by kernel_rfl) (by simp) ?_
      refine' AllReadyH.cons (o := _) ?hia14 (fun K hK => ?stepa14) (AllReadyH.nil)
      case hia14 => (simp only [List.getElem?_toArray, List.getElem?_cons_succ, List.getElem?_cons_zero]; rfl)
      case stepa14 =>
        go_simp
        (go_at_call 19; (with_reducible refine (pquanta_any none 0 0 (R.take 0) id _ (T.out.below BW.out) (take_small MS.out 0)).mono ?_); rintro e v9 ⟨rfl, hb⟩; dsimp only; rw [HQ.out.2.1]; have BW := Lib.hid (below_next BW.out hb); clear hb)
        go_wp2_with fail
        clear hHeld
        refine hK.out _ _ (trivial) (fun hHeld => ?_)
        clear hK K
        try simp only [Act.put, List.setIfInBounds_toArray, List.set_cons_zero, List.set_cons_succ]
        refine wpAnyH_ready (rs := [14]) (by kernel_rfl) (by simp) ?_
        refine' AllReadyH.cons (o := _) ?hia15 (fun K hK => ?stepa15) (AllReadyH.nil)
        case hia15 => (simp only [List.getElem?_toArray, List.getElem?_cons_succ, List.getElem?_cons_zero]; rfl)
        case stepa15 =>
          go_simp
          (go_at_call 19; (with_reducible refine (pquanta_any none (0) (0) (R.drop 0) id _ (D.out.below BW.out) (drop_small MS.out 0)).mono ?_); rintro e v14 ⟨rfl, hb⟩; dsimp only; rw [HQ.out.2.2]; have BW := Lib.hid (below_next BW.out hb); clear hb)
          go_wp2_with fail
          clear hHeld
          refine hK.out _ _ (trivial) (fun hHeld => ?_)
          clear hK K
          try simp only [Act.put, List.setIfInBounds_toArray, List.set_cons_zero, List.set_cons_succ]
          refine' takeY (i := 15) (oi := _) (v := _) ?hia16 (by kernel_rfl) (by kernel_rfl) (by kernel_rfl) (fun _ _ _ h => h) ?hwa16 ?hya16 hHeld ?resta16
          case hia16 => (simp only [List.getElem?_toArray, List.getElem?_cons_succ, List.getElem?_cons_zero]; rfl)
          case hwa16 => rfl
          case hya16 => (intro w hSw; (try dsimp only at hSw); go_simp; try with_reducible rfl)
          try simp only [Act.put, List.setIfInBounds_toArray, List.set_cons_zero, List.set_cons_succ]
          refine' takeY (i := 16) (oi := _) (v := _) ?hia17 (by kernel_rfl) (by kernel_rfl) (by kernel_rfl) (fun _ _ _ h => h) ?hwa17 ?hya17 hHeld ?resta17
          case hia17 => (simp only [List.getElem?_toArray, List.getElem?_cons_succ, List.getElem?_cons_zero]; rfl)
          case hwa17 => rfl
          case hya17 => (intro w hSw; (try dsimp only at hSw); go_simp; try with_reducible rfl)
          try simp only [Act.put, List.setIfInBounds_toArray, List.set_cons_zero, List.set_cons_succ]
          refine' takeY (i := 17) (oi := _) (v := _) ?hia18 (by kernel_rfl) (by kernel_rfl) (by kernel_rfl) (fun _ _ _ h => h) ?hwa18 ?hya18 hHeld ?resta18
          case hia18 => (simp only [List.getElem?_toArray, List.getElem?_cons_succ, List.getElem?_cons_zero]; rfl)
          case hwa18 => rfl
          case hya18 => (intro w hSw; (try dsimp only at hSw); go_simp; try with_reducible rfl)
          try simp only [Act.put, List.setIfInBounds_toArray, List.set_cons_zero, List.set_cons_succ]
          refine' takeY (i := 18) (oi := _) (v := _) ?hia19 (by kernel_rfl) (by kernel_rfl) (by kernel_rfl) (fun _ _ _ h => h) ?hwa19 ?hya19 hHeld ?resta19
          case hia19 => (simp only [List.getElem?_toArray, List.getElem?_cons_succ, List.getElem?_cons_zero]; rfl)
          case hwa19 => rfl
          case hya19 => (intro w hSw; (try dsimp only at hSw); go_simp; try with_reducible rfl)
          try simp only [Act.put, List.setIfInBounds_toArray, List.set_cons_zero, List.set_cons_succ]
          refine' takeY (i := 19) (oi := _) (v := _) ?hia20 (by kernel_rfl) (by kernel_rfl) (by kernel_rfl) (fun _ _ _ h => h) ?hwa20 ?hya20 hHeld ?resta20
          case hia20 => (simp only [List.getElem?_toArray, List.getElem?_cons_succ, List.getElem?_cons_zero]; rfl)
          case hwa20 => rfl
          case hya20 => (intro w hSw; (try dsimp only at hSw); go_simp; try with_reducible rfl)
          try simp only [Act.put, List.setIfInBounds_toArray, List.set_cons_zero, List.set_cons_succ]
          refine' takeY (i := 21) (oi := _) (v := _) ?hia21 (by kernel_rfl) (by kernel_rfl) (by kernel_rfl) (fun _ _ _ h => h) ?hwa21 ?hya21 hHeld ?resta21
          case hia21 => (simp only [List.getElem?_toArray, List.getElem?_cons_succ, List.getElem?_cons_zero]; rfl)
          case hwa21 => rfl
          case hya21 => (intro w hSw; (try dsimp only at hSw); go_simp; try with_reducible rfl)
          try simp only [Act.put, List.setIfInBounds_toArray, List.set_cons_zero, List.set_cons_succ]
          refine' takeY (i := 22) (oi := _) (v := _) ?hia22 (by kernel_rfl) (by kernel_rfl) (by kernel_rfl) (fun _ _ _ h => h) ?hwa22 ?hya22 hHeld ?resta22
          case hia22 => (simp only [List.getElem?_toArray, List.getElem?_cons_succ, List.getElem?_cons_zero]; rfl)
          case hwa22 => rfl
          case hya22 => (intro w hSw; (try dsimp only at hSw); go_simp; try with_reducible rfl)
          try simp only [Act.put, List.setIfInBounds_toArray, List.set_cons_zero, List.set_cons_succ]
          refine' takeY (i := 23) (oi := _) (v := _) ?hia23 (by kernel_rfl) (by kernel_rfl) (by kernel_rfl) (fun _ _ _ h => h) ?hwa23 ?hya23 hHeld ?resta23
          case hia23 => (simp only [List.getElem?_toArray, List.getElem?_cons_succ, List.getElem?_cons_zero]; rfl)
          case hwa23 => rfl
          case hya23 => (intro w hSw; (try dsimp only at hSw); go_simp; try with_reducible rfl)
          try simp only [Act.put, List.setIfInBounds_toArray, List.set_cons_zero, List.set_cons_succ]
          refine' takeY (i := 25) (oi := _) (v := _) ?hia24 (by kernel_rfl) (by kernel_rfl) (by kernel_rfl) (fun _ _ _ h => h) ?hwa24 ?hya24 hHeld ?resta24
          case hia24 => (simp only [List.getElem?_toArray, List.getElem?_cons_succ, List.getElem?_cons_zero]; rfl)
          case hwa24 => rfl
          case hya24 => (intro w hSw; (try dsimp only at hSw); go_simp; try with_reducible rfl)
          try simp only [Act.put, List.setIfInBounds_toArray, List.set_cons_zero, List.set_cons_succ]
          refine' takeY (i := 26) (oi := _) (v := _) ?hia25 (by kernel_rfl) (by kernel_rfl) (by kernel_rfl) (fun _ _ _ h => h) ?hwa25 ?hya25 hHeld ?resta25
          case hia25 => (simp only [List.getElem?_toArray, List.getElem?_cons_succ, List.getElem?_cons_zero]; rfl)
          case hwa25 => rfl
          case hya25 => (intro w hSw; (try dsimp only at hSw); go_simp; try with_reducible rfl)
          try simp only [Act.put, List.setIfInBounds_toArray, List.set_cons_zero, List.set_cons_succ]
          refine' takeY (i := 27) (oi := _) (v := _) ?hia26 (by kernel_rfl) (by kernel_rfl) (by kernel_rfl) (fun _ _ _ h => h) ?hwa26 ?hya26 hHeld ?resta26
          case hia26 => (simp only [List.getElem?_toArray, List.getElem?_cons_succ, List.getElem?_cons_zero]; rfl)
          case hwa26 => rfl
          case hya26 => (intro w hSw; (try dsimp only at hSw); go_simp; try with_reducible rfl)
          try simp only [Act.put, List.setIfInBounds_toArray, List.set_cons_zero, List.set_cons_succ]
          refine wpAnyH_ready (rs := [20]) (by kernel_rfl) (by simp) ?_
          refine' AllReadyH.cons (o := _) ?hia27 (fun K hK => ?stepa27) (AllReadyH.nil)
          case hia27 => (simp only [List.getElem?_toArray, List.getElem?_cons_succ, List.getElem?_cons_zero]; rfl)
          case stepa27 =>
            go_simp
            (go_at_call 18; (with_reducible refine (pempty_any none 0 0 R 64 _ (A.out.below BW.out) MS.out).mono ?_); rintro e v20 ⟨rfl, hb⟩; dsimp only; rw [HE.out.1]; have BW := Lib.hid (below_next BW.out hb); clear hb)
            go_wp2_with fail
            clear hHeld
            refine hK.out _ _ (trivial) (fun hHeld => ?_)
            clear hK K
            try simp only [Act.put, List.setIfInBounds_toArray, List.set_cons_zero, List.set_cons_succ]
            refine wpAnyH_ready (rs := [24]) (by kernel_rfl) (by simp) ?_
            refine' AllReadyH.cons (o := _) ?hia28 (fun K hK => ?stepa28) (AllReadyH.nil)
            case hia28 => (simp only [List.getElem?_toArray, List.getElem?_cons_succ, List.getElem?_cons_zero]; rfl)
            case stepa28 =>
              go_simp
              (go_at_call 18; (with_reducible refine (pempty_any none 0 0 (R.take 0) 64 _ (T.out.below BW.out) (take_small MS.out 0)).mono ?_); rintro e v24 ⟨rfl, hb⟩; dsimp only; rw [HE.out.2.1]; have BW := Lib.hid (below_next BW.out hb); clear hb)
              go_wp2_with fail
              clear hHeld
              refine hK.out _ _ (trivial) (fun hHeld => ?_)
              clear hK K
              try simp only [Act.put, List.setIfInBounds_toArray, List.set_cons_zero, List.set_cons_succ]
              refine wpAnyH_ready (rs := [28]) (by kernel_rfl) (by simp) ?_
              refine' AllReadyH.cons (o := _) ?hia29 (fun K hK => ?stepa29) (AllReadyH.nil)
              case hia29 => (simp only [List.getElem?_toArray, List.getElem?_cons_succ, List.getElem?_cons_zero]; rfl)
              case stepa29 =>
                go_simp
                (go_at_call 18; (with_reducible refine (pempty_any none (0) (0) (R.drop 0) 64 _ (D.out.below BW.out) (drop_small MS.out 0)).mono ?_); rintro e v28 ⟨rfl, hb⟩; dsimp only; rw [HE.out.2.2]; have BW := Lib.hid (below_next BW.out hb); clear hb)
                go_wp2_with fail
                clear hHeld
                refine hK.out _ _ (trivial) (fun hHeld => ?_)
                clear hK K
                try simp only [Act.put, List.setIfInBounds_toArray, List.set_cons_zero, List.set_cons_succ]
                refine' takeY (i := 29) (oi := _) (v := _) ?hia30 (by kernel_rfl) (by kernel_rfl) (by kernel_rfl) (fun _ _ _ h => h) ?hwa30 ?hya30 hHeld ?resta30
                case hia30 => (simp only [List.getElem?_toArray, List.getElem?_cons_succ, List.getElem?_cons_zero]; rfl)
                case hwa30 => rfl
                case hya30 => (intro w hSw; (try dsimp only at hSw); go_simp; try with_reducible rfl)
                try simp only [Act.put, List.setIfInBounds_toArray, List.set_cons_zero, List.set_cons_succ]
                refine' takeY (i := 30) (oi := _) (v := _) ?hia31 (by kernel_rfl) (by kernel_rfl) (by kernel_rfl) (fun _ _ _ h => h) ?hwa31 ?hya31 hHeld ?resta31
                case hia31 => (simp only [List.getElem?_toArray, List.getElem?_cons_succ, List.getElem?_cons_zero]; rfl)
                case hwa31 => rfl
                case hya31 => (intro w hSw; (try dsimp only at hSw); go_simp; try with_reducible rfl)
                try simp only [Act.put, List.setIfInBounds_toArray, List.set_cons_zero, List.set_cons_succ]
                refine' takeY (i := 31) (oi := _) (v := _) ?hia32 (by kernel_rfl) (by kernel_rfl) (by kernel_rfl) (fun _ _ _ h => h) ?hwa32 ?hya32 hHeld ?resta32
                case hia32 => (simp only [List.getElem?_toArray, List.getElem?_cons_succ, List.getElem?_cons_zero]; rfl)
                case hwa32 => rfl
                case hya32 => (intro w hSw; (try dsimp only at hSw); go_simp; try with_reducible rfl)
                try simp only [Act.put, List.setIfInBounds_toArray, List.set_cons_zero, List.set_cons_succ]
                refine' takeY (i := 32) (oi := _) (v := _) ?hia33 (by kernel_rfl) (by kernel_rfl) (by kernel_rfl) (fun _ _ _ h => h) ?hwa33 ?hya33 hHeld ?resta33
                case hia33 => (simp only [List.getElem?_toArray, List.getElem?_cons_succ, List.getElem?_cons_zero]; rfl)
                case hwa33 => rfl
                case hya33 => (intro w hSw; (try dsimp only at hSw); go_simp; try with_reducible rfl)
                try simp only [Act.put, List.setIfInBounds_toArray, List.set_cons_zero, List.set_cons_succ]
                refine' takeY (i := 33) (oi := _) (v := _) ?hia34 (by kernel_rfl) (by kernel_rfl) (by kernel_rfl) (fun _ _ _ h => h) ?hwa34 ?hya34 hHeld ?resta34
                case hia34 => (simp only [List.getElem?_toArray, List.getElem?_cons_succ, List.getElem?_cons_zero]; rfl)
                case hwa34 => rfl
                case hya34 => (intro w hSw; (try dsimp only at hSw); go_simp; try with_reducible rfl)
                try simp only [Act.put, List.setIfInBounds_toArray, List.set_cons_zero, List.set_cons_succ]
                refine' takeY (i := 34) (oi := _) (v := _) ?hia35 (by kernel_rfl) (by kernel_rfl) (by kernel_rfl) (fun _ _ _ h => h) ?hwa35 ?hya35 hHeld ?resta35
                case hia35 => (simp only [List.getElem?_toArray, List.getElem?_cons_succ, List.getElem?_cons_zero]; rfl)
                case hwa35 => rfl
                case hya35 => (intro w hSw; (try dsimp only at hSw); go_simp; try with_reducible rfl)
                try simp only [Act.put, List.setIfInBounds_toArray, List.set_cons_zero, List.set_cons_succ]
                refine' takeY (i := 36) (oi := _) (v := _) ?hia36 (by kernel_rfl) (by kernel_rfl) (by kernel_rfl) (fun _ _ _ h => h) ?hwa36 ?hya36 hHeld ?resta36
                case hia36 => (simp only [List.getElem?_toArray, List.getElem?_cons_succ, List.getElem?_cons_zero]; rfl)
                case hwa36 => rfl
                case hya36 => (intro w hSw; (try dsimp only at hSw); go_simp; try with_reducible rfl)
                try simp only [Act.put, List.setIfInBounds_toArray, List.set_cons_zero, List.set_cons_succ]
                refine' takeY (i := 37) (oi := _) (v := _) ?hia37 (by kernel_rfl) (by kernel_rfl) (by kernel_rfl) (fun _ _ _ h => h) ?hwa37 ?hya37 hHeld ?resta37
                case hia37 => (simp only [List.getElem?_toArray, List.getElem?_cons_succ, List.getElem?_cons_zero]; rfl)
                case hwa37 => rfl
                case hya37 => (intro w hSw; (try dsimp only at hSw); go_simp; try with_reducible rfl)
                try simp only [Act.put, List.setIfInBounds_toArray, List.set_cons_zero, List.set_cons_succ]
                refine' takeY (i := 38) (oi := _) (v := _) ?hia38 (by kernel_rfl) (by kernel_rfl) (by kernel_rfl) (fun _ _ _ h => h) ?hwa38 ?hya38 hHeld ?resta38
                case hia38 => (simp only [List.getElem?_toArray, List.getElem?_cons_succ, List.getElem?_cons_zero]; rfl)
                case hwa38 => rfl
                case hya38 => (intro w hSw; (try dsimp only at hSw); go_simp; try with_reducible rfl)
                try simp only [Act.put, List.setIfInBounds_toArray, List.set_cons_zero, List.set_cons_succ]
                refine' takeY (i := 39) (oi := _) (v := _) ?hia39 (by kernel_rfl) (by kernel_rfl) (by kernel_rfl) (fun _ _ _ h => h) ?hwa39 ?hya39 hHeld ?resta39
                case hia39 => (simp only [List.getElem?_toArray, List.getElem?_cons_succ, List.getElem?_cons_zero]; rfl)
                case hwa39 => rfl
                case hya39 => (intro w hSw; (try dsimp only at hSw); go_simp; try with_reducible rfl)
                try simp only [Act.put, List.setIfInBounds_toArray, List.set_cons_zero, List.set_cons_succ]
                refine' takeY (i := 42) (oi := _) (v := _) ?hia40 (by kernel_rfl) (by kernel_rfl) (by kernel_rfl) (fun _ _ _ h => h) ?hwa40 ?hya40 hHeld ?resta40
                case hia40 => (simp only [List.getElem?_toArray, List.getElem?_cons_succ, List.getElem?_cons_zero]; rfl)
                case hwa40 => rfl
                case hya40 => (intro w hSw; (try dsimp only at hSw); go_simp; try with_reducible rfl)
                try simp only [Act.put, List.setIfInBounds_toArray, List.set_cons_zero, List.set_cons_succ]
                refine' takeY (i := 43) (oi := _) (v := _) ?hia41 (by kernel_rfl) (by kernel_rfl) (by kernel_rfl) (fun _ _ _ h => h) ?hwa41 ?hya41 hHeld ?resta41
                case hia41 => (simp only [List.getElem?_toArray, List.getElem?_cons_succ, List.getElem?_cons_zero]; rfl)
                case hwa41 => rfl
                case hya41 => (intro w hSw; (try dsimp only at hSw); go_simp; try with_reducible rfl)
                try simp only [Act.put, List.setIfInBounds_toArray, List.set_cons_zero, List.set_cons_succ]
                refine' takeY (i := 44) (oi := _) (v := _) ?hia42 (by kernel_rfl) (by kernel_rfl) (by kernel_rfl) (fun _ _ _ h => h) ?hwa42 ?hya42 hHeld ?resta42
                case hia42 => (simp only [List.getElem?_toArray, List.getElem?_cons_succ, List.getElem?_cons_zero]; rfl)
                case hwa42 => rfl
                case hya42 => (intro w hSw; (try dsimp only at hSw); go_simp; try with_reducible rfl)
                try simp only [Act.put, List.setIfInBounds_toArray, List.set_cons_zero, List.set_cons_succ]
                refine' takeY (i := 45) (oi := _) (v := _) ?hia43 (by kernel_rfl) (by kernel_rfl) (by kernel_rfl) (fun _ _ _ h => h) ?hwa43 ?hya43 hHeld ?resta43
                case hia43 => (simp only [List.getElem?_toArray, List.getElem?_cons_succ, List.getElem?_cons_zero]; rfl)
                case hwa43 => rfl
                case hya43 => (intro w hSw; (try dsimp only at hSw); go_simp; try with_reducible rfl)
                try simp only [Act.put, List.setIfInBounds_toArray, List.set_cons_zero, List.set_cons_succ]
                refine wpAnyH_ready (rs := [35]) (by kernel_rfl) (by simp) ?_
                refine' AllReadyH.cons (o := _) ?hia44 (fun K hK => ?stepa44) (AllReadyH.nil)
                case hia44 => (simp only [List.getElem?_toArray, List.getElem?_cons_succ, List.getElem?_cons_zero]; rfl)
                case stepa44 =>
                  go_simp
                  (go_at_call 20; (with_reducible refine (pmoves_any none 0 0 R id _ (A.out.below BW.out) MS.out).mono ?_); rintro e v35 ⟨rfl, hb⟩; dsimp only; rw [HV.out.1]; have BW := Lib.hid (below_next BW.out hb); clear hb)
                  go_wp2_with fail
                  clear hHeld
                  refine hK.out _ _ (trivial) (fun hHeld => ?_)
                  clear hK K
                  try simp only [Act.put, List.setIfInBounds_toArray, List.set_cons_zero, List.set_cons_succ]
                  refine wpAnyH_ready (rs := [40]) (by kernel_rfl) (by simp) ?_
                  refine' AllReadyH.cons (o := _) ?hia45 (fun K hK => ?stepa45) (AllReadyH.nil)
                  case hia45 => (simp only [List.getElem?_toArray, List.getElem?_cons_succ, List.getElem?_cons_zero]; rfl)
                  case stepa45 =>
                    go_simp
                    (go_at_call 20; (with_reducible refine (pmoves_any none 0 0 (R.take 0) id _ (T.out.below BW.out) (take_small MS.out 0)).mono ?_); rintro e v40 ⟨rfl, hb⟩; dsimp only; rw [HV.out.2.1]; have BW := Lib.hid (below_next BW.out hb); clear hb)
                    go_wp2_with fail
                    clear hHeld
                    refine hK.out _ _ (trivial) (fun hHeld => ?_)
                    clear hK K
                    try simp only [Act.put, List.setIfInBounds_toArray, List.set_cons_zero, List.set_cons_succ]
                    refine' takeY (i := 41) (oi := _) (v := _) ?hia46 (by kernel_rfl) (by kernel_rfl) (by kernel_rfl) (fun _ _ _ h => h) ?hwa46 ?hya46 hHeld ?resta46
                    case hia46 => (simp only [List.getElem?_toArray, List.getElem?_cons_succ, List.getElem?_cons_zero]; rfl)
                    case hwa46 => rfl
                    case hya46 => (intro w hSw; (try dsimp only at hSw); go_simp; try with_reducible rfl)
                    try simp only [Act.put, List.setIfInBounds_toArray, List.set_cons_zero, List.set_cons_succ]
                    refine wpAnyH_ready (rs := [46]) (by kernel_rfl) (by simp) ?_
                    refine' AllReadyH.cons (o := _) ?hia47 (fun K hK => ?stepa47) (AllReadyH.nil)
                    case hia47 => (simp only [List.getElem?_toArray, List.getElem?_cons_succ, List.getElem?_cons_zero]; rfl)
                    case stepa47 =>
                      go_simp
                      (go_at_call 20; (with_reducible refine (pmoves_any none (0) (0) (R.drop 0) id _ (D.out.below BW.out) (drop_small MS.out 0)).mono ?_); rintro e v46 ⟨rfl, hb⟩; dsimp only; rw [HV.out.2.2]; have BW := Lib.hid (below_next BW.out hb); clear hb)
                      go_wp2_with fail
                      clear hHeld
                      refine hK.out _ _ (trivial) (fun hHeld => ?_)
                      clear hK K
                      try simp only [Act.put, List.setIfInBounds_toArray, List.set_cons_zero, List.set_cons_succ]
                      refine' takeY (i := 47) (oi := _) (v := _) ?hia48 (by kernel_rfl) (by kernel_rfl) (by kernel_rfl) (fun _ _ _ h => h) ?hwa48 ?hya48 hHeld ?resta48
                      case hia48 => (simp only [List.getElem?_toArray, List.getElem?_cons_succ, List.getElem?_cons_zero]; rfl)
                      case hwa48 => rfl
                      case hya48 => (intro w hSw; (try dsimp only at hSw); go_simp; try with_reducible rfl)
                      try simp only [Act.put, List.setIfInBounds_toArray, List.set_cons_zero, List.set_cons_succ]
                      refine' takeY (i := 48) (oi := _) (v := _) ?hia49 (by kernel_rfl) (by kernel_rfl) (by kernel_rfl) (fun _ _ _ h => h) ?hwa49 ?hya49 hHeld ?resta49
                      case hia49 => (simp only [List.getElem?_toArray, List.getElem?_cons_succ, List.getElem?_cons_zero]; rfl)
                      case hwa49 => rfl
                      case hya49 => (intro w hSw; (try dsimp only at hSw); go_simp; try with_reducible rfl)
                      try simp only [Act.put, List.setIfInBounds_toArray, List.set_cons_zero, List.set_cons_succ]
                      refine' takeY (i := 49) (oi := _) (v := _) ?hia50 (by kernel_rfl) (by kernel_rfl) (by kernel_rfl) (fun _ _ _ h => h) ?hwa50 ?hya50 hHeld ?resta50
                      case hia50 => (simp only [List.getElem?_toArray, List.getElem?_cons_succ, List.getElem?_cons_zero]; rfl)
                      case hwa50 => rfl
                      case hya50 => (intro w hSw; (try dsimp only at hSw); go_simp; try with_reducible rfl)
                      try simp only [Act.put, List.setIfInBounds_toArray, List.set_cons_zero, List.set_cons_succ]
                      refine' takeY (i := 50) (oi := _) (v := _) ?hia51 (by kernel_rfl) (by kernel_rfl) (by kernel_rfl) (fun _ _ _ h => h) ?hwa51 ?hya51 hHeld ?resta51
                      case hia51 => (simp only [List.getElem?_toArray, List.getElem?_cons_succ, List.getElem?_cons_zero]; rfl)
                      case hwa51 => rfl
                      case hya51 => (intro w hSw; (try dsimp only at hSw); go_simp; try with_reducible rfl)
                      try simp only [Act.put, List.setIfInBounds_toArray, List.set_cons_zero, List.set_cons_succ]
                      refine' takeY (i := 51) (oi := _) (v := _) ?hia52 (by kernel_rfl) (by kernel_rfl) (by kernel_rfl) (fun _ _ _ h => h) ?hwa52 ?hya52 hHeld ?resta52
                      case hia52 => (simp only [List.getElem?_toArray, List.getElem?_cons_succ, List.getElem?_cons_zero]; rfl)
                      case hwa52 => rfl
                      case hya52 => (intro w hSw; (try dsimp only at hSw); go_simp; try with_reducible rfl)
                      try simp only [Act.put, List.setIfInBounds_toArray, List.set_cons_zero, List.set_cons_succ]
                      refine' takeY (i := 52) (oi := _) (v := _) ?hia53 (by kernel_rfl) (by kernel_rfl) (by kernel_rfl) (fun _ _ _ h => h) ?hwa53 ?hya53 hHeld ?resta53
                      case hia53 => (simp only [List.getElem?_toArray, List.getElem?_cons_succ, List.getElem?_cons_zero]; rfl)
                      case hwa53 => rfl
                      case hya53 => (intro w hSw; (try dsimp only at hSw); go_simp; try with_reducible rfl)
                      try simp only [Act.put, List.setIfInBounds_toArray, List.set_cons_zero, List.set_cons_succ]
                      refine' takeY (i := 53) (oi := _) (v := _) ?hia54 (by kernel_rfl) (by kernel_rfl) (by kernel_rfl) (fun _ _ _ h => h) ?hwa54 ?hya54 hHeld ?resta54
                      case hia54 => (simp only [List.getElem?_toArray, List.getElem?_cons_succ, List.getElem?_cons_zero]; rfl)
                      case hwa54 => rfl
                      case hya54 => (intro w hSw; (try dsimp only at hSw); go_simp; try with_reducible rfl)
                      try simp only [Act.put, List.setIfInBounds_toArray, List.set_cons_zero, List.set_cons_succ]
                      refine wpAnyH_ready (rs := [54]) (by kernel_rfl) (by simp) ?_
                      refine' AllReadyH.cons (o := _) ?hia55 (fun K hK => ?stepa55) (AllReadyH.nil)
                      case hia55 => (simp only [List.getElem?_toArray, List.getElem?_cons_succ, List.getElem?_cons_zero]; rfl)
                      case stepa55 =>
                        go_simp
                        (go_at_call 17; (with_reducible refine (prow_any none (0) (0) (R.drop 0) 64 _ (D.out.below BW.out)).mono ?_); rintro e v54 ⟨rfl, hb⟩; dsimp only; rw [PR.out]; have BW := Lib.hid (below_next BW.out hb); clear hb)
                        go_wp2_with fail
                        clear hHeld
                        refine hK.out _ _ (trivial) (fun hHeld => ?_)
                        clear hK K
                        try simp only [Act.put, List.setIfInBounds_toArray, List.set_cons_zero, List.set_cons_succ]
                        refine' takeY (i := 55) (oi := _) (v := _) ?hia56 (by kernel_rfl) (by kernel_rfl) (by kernel_rfl) (fun _ _ _ h => h) ?hwa56 ?hya56 hHeld ?resta56
                        case hia56 => (simp only [List.getElem?_toArray, List.getElem?_cons_succ, List.getElem?_cons_zero]; rfl)
                        case hwa56 => rfl
                        case hya56 => (intro w hSw; (try dsimp only at hSw); go_simp; try with_reducible rfl)
                        try simp only [Act.put, List.setIfInBounds_toArray, List.set_cons_zero, List.set_cons_succ]
                        refine' takeY (i := 56) (oi := _) (v := _) ?hia57 (by kernel_rfl) (by kernel_rfl) (by kernel_rfl) (fun _ _ _ h => h) ?hwa57 ?hya57 hHeld ?resta57
                        case hia57 => (simp only [List.getElem?_toArray, List.getElem?_cons_succ, List.getElem?_cons_zero]; rfl)
                        case hwa57 => rfl
                        case hya57 => (intro w hSw; (try dsimp only at hSw); go_simp; try with_reducible rfl)
                        try simp only [Act.put, List.setIfInBounds_toArray, List.set_cons_zero, List.set_cons_succ]
                        refine' takeY (i := 57) (oi := _) (v := _) ?hia58 (by kernel_rfl) (by kernel_rfl) (by kernel_rfl) (fun _ _ _ h => h) ?hwa58 ?hya58 hHeld ?resta58
                        case hia58 => (simp only [List.getElem?_toArray, List.getElem?_cons_succ, List.getElem?_cons_zero]; rfl)
                        case hwa58 => rfl
                        case hya58 => (intro w hSw; (try dsimp only at hSw); go_simp; try with_reducible rfl)
                        try simp only [Act.put, List.setIfInBounds_toArray, List.set_cons_zero, List.set_cons_succ]
                        refine' takeY (i := 58) (oi := _) (v := _) ?hia59 (by kernel_rfl) (by kernel_rfl) (by kernel_rfl) (fun _ _ _ h => h) ?hwa59 ?hya59 hHeld ?resta59
                        case hia59 => (simp only [List.getElem?_toArray, List.getElem?_cons_succ, List.getElem?_cons_zero]; rfl)
                        case hwa59 => rfl
                        case hya59 => (intro w hSw; (try dsimp only at hSw); go_simp; try with_reducible rfl)
                        try simp only [Act.put, List.setIfInBounds_toArray, List.set_cons_zero, List.set_cons_succ]
                        refine' takeY (i := 60) (oi := _) (v := _) ?hia60 (by kernel_rfl) (by kernel_rfl) (by kernel_rfl) (fun _ _ _ h => h) ?hwa60 ?hya60 hHeld ?resta60
                        case hia60 => (simp only [List.getElem?_toArray, List.getElem?_cons_succ, List.getElem?_cons_zero]; rfl)
                        case hwa60 => rfl
                        case hya60 => (intro w hSw; (try dsimp only at hSw); go_simp; try with_reducible rfl)
                        try simp only [Act.put, List.setIfInBounds_toArray, List.set_cons_zero, List.set_cons_succ]
                        refine' takeY (i := 61) (oi := _) (v := _) ?hia61 (by kernel_rfl) (by kernel_rfl) (by kernel_rfl) (fun _ _ _ h => h) ?hwa61 ?hya61 hHeld ?resta61
                        case hia61 => (simp only [List.getElem?_toArray, List.getElem?_cons_succ, List.getElem?_cons_zero]; rfl)
                        case hwa61 => rfl
                        case hya61 => (intro w hSw; (try dsimp only at hSw); go_simp; try with_reducible rfl)
                        try simp only [Act.put, List.setIfInBounds_toArray, List.set_cons_zero, List.set_cons_succ]
                        refine' takeY (i := 62) (oi := _) (v := _) ?hia62 (by kernel_rfl) (by kernel_rfl) (by kernel_rfl) (fun _ _ _ h => h) ?hwa62 ?hya62 hHeld ?resta62
                        case hia62 => (simp only [List.getElem?_toArray, List.getElem?_cons_succ, List.getElem?_cons_zero]; rfl)
                        case hwa62 => rfl
                        case hya62 => (intro w hSw; (try dsimp only at hSw); go_simp; try with_reducible rfl)
                        try simp only [Act.put, List.setIfInBounds_toArray, List.set_cons_zero, List.set_cons_succ]
                        refine' takeY (i := 63) (oi := _) (v := _) ?hia63 (by kernel_rfl) (by kernel_rfl) (by kernel_rfl) (fun _ _ _ h => h) ?hwa63 ?hya63 hHeld ?resta63
                        case hia63 => (simp only [List.getElem?_toArray, List.getElem?_cons_succ, List.getElem?_cons_zero]; rfl)
                        case hwa63 => rfl
                        case hya63 => (intro w hSw; (try dsimp only at hSw); go_simp; try with_reducible rfl)
                        try simp only [Act.put, List.setIfInBounds_toArray, List.set_cons_zero, List.set_cons_succ]
                        refine wpAnyH_ready (rs := [59]) (by kernel_rfl) (by simp) ?_
                        refine' AllReadyH.cons (o := _) ?hia64 (fun K hK => ?stepa64) (AllReadyH.nil)
                        case hia64 => (simp only [List.getElem?_toArray, List.getElem?_cons_succ, List.getElem?_cons_zero]; rfl)
                        case stepa64 =>
                          go_simp
                          (go_at_call 20; (with_reducible refine (pmoves_any none 0 0 R id _ (A.out.below BW.out) MS.out).mono ?_); rintro e v59 ⟨rfl, hb⟩; dsimp only; rw [HV.out.1]; have BW := Lib.hid (below_next BW.out hb); clear hb)
                          go_wp2_with fail
                          clear hHeld
                          refine hK.out _ _ (trivial) (fun hHeld => ?_)
                          clear hK K
                          try simp only [Act.put, List.setIfInBounds_toArray, List.set_cons_zero, List.set_cons_succ]
                          refine wpAnyH_ready (rs := [64]) (by kernel_rfl) (by simp) ?_
                          refine' AllReadyH.cons (o := _) ?hia65 (fun K hK => ?stepa65) (AllReadyH.nil)
                          case hia65 => (simp only [List.getElem?_toArray, List.getElem?_cons_succ, List.getElem?_cons_zero]; rfl)
                          case stepa65 =>
                            go_simp
                            (go_at_call 20; (with_reducible refine (pmoves_any none 0 0 (R.take 0) id _ (T.out.below BW.out) (take_small MS.out 0)).mono ?_); rintro e v64 ⟨rfl, hb⟩; dsimp only; rw [HV.out.2.1]; have BW := Lib.hid (below_next BW.out hb); clear hb)
                            go_wp2_with fail
                            clear hHeld
                            refine hK.out _ _ (trivial) (fun hHeld => ?_)
                            clear hK K
                            try simp only [Act.put, List.setIfInBounds_toArray, List.set_cons_zero, List.set_cons_succ]
                            refine' takeY (i := 65) (oi := _) (v := _) ?hia66 (by kernel_rfl) (by kernel_rfl) (by kernel_rfl) (fun _ _ _ h => h) ?hwa66 ?hya66 hHeld ?resta66
                            case hia66 => (simp only [List.getElem?_toArray, List.getElem?_cons_succ, List.getElem?_cons_zero]; rfl)
                            case hwa66 => rfl
                            case hya66 => (intro w hSw; (try dsimp only at hSw); go_simp; try with_reducible rfl)
                            try simp only [Act.put, List.setIfInBounds_toArray, List.set_cons_zero, List.set_cons_succ]
                            refine' takeY (i := 66) (oi := _) (v := _) ?hia67 (by kernel_rfl) (by kernel_rfl) (by kernel_rfl) (fun _ _ _ h => h) ?hwa67 ?hya67 hHeld ?resta67
                            case hia67 => (simp only [List.getElem?_toArray, List.getElem?_cons_succ, List.getElem?_cons_zero]; rfl)
                            case hwa67 => rfl
                            case hya67 => (intro w hSw; (try dsimp only at hSw); go_simp; try with_reducible rfl)
                            try simp only [Act.put, List.setIfInBounds_toArray, List.set_cons_zero, List.set_cons_succ]
                            refine' takeY (i := 67) (oi := _) (v := _) ?hia68 (by kernel_rfl) (by kernel_rfl) (by kernel_rfl) (fun _ _ _ h => h) ?hwa68 ?hya68 hHeld ?resta68
                            case hia68 => (simp only [List.getElem?_toArray, List.getElem?_cons_succ, List.getElem?_cons_zero]; rfl)
                            case hwa68 => rfl
                            case hya68 => (intro w hSw; (try dsimp only at hSw); go_simp; try with_reducible rfl)
                            try simp only [Act.put, List.setIfInBounds_toArray, List.set_cons_zero, List.set_cons_succ]
                            refine wpAnyH_done (by kernel_rfl) ?_ _
                            refine NoPanic.normal ?_
                            go_wp2
                            go_ret
                            exact ⟨rfl, below_next B.out BW.out⟩
  · clear hz
    have d1 : decide ((0 : Int) < (n : Int)) = true := by simp; omega
    have d1' : decide (0 < n) = true := by simp; omega
    obtain ⟨s, hs, -⟩ := get_of (l := R) (i := 0) (by rw [LN.out]; omega)
    obtain ⟨bb, oo, _, _, _, rfl, -, -, -⟩ := A.out.at hs
    clear hs
    obtain ⟨t0, t1, t2, t3⟩ := tmod2 q0 n (by omega)
    obtain ⟨AA, hA⟩ : ∃ A, q0.tmod (n : Int) = A := ⟨_, rfl⟩
    rw [hA] at t0 t1 t2 t3
    obtain ⟨K, hK⟩ : ∃ K, (AA + (n : Int)).tmod (n : Int) = K := ⟨_, rfl⟩
    have hK2 : (AA + (n : Int)) % (n : Int) = K := by rw [← hK]; exact (Int.tmod_eq_emod_of_nonneg (by omega)).symm
    rw [hK] at t0 t1
    obtain ⟨k, rfl⟩ := Int.eq_ofNat_of_zero_le t0
    have kn : k < n := by omega
    have nz : ¬ (n : Int) = 0 := by omega
    have nz' : ¬ n = 0 := by omega
    have wA : IntKind.i64.wrap (AA + (n : Int)) = AA + (n : Int) := IntWalk.i64_in _ (by omega)
    have k1 : (k : Int) ≤ (ca : Int) := by omega
    have k2 : (k : Int) ≤ (n : Int) := by omega
    have k3 : 0 ≤ (k : Int) := by omega
    have k4 : ¬ ca = k := by omega
    have k5 : (n : Int) ≤ (ca : Int) := by omega
    have PV := Lib.hid (parts_of MR.out k id)
    have T := Lib.hid (show RowK w1 (some ⟨bb, oo, none⟩) k ca (R.take k) from A.out.take (by omega))
    have D := Lib.hid (show RowK w1 (some ⟨bb, oo + k * 2, none⟩) (n - k) (ca - k) (R.drop k) from A.out.drop (by omega))
    have AL := all_take_len R k
    have EA := em_bd2 ml (show 0 ≤ (64 : Int) by omega) (by omega) MF
    have ET := em_bd2 (l := R.take k) (m := 64) (by rw [List.length_take]; omega) (by omega) (by omega) (by omega)
    have ED := em_bd2 (l := R.drop k) (m := 64) (by rw [List.length_drop]; omega) (by omega) (by omega) (by omega)
    have EY := Lib.hid (show emV R 64 = emS R 64 ∧ emV (R.take k) 64 = emS (R.take k) 64 ∧ emV (R.drop k) 64 = emS (R.drop k) 64 from ⟨em_yes MR.out, em_yes (row_take MR.out k), em_yes (row_drop MR.out k)⟩)
    rw [← EY.out.1] at EA
    rw [← EY.out.2.1] at ET
    rw [← EY.out.2.2] at ED
    have QA := qu_le (allR R) id
    have QT := qu_le (allR (R.take k)) id
    have QD := qu_le (allR (R.drop k)) id
    have VA : (mvU (allR R) id).1 ≤ 0 + (allR R).length := mv_le (allR R) id (0, none)
    have VT : (mvU (allR (R.take k)) id).1 ≤ 0 + (allR (R.take k)).length := mv_le _ id (0, none)
    have VD : (mvU (allR (R.drop k)) id).1 ≤ 0 + (allR (R.drop k)).length := mv_le _ id (0, none)
    have B := Lib.hid B2.out
    have PQ := PV.out.q
    have PE := PV.out.e
    have P1 := PV.out.m1
    have P2 := PV.out.m2
    have PR := Lib.hid PV.out.r
    obtain ⟨qa, hqa⟩ : ∃ x, quU (allR R) id = x := ⟨_, rfl⟩
    obtain ⟨qt, hqt⟩ : ∃ x, quU (allR (R.take k)) id = x := ⟨_, rfl⟩
    obtain ⟨qd, hqd⟩ : ∃ x, quU (allR (R.drop k)) id = x := ⟨_, rfl⟩
    obtain ⟨ea, hea⟩ : ∃ x, emV R 64 = x := ⟨_, rfl⟩
    obtain ⟨et, het⟩ : ∃ x, emV (R.take k) 64 = x := ⟨_, rfl⟩
    obtain ⟨ed, hed⟩ : ∃ x, emV (R.drop k) 64 = x := ⟨_, rfl⟩
    obtain ⟨va, hva⟩ : ∃ x, (mvU (allR R) id).1 = x := ⟨_, rfl⟩
    obtain ⟨vt, hvt⟩ : ∃ x, (mvU (allR (R.take k)) id).1 = x := ⟨_, rfl⟩
    obtain ⟨vd, hvd⟩ : ∃ x, (mvU (allR (R.drop k)) id).1 = x := ⟨_, rfl⟩
    rw [hqa, hqt, hqd] at PQ
    rw [hea, het, hed] at PE
    rw [hva, hvt] at P1
    rw [hva, hvt, hvd] at P2
    rw [hqa] at QA
    rw [hqt] at QT
    rw [hqd] at QD
    rw [hea] at EA
    rw [het] at ET
    rw [hed] at ED
    rw [hva] at VA
    rw [hvt] at VT
    rw [hvd] at VD
    have y1 : IntKind.i64.wrap ((qt : Int) + (qd : Int)) = (qt : Int) + (qd : Int) := IntWalk.i64_in _ (by omega)
    have y2 : ((qa : Int) == (qt : Int) + (qd : Int)) = true := by simp; omega
    have y3 : IntKind.i64.wrap (et + ed) = et + ed := IntWalk.i64_in _ (by omega)
    have y4 : (ea == et + ed) = true := by simp; omega
    have y5 : IntKind.i64.wrap ((va : Int) - (vt : Int)) = (va : Int) - (vt : Int) := IntWalk.i64_in _ (by omega)
    have y6 : IntKind.i64.wrap ((va : Int) - (vt : Int) - (vd : Int)) = (va : Int) - (vt : Int) - (vd : Int) := IntWalk.i64_in _ (by omega)
    have y7 : decide ((va : Int) - (vt : Int) - (vd : Int) ≤ 1) = true := by simp; omega
    have y8 : decide ((vt : Int) ≤ (va : Int)) = true := by simp; omega
    have y8' : decide (vt ≤ va) = true := by simp; omega
    have HQ := Lib.hid (And.intro hqa (And.intro hqt hqd))
    have HE := Lib.hid (And.intro hea (And.intro het hed))
    have HV := Lib.hid (And.intro hva (And.intro hvt hvd))
    clear hqa hqt hqd hea het hed hva hvt hvd PQ PE P1 P2 QA QT QD EA ET ED VA VT VD AL MF
    go_upto_region 7 with fail
    try rw [hid]
    clear hid x0 x1 d1 d1' hA hK hK2 t0 t1 t2 t3 nz wA
    simp only [List.append]
    have BW := Lib.hid (show Below w1.heap.size w1 w1.drew from bdN (Below.refl _ _) 1)
    refine wp_region_noPanic ?_
    refine wp_region_held_drew (S := fun w' => True) (by kernel_rfl) (trivial) (fun hHeld => ?_)
    refine' takeY (i := 0) (oi := _) (v := _) ?hic1 (by kernel_rfl) (by kernel_rfl) (by kernel_rfl) (fun _ _ _ h => h) ?hwc1 ?hyc1 hHeld ?restc1
    case hic1 => (simp only [List.getElem?_toArray, List.getElem?_cons_zero]; rfl)
    case hwc1 => rfl
    case hyc1 => (intro w hSw; (try dsimp only at hSw); go_simp; try with_reducible rfl)
    try simp only [Act.put, List.setIfInBounds_toArray, List.set_cons_zero, List.set_cons_succ]
    refine' takeY (i := 1) (oi := _) (v := _) ?hic2 (by kernel_rfl) (by kernel_rfl) (by kernel_rfl) (fun _ _ _ h => h) ?hwc2 ?hyc2 hHeld ?restc2
    case hic2 => (simp only [List.getElem?_toArray, List.getElem?_cons_succ, List.getElem?_cons_zero]; rfl)
    case hwc2 => rfl
    case hyc2 => (intro w hSw; (try dsimp only at hSw); go_simp; try with_reducible rfl)
    try simp only [Act.put, List.setIfInBounds_toArray, List.set_cons_zero, List.set_cons_succ]
    refine' takeY (i := 2) (oi := _) (v := _) ?hic3 (by kernel_rfl) (by kernel_rfl) (by kernel_rfl) (fun _ _ _ h => h) ?hwc3 ?hyc3 hHeld ?restc3
    case hic3 => (simp only [List.getElem?_toArray, List.getElem?_cons_succ, List.getElem?_cons_zero]; rfl)
    case hwc3 => rfl
    case hyc3 => (intro w hSw; (try dsimp only at hSw); go_simp; try with_reducible rfl)
    try simp only [Act.put, List.setIfInBounds_toArray, List.set_cons_zero, List.set_cons_succ]
    refine' takeY (i := 3) (oi := _) (v := _) ?hic4 (by kernel_rfl) (by kernel_rfl) (by kernel_rfl) (fun _ _ _ h => h) ?hwc4 ?hyc4 hHeld ?restc4
    case hic4 => (simp only [List.getElem?_toArray, List.getElem?_cons_succ, List.getElem?_cons_zero]; rfl)
    case hwc4 => rfl
    case hyc4 => (intro w hSw; (try dsimp only at hSw); go_simp; try with_reducible rfl)
    try simp only [Act.put, List.setIfInBounds_toArray, List.set_cons_zero, List.set_cons_succ]
    refine' takeY (i := 5) (oi := _) (v := _) ?hic5 (by kernel_rfl) (by kernel_rfl) (by kernel_rfl) (fun _ _ _ h => h) ?hwc5 ?hyc5 hHeld ?restc5
    case hic5 => (simp only [List.getElem?_toArray, List.getElem?_cons_succ, List.getElem?_cons_zero]; rfl)
    case hwc5 => rfl
    case hyc5 => (intro w hSw; (try dsimp only at hSw); go_simp; try with_reducible rfl)
    try simp only [Act.put, List.setIfInBounds_toArray, List.set_cons_zero, List.set_cons_succ]
    refine' takeY (i := 6) (oi := _) (v := _) ?hic6 (by kernel_rfl) (by kernel_rfl) (by kernel_rfl) (fun _ _ _ h => h) ?hwc6 ?hyc6 hHeld ?restc6
    case hic6 => (simp only [List.getElem?_toArray, List.getElem?_cons_succ, List.getElem?_cons_zero]; rfl)
    case hwc6 => rfl
    case hyc6 => (intro w hSw; (try dsimp only at hSw); go_simp; try with_reducible rfl)
    try simp only [Act.put, List.setIfInBounds_toArray, List.set_cons_zero, List.set_cons_succ]
    refine' takeY (i := 7) (oi := _) (v := _) ?hic7 (by kernel_rfl) (by kernel_rfl) (by kernel_rfl) (fun _ _ _ h => h) ?hwc7 ?hyc7 hHeld ?restc7
    case hic7 => (simp only [List.getElem?_toArray, List.getElem?_cons_succ, List.getElem?_cons_zero]; rfl)
    case hwc7 => rfl
    case hyc7 => (intro w hSw; (try dsimp only at hSw); go_simp; try with_reducible rfl)
    try simp only [Act.put, List.setIfInBounds_toArray, List.set_cons_zero, List.set_cons_succ]
    refine' takeY (i := 8) (oi := _) (v := _) ?hic8 (by kernel_rfl) (by kernel_rfl) (by kernel_rfl) (fun _ _ _ h => h) ?hwc8 ?hyc8 hHeld ?restc8
    case hic8 => (simp only [List.getElem?_toArray, List.getElem?_cons_succ, List.getElem?_cons_zero]; rfl)
    case hwc8 => rfl
    case hyc8 => (intro w hSw; (try dsimp only at hSw); go_simp; try with_reducible rfl)
    try simp only [Act.put, List.setIfInBounds_toArray, List.set_cons_zero, List.set_cons_succ]
    refine' takeY (i := 10) (oi := _) (v := _) ?hic9 (by kernel_rfl) (by kernel_rfl) (by kernel_rfl) (fun _ _ _ h => h) ?hwc9 ?hyc9 hHeld ?restc9
    case hic9 => (simp only [List.getElem?_toArray, List.getElem?_cons_succ, List.getElem?_cons_zero]; rfl)
    case hwc9 => rfl
    case hyc9 => (intro w hSw; (try dsimp only at hSw); go_simp; try with_reducible rfl)
    try simp only [Act.put, List.setIfInBounds_toArray, List.set_cons_zero, List.set_cons_succ]
    refine' takeY (i := 11) (oi := _) (v := _) ?hic10 (by kernel_rfl) (by kernel_rfl) (by kernel_rfl) (fun _ _ _ h => h) ?hwc10 ?hyc10 hHeld ?restc10
    case hic10 => (simp only [List.getElem?_toArray, List.getElem?_cons_succ, List.getElem?_cons_zero]; rfl)
    case hwc10 => rfl
    case hyc10 => (intro w hSw; (try dsimp only at hSw); go_simp; try with_reducible rfl)
    try simp only [Act.put, List.setIfInBounds_toArray, List.set_cons_zero, List.set_cons_succ]
    refine' takeY (i := 12) (oi := _) (v := _) ?hic11 (by kernel_rfl) (by kernel_rfl) (by kernel_rfl) (fun _ _ _ h => h) ?hwc11 ?hyc11 hHeld ?restc11
    case hic11 => (simp only [List.getElem?_toArray, List.getElem?_cons_succ, List.getElem?_cons_zero]; rfl)
    case hwc11 => rfl
    case hyc11 => (intro w hSw; (try dsimp only at hSw); go_simp; try with_reducible rfl)
    try simp only [Act.put, List.setIfInBounds_toArray, List.set_cons_zero, List.set_cons_succ]
    refine' takeY (i := 13) (oi := _) (v := _) ?hic12 (by kernel_rfl) (by kernel_rfl) (by kernel_rfl) (fun _ _ _ h => h) ?hwc12 ?hyc12 hHeld ?restc12
    case hic12 => (simp only [List.getElem?_toArray, List.getElem?_cons_succ, List.getElem?_cons_zero]; rfl)
    case hwc12 => rfl
    case hyc12 => (intro w hSw; (try dsimp only at hSw); go_simp; try with_reducible rfl)
    try simp only [Act.put, List.setIfInBounds_toArray, List.set_cons_zero, List.set_cons_succ]
    refine wpAnyH_ready (rs := [4]) (by kernel_rfl) (by simp) ?_
    refine' AllReadyH.cons (o := _) ?hic13 (fun K hK => ?stepc13) (AllReadyH.nil)
    case hic13 => (simp only [List.getElem?_toArray, List.getElem?_cons_succ, List.getElem?_cons_zero]; rfl)
    case stepc13 =>
      go_simp
      (go_at_call 19; (with_reducible refine (pquanta_any (some ⟨bb, oo, none⟩) n ca R id _ (A.out.below BW.out) MS.out).mono ?_); rintro e v4 ⟨rfl, hb⟩; dsimp only; rw [HQ.out.1]; have BW := Lib.hid (below_next BW.out hb); clear hb)
      go_wp2_with fail
      clear hHeld
      refine hK.out _ _ (trivial) (fun hHeld => ?_)
      clear hK K
      try simp only [Act.put, List.setIfInBounds_toArray, List.set_cons_zero, List.set_cons_succ]
      refine wpAnyH_ready (rs := [9]) (by kernel_rfl) (by simp) ?_
      refine' AllReadyH.cons (o := _) ?hic14 (fun K hK => ?stepc14) (AllReadyH.nil)
      case hic14 => (simp only [List.getElem?_toArray, List.getElem?_cons_succ, List.getElem?_cons_zero]; rfl)
      case stepc14 =>
        go_simp
        (go_at_call 19; (with_reducible refine (pquanta_any (some ⟨bb, oo, none⟩) k ca (R.take k) id _ (T.out.below BW.out) (take_small MS.out k)).mono ?_); rintro e v9 ⟨rfl, hb⟩; dsimp only; rw [HQ.out.2.1]; have BW := Lib.hid (below_next BW.out hb); clear hb)
        go_wp2_with fail
        clear hHeld
        refine hK.out _ _ (trivial) (fun hHeld => ?_)
        clear hK K
        try simp only [Act.put, List.setIfInBounds_toArray, List.set_cons_zero, List.set_cons_succ]
        refine wpAnyH_ready (rs := [14]) (by kernel_rfl) (by simp) ?_
        refine' AllReadyH.cons (o := _) ?hic15 (fun K hK => ?stepc15) (AllReadyH.nil)
        case hic15 => (simp only [List.getElem?_toArray, List.getElem?_cons_succ, List.getElem?_cons_zero]; rfl)
        case stepc15 =>
          go_simp
          (go_at_call 19; (with_reducible refine (pquanta_any (some ⟨bb, oo + k * 2, none⟩) (n - k) (ca - k) (R.drop k) id _ (D.out.below BW.out) (drop_small MS.out k)).mono ?_); rintro e v14 ⟨rfl, hb⟩; dsimp only; rw [HQ.out.2.2]; have BW := Lib.hid (below_next BW.out hb); clear hb)
          go_wp2_with fail
          clear hHeld
          refine hK.out _ _ (trivial) (fun hHeld => ?_)
          clear hK K
          try simp only [Act.put, List.setIfInBounds_toArray, List.set_cons_zero, List.set_cons_succ]
          refine' takeY (i := 15) (oi := _) (v := _) ?hic16 (by kernel_rfl) (by kernel_rfl) (by kernel_rfl) (fun _ _ _ h => h) ?hwc16 ?hyc16 hHeld ?restc16
          case hic16 => (simp only [List.getElem?_toArray, List.getElem?_cons_succ, List.getElem?_cons_zero]; rfl)
          case hwc16 => rfl
          case hyc16 => (intro w hSw; (try dsimp only at hSw); go_simp; try with_reducible rfl)
          try simp only [Act.put, List.setIfInBounds_toArray, List.set_cons_zero, List.set_cons_succ]
          refine' takeY (i := 16) (oi := _) (v := _) ?hic17 (by kernel_rfl) (by kernel_rfl) (by kernel_rfl) (fun _ _ _ h => h) ?hwc17 ?hyc17 hHeld ?restc17
          case hic17 => (simp only [List.getElem?_toArray, List.getElem?_cons_succ, List.getElem?_cons_zero]; rfl)
          case hwc17 => rfl
          case hyc17 => (intro w hSw; (try dsimp only at hSw); go_simp; try with_reducible rfl)
          try simp only [Act.put, List.setIfInBounds_toArray, List.set_cons_zero, List.set_cons_succ]
          refine' takeY (i := 17) (oi := _) (v := _) ?hic18 (by kernel_rfl) (by kernel_rfl) (by kernel_rfl) (fun _ _ _ h => h) ?hwc18 ?hyc18 hHeld ?restc18
          case hic18 => (simp only [List.getElem?_toArray, List.getElem?_cons_succ, List.getElem?_cons_zero]; rfl)
          case hwc18 => rfl
          case hyc18 => (intro w hSw; (try dsimp only at hSw); go_simp; try with_reducible rfl)
          try simp only [Act.put, List.setIfInBounds_toArray, List.set_cons_zero, List.set_cons_succ]
          refine' takeY (i := 18) (oi := _) (v := _) ?hic19 (by kernel_rfl) (by kernel_rfl) (by kernel_rfl) (fun _ _ _ h => h) ?hwc19 ?hyc19 hHeld ?restc19
          case hic19 => (simp only [List.getElem?_toArray, List.getElem?_cons_succ, List.getElem?_cons_zero]; rfl)
          case hwc19 => rfl
          case hyc19 => (intro w hSw; (try dsimp only at hSw); go_simp; try with_reducible rfl)
          try simp only [Act.put, List.setIfInBounds_toArray, List.set_cons_zero, List.set_cons_succ]
          refine' takeY (i := 19) (oi := _) (v := _) ?hic20 (by kernel_rfl) (by kernel_rfl) (by kernel_rfl) (fun _ _ _ h => h) ?hwc20 ?hyc20 hHeld ?restc20
          case hic20 => (simp only [List.getElem?_toArray, List.getElem?_cons_succ, List.getElem?_cons_zero]; rfl)
          case hwc20 => rfl
          case hyc20 => (intro w hSw; (try dsimp only at hSw); go_simp; try with_reducible rfl)
          try simp only [Act.put, List.setIfInBounds_toArray, List.set_cons_zero, List.set_cons_succ]
          refine' takeY (i := 21) (oi := _) (v := _) ?hic21 (by kernel_rfl) (by kernel_rfl) (by kernel_rfl) (fun _ _ _ h => h) ?hwc21 ?hyc21 hHeld ?restc21
          case hic21 => (simp only [List.getElem?_toArray, List.getElem?_cons_succ, List.getElem?_cons_zero]; rfl)
          case hwc21 => rfl
          case hyc21 => (intro w hSw; (try dsimp only at hSw); go_simp; try with_reducible rfl)
          try simp only [Act.put, List.setIfInBounds_toArray, List.set_cons_zero, List.set_cons_succ]
          refine' takeY (i := 22) (oi := _) (v := _) ?hic22 (by kernel_rfl) (by kernel_rfl) (by kernel_rfl) (fun _ _ _ h => h) ?hwc22 ?hyc22 hHeld ?restc22
          case hic22 => (simp only [List.getElem?_toArray, List.getElem?_cons_succ, List.getElem?_cons_zero]; rfl)
          case hwc22 => rfl
          case hyc22 => (intro w hSw; (try dsimp only at hSw); go_simp; try with_reducible rfl)
          try simp only [Act.put, List.setIfInBounds_toArray, List.set_cons_zero, List.set_cons_succ]
          refine' takeY (i := 23) (oi := _) (v := _) ?hic23 (by kernel_rfl) (by kernel_rfl) (by kernel_rfl) (fun _ _ _ h => h) ?hwc23 ?hyc23 hHeld ?restc23
          case hic23 => (simp only [List.getElem?_toArray, List.getElem?_cons_succ, List.getElem?_cons_zero]; rfl)
          case hwc23 => rfl
          case hyc23 => (intro w hSw; (try dsimp only at hSw); go_simp; try with_reducible rfl)
          try simp only [Act.put, List.setIfInBounds_toArray, List.set_cons_zero, List.set_cons_succ]
          refine' takeY (i := 25) (oi := _) (v := _) ?hic24 (by kernel_rfl) (by kernel_rfl) (by kernel_rfl) (fun _ _ _ h => h) ?hwc24 ?hyc24 hHeld ?restc24
          case hic24 => (simp only [List.getElem?_toArray, List.getElem?_cons_succ, List.getElem?_cons_zero]; rfl)
          case hwc24 => rfl
          case hyc24 => (intro w hSw; (try dsimp only at hSw); go_simp; try with_reducible rfl)
          try simp only [Act.put, List.setIfInBounds_toArray, List.set_cons_zero, List.set_cons_succ]
          refine' takeY (i := 26) (oi := _) (v := _) ?hic25 (by kernel_rfl) (by kernel_rfl) (by kernel_rfl) (fun _ _ _ h => h) ?hwc25 ?hyc25 hHeld ?restc25
          case hic25 => (simp only [List.getElem?_toArray, List.getElem?_cons_succ, List.getElem?_cons_zero]; rfl)
          case hwc25 => rfl
          case hyc25 => (intro w hSw; (try dsimp only at hSw); go_simp; try with_reducible rfl)
          try simp only [Act.put, List.setIfInBounds_toArray, List.set_cons_zero, List.set_cons_succ]
          refine' takeY (i := 27) (oi := _) (v := _) ?hic26 (by kernel_rfl) (by kernel_rfl) (by kernel_rfl) (fun _ _ _ h => h) ?hwc26 ?hyc26 hHeld ?restc26
          case hic26 => (simp only [List.getElem?_toArray, List.getElem?_cons_succ, List.getElem?_cons_zero]; rfl)
          case hwc26 => rfl
          case hyc26 => (intro w hSw; (try dsimp only at hSw); go_simp; try with_reducible rfl)
          try simp only [Act.put, List.setIfInBounds_toArray, List.set_cons_zero, List.set_cons_succ]
          refine wpAnyH_ready (rs := [20]) (by kernel_rfl) (by simp) ?_
          refine' AllReadyH.cons (o := _) ?hic27 (fun K hK => ?stepc27) (AllReadyH.nil)
          case hic27 => (simp only [List.getElem?_toArray, List.getElem?_cons_succ, List.getElem?_cons_zero]; rfl)
          case stepc27 =>
            go_simp
            (go_at_call 18; (with_reducible refine (pempty_any (some ⟨bb, oo, none⟩) n ca R 64 _ (A.out.below BW.out) MS.out).mono ?_); rintro e v20 ⟨rfl, hb⟩; dsimp only; rw [HE.out.1]; have BW := Lib.hid (below_next BW.out hb); clear hb)
            go_wp2_with fail
            clear hHeld
            refine hK.out _ _ (trivial) (fun hHeld => ?_)
            clear hK K
            try simp only [Act.put, List.setIfInBounds_toArray, List.set_cons_zero, List.set_cons_succ]
            refine wpAnyH_ready (rs := [24]) (by kernel_rfl) (by simp) ?_
            refine' AllReadyH.cons (o := _) ?hic28 (fun K hK => ?stepc28) (AllReadyH.nil)
            case hic28 => (simp only [List.getElem?_toArray, List.getElem?_cons_succ, List.getElem?_cons_zero]; rfl)
            case stepc28 =>
              go_simp
              (go_at_call 18; (with_reducible refine (pempty_any (some ⟨bb, oo, none⟩) k ca (R.take k) 64 _ (T.out.below BW.out) (take_small MS.out k)).mono ?_); rintro e v24 ⟨rfl, hb⟩; dsimp only; rw [HE.out.2.1]; have BW := Lib.hid (below_next BW.out hb); clear hb)
              go_wp2_with fail
              clear hHeld
              refine hK.out _ _ (trivial) (fun hHeld => ?_)
              clear hK K
              try simp only [Act.put, List.setIfInBounds_toArray, List.set_cons_zero, List.set_cons_succ]
              refine wpAnyH_ready (rs := [28]) (by kernel_rfl) (by simp) ?_
              refine' AllReadyH.cons (o := _) ?hic29 (fun K hK => ?stepc29) (AllReadyH.nil)
              case hic29 => (simp only [List.getElem?_toArray, List.getElem?_cons_succ, List.getElem?_cons_zero]; rfl)
              case stepc29 =>
                go_simp
                (go_at_call 18; (with_reducible refine (pempty_any (some ⟨bb, oo + k * 2, none⟩) (n - k) (ca - k) (R.drop k) 64 _ (D.out.below BW.out) (drop_small MS.out k)).mono ?_); rintro e v28 ⟨rfl, hb⟩; dsimp only; rw [HE.out.2.2]; have BW := Lib.hid (below_next BW.out hb); clear hb)
                go_wp2_with fail
                clear hHeld
                refine hK.out _ _ (trivial) (fun hHeld => ?_)
                clear hK K
                try simp only [Act.put, List.setIfInBounds_toArray, List.set_cons_zero, List.set_cons_succ]
                refine' takeY (i := 29) (oi := _) (v := _) ?hic30 (by kernel_rfl) (by kernel_rfl) (by kernel_rfl) (fun _ _ _ h => h) ?hwc30 ?hyc30 hHeld ?restc30
                case hic30 => (simp only [List.getElem?_toArray, List.getElem?_cons_succ, List.getElem?_cons_zero]; rfl)
                case hwc30 => rfl
                case hyc30 => (intro w hSw; (try dsimp only at hSw); go_simp; try with_reducible rfl)
                try simp only [Act.put, List.setIfInBounds_toArray, List.set_cons_zero, List.set_cons_succ]
                refine' takeY (i := 30) (oi := _) (v := _) ?hic31 (by kernel_rfl) (by kernel_rfl) (by kernel_rfl) (fun _ _ _ h => h) ?hwc31 ?hyc31 hHeld ?restc31
                case hic31 => (simp only [List.getElem?_toArray, List.getElem?_cons_succ, List.getElem?_cons_zero]; rfl)
                case hwc31 => rfl
                case hyc31 => (intro w hSw; (try dsimp only at hSw); go_simp; try with_reducible rfl)
                try simp only [Act.put, List.setIfInBounds_toArray, List.set_cons_zero, List.set_cons_succ]
                refine' takeY (i := 31) (oi := _) (v := _) ?hic32 (by kernel_rfl) (by kernel_rfl) (by kernel_rfl) (fun _ _ _ h => h) ?hwc32 ?hyc32 hHeld ?restc32
                case hic32 => (simp only [List.getElem?_toArray, List.getElem?_cons_succ, List.getElem?_cons_zero]; rfl)
                case hwc32 => rfl
                case hyc32 => (intro w hSw; (try dsimp only at hSw); go_simp; try with_reducible rfl)
                try simp only [Act.put, List.setIfInBounds_toArray, List.set_cons_zero, List.set_cons_succ]
                refine' takeY (i := 32) (oi := _) (v := _) ?hic33 (by kernel_rfl) (by kernel_rfl) (by kernel_rfl) (fun _ _ _ h => h) ?hwc33 ?hyc33 hHeld ?restc33
                case hic33 => (simp only [List.getElem?_toArray, List.getElem?_cons_succ, List.getElem?_cons_zero]; rfl)
                case hwc33 => rfl
                case hyc33 => (intro w hSw; (try dsimp only at hSw); go_simp; try with_reducible rfl)
                try simp only [Act.put, List.setIfInBounds_toArray, List.set_cons_zero, List.set_cons_succ]
                refine' takeY (i := 33) (oi := _) (v := _) ?hic34 (by kernel_rfl) (by kernel_rfl) (by kernel_rfl) (fun _ _ _ h => h) ?hwc34 ?hyc34 hHeld ?restc34
                case hic34 => (simp only [List.getElem?_toArray, List.getElem?_cons_succ, List.getElem?_cons_zero]; rfl)
                case hwc34 => rfl
                case hyc34 => (intro w hSw; (try dsimp only at hSw); go_simp; try with_reducible rfl)
                try simp only [Act.put, List.setIfInBounds_toArray, List.set_cons_zero, List.set_cons_succ]
                refine' takeY (i := 34) (oi := _) (v := _) ?hic35 (by kernel_rfl) (by kernel_rfl) (by kernel_rfl) (fun _ _ _ h => h) ?hwc35 ?hyc35 hHeld ?restc35
                case hic35 => (simp only [List.getElem?_toArray, List.getElem?_cons_succ, List.getElem?_cons_zero]; rfl)
                case hwc35 => rfl
                case hyc35 => (intro w hSw; (try dsimp only at hSw); go_simp; try with_reducible rfl)
                try simp only [Act.put, List.setIfInBounds_toArray, List.set_cons_zero, List.set_cons_succ]
                refine' takeY (i := 36) (oi := _) (v := _) ?hic36 (by kernel_rfl) (by kernel_rfl) (by kernel_rfl) (fun _ _ _ h => h) ?hwc36 ?hyc36 hHeld ?restc36
                case hic36 => (simp only [List.getElem?_toArray, List.getElem?_cons_succ, List.getElem?_cons_zero]; rfl)
                case hwc36 => rfl
                case hyc36 => (intro w hSw; (try dsimp only at hSw); go_simp; try with_reducible rfl)
                try simp only [Act.put, List.setIfInBounds_toArray, List.set_cons_zero, List.set_cons_succ]
                refine' takeY (i := 37) (oi := _) (v := _) ?hic37 (by kernel_rfl) (by kernel_rfl) (by kernel_rfl) (fun _ _ _ h => h) ?hwc37 ?hyc37 hHeld ?restc37
                case hic37 => (simp only [List.getElem?_toArray, List.getElem?_cons_succ, List.getElem?_cons_zero]; rfl)
                case hwc37 => rfl
                case hyc37 => (intro w hSw; (try dsimp only at hSw); go_simp; try with_reducible rfl)
                try simp only [Act.put, List.setIfInBounds_toArray, List.set_cons_zero, List.set_cons_succ]
                refine' takeY (i := 38) (oi := _) (v := _) ?hic38 (by kernel_rfl) (by kernel_rfl) (by kernel_rfl) (fun _ _ _ h => h) ?hwc38 ?hyc38 hHeld ?restc38
                case hic38 => (simp only [List.getElem?_toArray, List.getElem?_cons_succ, List.getElem?_cons_zero]; rfl)
                case hwc38 => rfl
                case hyc38 => (intro w hSw; (try dsimp only at hSw); go_simp; try with_reducible rfl)
                try simp only [Act.put, List.setIfInBounds_toArray, List.set_cons_zero, List.set_cons_succ]
                refine' takeY (i := 39) (oi := _) (v := _) ?hic39 (by kernel_rfl) (by kernel_rfl) (by kernel_rfl) (fun _ _ _ h => h) ?hwc39 ?hyc39 hHeld ?restc39
                case hic39 => (simp only [List.getElem?_toArray, List.getElem?_cons_succ, List.getElem?_cons_zero]; rfl)
                case hwc39 => rfl
                case hyc39 => (intro w hSw; (try dsimp only at hSw); go_simp; try with_reducible rfl)
                try simp only [Act.put, List.setIfInBounds_toArray, List.set_cons_zero, List.set_cons_succ]
                refine' takeY (i := 42) (oi := _) (v := _) ?hic40 (by kernel_rfl) (by kernel_rfl) (by kernel_rfl) (fun _ _ _ h => h) ?hwc40 ?hyc40 hHeld ?restc40
                case hic40 => (simp only [List.getElem?_toArray, List.getElem?_cons_succ, List.getElem?_cons_zero]; rfl)
                case hwc40 => rfl
                case hyc40 => (intro w hSw; (try dsimp only at hSw); go_simp; try with_reducible rfl)
                try simp only [Act.put, List.setIfInBounds_toArray, List.set_cons_zero, List.set_cons_succ]
                refine' takeY (i := 43) (oi := _) (v := _) ?hic41 (by kernel_rfl) (by kernel_rfl) (by kernel_rfl) (fun _ _ _ h => h) ?hwc41 ?hyc41 hHeld ?restc41
                case hic41 => (simp only [List.getElem?_toArray, List.getElem?_cons_succ, List.getElem?_cons_zero]; rfl)
                case hwc41 => rfl
                case hyc41 => (intro w hSw; (try dsimp only at hSw); go_simp; try with_reducible rfl)
                try simp only [Act.put, List.setIfInBounds_toArray, List.set_cons_zero, List.set_cons_succ]
                refine' takeY (i := 44) (oi := _) (v := _) ?hic42 (by kernel_rfl) (by kernel_rfl) (by kernel_rfl) (fun _ _ _ h => h) ?hwc42 ?hyc42 hHeld ?restc42
                case hic42 => (simp only [List.getElem?_toArray, List.getElem?_cons_succ, List.getElem?_cons_zero]; rfl)
                case hwc42 => rfl
                case hyc42 => (intro w hSw; (try dsimp only at hSw); go_simp; try with_reducible rfl)
                try simp only [Act.put, List.setIfInBounds_toArray, List.set_cons_zero, List.set_cons_succ]
                refine' takeY (i := 45) (oi := _) (v := _) ?hic43 (by kernel_rfl) (by kernel_rfl) (by kernel_rfl) (fun _ _ _ h => h) ?hwc43 ?hyc43 hHeld ?restc43
                case hic43 => (simp only [List.getElem?_toArray, List.getElem?_cons_succ, List.getElem?_cons_zero]; rfl)
                case hwc43 => rfl
                case hyc43 => (intro w hSw; (try dsimp only at hSw); go_simp; try with_reducible rfl)
                try simp only [Act.put, List.setIfInBounds_toArray, List.set_cons_zero, List.set_cons_succ]
                refine wpAnyH_ready (rs := [35]) (by kernel_rfl) (by simp) ?_
                refine' AllReadyH.cons (o := _) ?hic44 (fun K hK => ?stepc44) (AllReadyH.nil)
                case hic44 => (simp only [List.getElem?_toArray, List.getElem?_cons_succ, List.getElem?_cons_zero]; rfl)
                case stepc44 =>
                  go_simp
                  (go_at_call 20; (with_reducible refine (pmoves_any (some ⟨bb, oo, none⟩) n ca R id _ (A.out.below BW.out) MS.out).mono ?_); rintro e v35 ⟨rfl, hb⟩; dsimp only; rw [HV.out.1]; have BW := Lib.hid (below_next BW.out hb); clear hb)
                  go_wp2_with fail
                  clear hHeld
                  refine hK.out _ _ (trivial) (fun hHeld => ?_)
                  clear hK K
                  try simp only [Act.put, List.setIfInBounds_toArray, List.set_cons_zero, List.set_cons_succ]
                  refine wpAnyH_ready (rs := [40]) (by kernel_rfl) (by simp) ?_
                  refine' AllReadyH.cons (o := _) ?hic45 (fun K hK => ?stepc45) (AllReadyH.nil)
                  case hic45 => (simp only [List.getElem?_toArray, List.getElem?_cons_succ, List.getElem?_cons_zero]; rfl)
                  case stepc45 =>
                    go_simp
                    (go_at_call 20; (with_reducible refine (pmoves_any (some ⟨bb, oo, none⟩) k ca (R.take k) id _ (T.out.below BW.out) (take_small MS.out k)).mono ?_); rintro e v40 ⟨rfl, hb⟩; dsimp only; rw [HV.out.2.1]; have BW := Lib.hid (below_next BW.out hb); clear hb)
                    go_wp2_with fail
                    clear hHeld
                    refine hK.out _ _ (trivial) (fun hHeld => ?_)
                    clear hK K
                    try simp only [Act.put, List.setIfInBounds_toArray, List.set_cons_zero, List.set_cons_succ]
                    refine' takeY (i := 41) (oi := _) (v := _) ?hic46 (by kernel_rfl) (by kernel_rfl) (by kernel_rfl) (fun _ _ _ h => h) ?hwc46 ?hyc46 hHeld ?restc46
                    case hic46 => (simp only [List.getElem?_toArray, List.getElem?_cons_succ, List.getElem?_cons_zero]; rfl)
                    case hwc46 => rfl
                    case hyc46 => (intro w hSw; (try dsimp only at hSw); go_simp; try with_reducible rfl)
                    try simp only [Act.put, List.setIfInBounds_toArray, List.set_cons_zero, List.set_cons_succ]
                    refine wpAnyH_ready (rs := [46]) (by kernel_rfl) (by simp) ?_
                    refine' AllReadyH.cons (o := _) ?hic47 (fun K hK => ?stepc47) (AllReadyH.nil)
                    case hic47 => (simp only [List.getElem?_toArray, List.getElem?_cons_succ, List.getElem?_cons_zero]; rfl)
                    case stepc47 =>
                      go_simp
                      (go_at_call 20; (with_reducible refine (pmoves_any (some ⟨bb, oo + k * 2, none⟩) (n - k) (ca - k) (R.drop k) id _ (D.out.below BW.out) (drop_small MS.out k)).mono ?_); rintro e v46 ⟨rfl, hb⟩; dsimp only; rw [HV.out.2.2]; have BW := Lib.hid (below_next BW.out hb); clear hb)
                      go_wp2_with fail
                      clear hHeld
                      refine hK.out _ _ (trivial) (fun hHeld => ?_)
                      clear hK K
                      try simp only [Act.put, List.setIfInBounds_toArray, List.set_cons_zero, List.set_cons_succ]
                      refine' takeY (i := 47) (oi := _) (v := _) ?hic48 (by kernel_rfl) (by kernel_rfl) (by kernel_rfl) (fun _ _ _ h => h) ?hwc48 ?hyc48 hHeld ?restc48
                      case hic48 => (simp only [List.getElem?_toArray, List.getElem?_cons_succ, List.getElem?_cons_zero]; rfl)
                      case hwc48 => rfl
                      case hyc48 => (intro w hSw; (try dsimp only at hSw); go_simp; try with_reducible rfl)
                      try simp only [Act.put, List.setIfInBounds_toArray, List.set_cons_zero, List.set_cons_succ]
                      refine' takeY (i := 48) (oi := _) (v := _) ?hic49 (by kernel_rfl) (by kernel_rfl) (by kernel_rfl) (fun _ _ _ h => h) ?hwc49 ?hyc49 hHeld ?restc49
                      case hic49 => (simp only [List.getElem?_toArray, List.getElem?_cons_succ, List.getElem?_cons_zero]; rfl)
                      case hwc49 => rfl
                      case hyc49 => (intro w hSw; (try dsimp only at hSw); go_simp; try with_reducible rfl)
                      try simp only [Act.put, List.setIfInBounds_toArray, List.set_cons_zero, List.set_cons_succ]
                      refine' takeY (i := 49) (oi := _) (v := _) ?hic50 (by kernel_rfl) (by kernel_rfl) (by kernel_rfl) (fun _ _ _ h => h) ?hwc50 ?hyc50 hHeld ?restc50
                      case hic50 => (simp only [List.getElem?_toArray, List.getElem?_cons_succ, List.getElem?_cons_zero]; rfl)
                      case hwc50 => rfl
                      case hyc50 => (intro w hSw; (try dsimp only at hSw); go_simp; try with_reducible rfl)
                      try simp only [Act.put, List.setIfInBounds_toArray, List.set_cons_zero, List.set_cons_succ]
                      refine' takeY (i := 50) (oi := _) (v := _) ?hic51 (by kernel_rfl) (by kernel_rfl) (by kernel_rfl) (fun _ _ _ h => h) ?hwc51 ?hyc51 hHeld ?restc51
                      case hic51 => (simp only [List.getElem?_toArray, List.getElem?_cons_succ, List.getElem?_cons_zero]; rfl)
                      case hwc51 => rfl
                      case hyc51 => (intro w hSw; (try dsimp only at hSw); go_simp; try with_reducible rfl)
                      try simp only [Act.put, List.setIfInBounds_toArray, List.set_cons_zero, List.set_cons_succ]
                      refine' takeY (i := 51) (oi := _) (v := _) ?hic52 (by kernel_rfl) (by kernel_rfl) (by kernel_rfl) (fun _ _ _ h => h) ?hwc52 ?hyc52 hHeld ?restc52
                      case hic52 => (simp only [List.getElem?_toArray, List.getElem?_cons_succ, List.getElem?_cons_zero]; rfl)
                      case hwc52 => rfl
                      case hyc52 => (intro w hSw; (try dsimp only at hSw); go_simp; try with_reducible rfl)
                      try simp only [Act.put, List.setIfInBounds_toArray, List.set_cons_zero, List.set_cons_succ]
                      refine' takeY (i := 52) (oi := _) (v := _) ?hic53 (by kernel_rfl) (by kernel_rfl) (by kernel_rfl) (fun _ _ _ h => h) ?hwc53 ?hyc53 hHeld ?restc53
                      case hic53 => (simp only [List.getElem?_toArray, List.getElem?_cons_succ, List.getElem?_cons_zero]; rfl)
                      case hwc53 => rfl
                      case hyc53 => (intro w hSw; (try dsimp only at hSw); go_simp; try with_reducible rfl)
                      try simp only [Act.put, List.setIfInBounds_toArray, List.set_cons_zero, List.set_cons_succ]
                      refine' takeY (i := 53) (oi := _) (v := _) ?hic54 (by kernel_rfl) (by kernel_rfl) (by kernel_rfl) (fun _ _ _ h => h) ?hwc54 ?hyc54 hHeld ?restc54
                      case hic54 => (simp only [List.getElem?_toArray, List.getElem?_cons_succ, List.getElem?_cons_zero]; rfl)
                      case hwc54 => rfl
                      case hyc54 => (intro w hSw; (try dsimp only at hSw); go_simp; try with_reducible rfl)
                      try simp only [Act.put, List.setIfInBounds_toArray, List.set_cons_zero, List.set_cons_succ]
                      refine wpAnyH_ready (rs := [54]) (by kernel_rfl) (by simp) ?_
                      refine' AllReadyH.cons (o := _) ?hic55 (fun K hK => ?stepc55) (AllReadyH.nil)
                      case hic55 => (simp only [List.getElem?_toArray, List.getElem?_cons_succ, List.getElem?_cons_zero]; rfl)
                      case stepc55 =>
                        go_simp
                        (go_at_call 17; (with_reducible refine (prow_any (some ⟨bb, oo + k * 2, none⟩) (n - k) (ca - k) (R.drop k) 64 _ (D.out.below BW.out)).mono ?_); rintro e v54 ⟨rfl, hb⟩; dsimp only; rw [PR.out]; have BW := Lib.hid (below_next BW.out hb); clear hb)
                        go_wp2_with fail
                        clear hHeld
                        refine hK.out _ _ (trivial) (fun hHeld => ?_)
                        clear hK K
                        try simp only [Act.put, List.setIfInBounds_toArray, List.set_cons_zero, List.set_cons_succ]
                        refine' takeY (i := 55) (oi := _) (v := _) ?hic56 (by kernel_rfl) (by kernel_rfl) (by kernel_rfl) (fun _ _ _ h => h) ?hwc56 ?hyc56 hHeld ?restc56
                        case hic56 => (simp only [List.getElem?_toArray, List.getElem?_cons_succ, List.getElem?_cons_zero]; rfl)
                        case hwc56 => rfl
                        case hyc56 => (intro w hSw; (try dsimp only at hSw); go_simp; try with_reducible rfl)
                        try simp only [Act.put, List.setIfInBounds_toArray, List.set_cons_zero, List.set_cons_succ]
                        refine' takeY (i := 56) (oi := _) (v := _) ?hic57 (by kernel_rfl) (by kernel_rfl) (by kernel_rfl) (fun _ _ _ h => h) ?hwc57 ?hyc57 hHeld ?restc57
                        case hic57 => (simp only [List.getElem?_toArray, List.getElem?_cons_succ, List.getElem?_cons_zero]; rfl)
                        case hwc57 => rfl
                        case hyc57 => (intro w hSw; (try dsimp only at hSw); go_simp; try with_reducible rfl)
                        try simp only [Act.put, List.setIfInBounds_toArray, List.set_cons_zero, List.set_cons_succ]
                        refine' takeY (i := 57) (oi := _) (v := _) ?hic58 (by kernel_rfl) (by kernel_rfl) (by kernel_rfl) (fun _ _ _ h => h) ?hwc58 ?hyc58 hHeld ?restc58
                        case hic58 => (simp only [List.getElem?_toArray, List.getElem?_cons_succ, List.getElem?_cons_zero]; rfl)
                        case hwc58 => rfl
                        case hyc58 => (intro w hSw; (try dsimp only at hSw); go_simp; try with_reducible rfl)
                        try simp only [Act.put, List.setIfInBounds_toArray, List.set_cons_zero, List.set_cons_succ]
                        refine' takeY (i := 58) (oi := _) (v := _) ?hic59 (by kernel_rfl) (by kernel_rfl) (by kernel_rfl) (fun _ _ _ h => h) ?hwc59 ?hyc59 hHeld ?restc59
                        case hic59 => (simp only [List.getElem?_toArray, List.getElem?_cons_succ, List.getElem?_cons_zero]; rfl)
                        case hwc59 => rfl
                        case hyc59 => (intro w hSw; (try dsimp only at hSw); go_simp; try with_reducible rfl)
                        try simp only [Act.put, List.setIfInBounds_toArray, List.set_cons_zero, List.set_cons_succ]
                        refine' takeY (i := 60) (oi := _) (v := _) ?hic60 (by kernel_rfl) (by kernel_rfl) (by kernel_rfl) (fun _ _ _ h => h) ?hwc60 ?hyc60 hHeld ?restc60
                        case hic60 => (simp only [List.getElem?_toArray, List.getElem?_cons_succ, List.getElem?_cons_zero]; rfl)
                        case hwc60 => rfl
                        case hyc60 => (intro w hSw; (try dsimp only at hSw); go_simp; try with_reducible rfl)
                        try simp only [Act.put, List.setIfInBounds_toArray, List.set_cons_zero, List.set_cons_succ]
                        refine' takeY (i := 61) (oi := _) (v := _) ?hic61 (by kernel_rfl) (by kernel_rfl) (by kernel_rfl) (fun _ _ _ h => h) ?hwc61 ?hyc61 hHeld ?restc61
                        case hic61 => (simp only [List.getElem?_toArray, List.getElem?_cons_succ, List.getElem?_cons_zero]; rfl)
                        case hwc61 => rfl
                        case hyc61 => (intro w hSw; (try dsimp only at hSw); go_simp; try with_reducible rfl)
                        try simp only [Act.put, List.setIfInBounds_toArray, List.set_cons_zero, List.set_cons_succ]
                        refine' takeY (i := 62) (oi := _) (v := _) ?hic62 (by kernel_rfl) (by kernel_rfl) (by kernel_rfl) (fun _ _ _ h => h) ?hwc62 ?hyc62 hHeld ?restc62
                        case hic62 => (simp only [List.getElem?_toArray, List.getElem?_cons_succ, List.getElem?_cons_zero]; rfl)
                        case hwc62 => rfl
                        case hyc62 => (intro w hSw; (try dsimp only at hSw); go_simp; try with_reducible rfl)
                        try simp only [Act.put, List.setIfInBounds_toArray, List.set_cons_zero, List.set_cons_succ]
                        refine' takeY (i := 63) (oi := _) (v := _) ?hic63 (by kernel_rfl) (by kernel_rfl) (by kernel_rfl) (fun _ _ _ h => h) ?hwc63 ?hyc63 hHeld ?restc63
                        case hic63 => (simp only [List.getElem?_toArray, List.getElem?_cons_succ, List.getElem?_cons_zero]; rfl)
                        case hwc63 => rfl
                        case hyc63 => (intro w hSw; (try dsimp only at hSw); go_simp; try with_reducible rfl)
                        try simp only [Act.put, List.setIfInBounds_toArray, List.set_cons_zero, List.set_cons_succ]
                        refine wpAnyH_ready (rs := [59]) (by kernel_rfl) (by simp) ?_
                        refine' AllReadyH.cons (o := _) ?hic64 (fun K hK => ?stepc64) (AllReadyH.nil)
                        case hic64 => (simp only [List.getElem?_toArray, List.getElem?_cons_succ, List.getElem?_cons_zero]; rfl)
                        case stepc64 =>
                          go_simp
                          (go_at_call 20; (with_reducible refine (pmoves_any (some ⟨bb, oo, none⟩) n ca R id _ (A.out.below BW.out) MS.out).mono ?_); rintro e v59 ⟨rfl, hb⟩; dsimp only; rw [HV.out.1]; have BW := Lib.hid (below_next BW.out hb); clear hb)
                          go_wp2_with fail
                          clear hHeld
                          refine hK.out _ _ (trivial) (fun hHeld => ?_)
                          clear hK K
                          try simp only [Act.put, List.setIfInBounds_toArray, List.set_cons_zero, List.set_cons_succ]
                          refine wpAnyH_ready (rs := [64]) (by kernel_rfl) (by simp) ?_
                          refine' AllReadyH.cons (o := _) ?hic65 (fun K hK => ?stepc65) (AllReadyH.nil)
                          case hic65 => (simp only [List.getElem?_toArray, List.getElem?_cons_succ, List.getElem?_cons_zero]; rfl)
                          case stepc65 =>
                            go_simp
                            (go_at_call 20; (with_reducible refine (pmoves_any (some ⟨bb, oo, none⟩) k ca (R.take k) id _ (T.out.below BW.out) (take_small MS.out k)).mono ?_); rintro e v64 ⟨rfl, hb⟩; dsimp only; rw [HV.out.2.1]; have BW := Lib.hid (below_next BW.out hb); clear hb)
                            go_wp2_with fail
                            clear hHeld
                            refine hK.out _ _ (trivial) (fun hHeld => ?_)
                            clear hK K
                            try simp only [Act.put, List.setIfInBounds_toArray, List.set_cons_zero, List.set_cons_succ]
                            refine' takeY (i := 65) (oi := _) (v := _) ?hic66 (by kernel_rfl) (by kernel_rfl) (by kernel_rfl) (fun _ _ _ h => h) ?hwc66 ?hyc66 hHeld ?restc66
                            case hic66 => (simp only [List.getElem?_toArray, List.getElem?_cons_succ, List.getElem?_cons_zero]; rfl)
                            case hwc66 => rfl
                            case hyc66 => (intro w hSw; (try dsimp only at hSw); go_simp; try with_reducible rfl)
                            try simp only [Act.put, List.setIfInBounds_toArray, List.set_cons_zero, List.set_cons_succ]
                            refine' takeY (i := 66) (oi := _) (v := _) ?hic67 (by kernel_rfl) (by kernel_rfl) (by kernel_rfl) (fun _ _ _ h => h) ?hwc67 ?hyc67 hHeld ?restc67
                            case hic67 => (simp only [List.getElem?_toArray, List.getElem?_cons_succ, List.getElem?_cons_zero]; rfl)
                            case hwc67 => rfl
                            case hyc67 => (intro w hSw; (try dsimp only at hSw); go_simp; try with_reducible rfl)
                            try simp only [Act.put, List.setIfInBounds_toArray, List.set_cons_zero, List.set_cons_succ]
                            refine' takeY (i := 67) (oi := _) (v := _) ?hic68 (by kernel_rfl) (by kernel_rfl) (by kernel_rfl) (fun _ _ _ h => h) ?hwc68 ?hyc68 hHeld ?restc68
                            case hic68 => (simp only [List.getElem?_toArray, List.getElem?_cons_succ, List.getElem?_cons_zero]; rfl)
                            case hwc68 => rfl
                            case hyc68 => (intro w hSw; (try dsimp only at hSw); go_simp; try with_reducible rfl)
                            try simp only [Act.put, List.setIfInBounds_toArray, List.set_cons_zero, List.set_cons_succ]
                            refine wpAnyH_done (by kernel_rfl) ?_ _
                            refine NoPanic.normal ?_
                            go_wp2
                            go_ret
                            exact ⟨rfl, below_next B.out BW.out⟩
end Go.Proofs.Ytndhpihgeacdfaa
