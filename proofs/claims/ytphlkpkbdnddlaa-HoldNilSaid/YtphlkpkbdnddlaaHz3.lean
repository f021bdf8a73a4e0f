/-
  Package hold as landed: what a holder holds: contract. (Written by wip/tools/gen_hz3.py.)
-/
import Derived.Test.YtphlkpkbdnddlaaHz2
namespace Go.Proofs.Ytphlkpkbdnddlaa
open Go.RowKit

set_option maxHeartbeats 2000000 in
theorem hshare_any (h : Hd) (g : GoodH h) (ha : askB h.NE h.NP = h.asked) (x y : Int) (hxy : holdsV h = (x, y)) (w : World) :
    Calls Try.prog 75 #[h.mv] w fun e w' => e = .returned (.agg #[.int .i64 x, .int .i64 y]) ∧ Below w.heap.size w w' := by
  obtain ⟨id, E, P, NE, NP, asked⟩ := h
  unfold Hd.mv
  obtain ⟨gn, gx⟩ := g
  simp only at gn gx ha
  have MW := Lib.hid (show 0 ≤ E ∧ E < 4294967296 ∧ 1 ≤ P ∧ P < 4294967296 by obtain ⟨m1, m2, m3⟩ := gn; omega)
  obtain ⟨W0, hW0⟩ : ∃ W0, (w.alloc (.cells #[.int .i64 E, .int .i64 P, .int .i64 NE, .int .i64 NP] 71)).alloc (.cells #[.int .i64 0, .int .i64 0] 39) = W0 := ⟨_, rfl⟩
  have B0 := Lib.hid (show Below w.heap.size w W0 by rw [← hW0]; exact wbox2 _ _ _)
  have K := Lib.hid (show Blk W0 71 w.heap.size #[.int .i64 E, .int .i64 P, .int .i64 NE, .int .i64 NP] by rw [← hW0]; exact (Blk.new w _ _).alloc _)
  have X0 := Lib.hid (show Box W0 39 (w.heap.size + 1) (.int .i64 0) (.int .i64 0) by rw [← hW0]; exact Blk.new2 w _ _ _)
  have KEPT := Lib.hid (show ∀ w' : World, Below W0.heap.size W0 w' → w'.cell? ⟨w.heap.size, 0, none⟩ = some (.int .i64 E) ∧ w'.cell? ⟨w.heap.size, 1, none⟩ = some (.int .i64 P) ∧ w'.cell? ⟨w.heap.size, 2, none⟩ = some (.int .i64 NE) ∧ w'.cell? ⟨w.heap.size, 3, none⟩ = some (.int .i64 NP) from fun w' h => ⟨(K.out.below h).cell 0, (K.out.below h).cell 1, (K.out.below h).cell 2, (K.out.below h).cell 3⟩)
  have BL := Lib.hid (show Below W0.heap.size W0 W0.drew from (Below.refl W0.heap.size W0).drew)
  go_enter Try.func75, Try.ntmps75
  go_upto_region 1 with fail
  (try rw [hW0])
  clear hW0
  cases asked with
  | false =>
    have HA := Lib.hid ha
    obtain ⟨rfl, rfl⟩ : E = x ∧ P = y := by
      unfold holdsV at hxy
      rw [if_neg (by simp)] at hxy
      exact Prod.mk.inj hxy
    clear hxy ha
    refine wp_region_noPanic ?_
    refine wp_region_held_drew (S := fun w' => w'.cell? ⟨w.heap.size, 0, none⟩ = some (.int .i64 E) ∧ w'.cell? ⟨w.heap.size, 1, none⟩ = some (.int .i64 P) ∧ w'.cell? ⟨w.heap.size, 2, none⟩ = some (.int .i64 NE) ∧ w'.cell? ⟨w.heap.size, 3, none⟩ = some (.int .i64 NP)) (by kernel_rfl) (KEPT.out _ BL.out) (fun hHeld => ?_)
    refine' takeY (i := 0) (oi := _) (v := _) ?hia0 (by kernel_rfl) (by kernel_rfl) (by kernel_rfl) (fun _ _ _ h => h) ?hwa0 ?hya0 hHeld ?resta0
    case hia0 => (simp only [List.getElem?_toArray, List.getElem?_cons_zero]; rfl)
    case hwa0 => rfl
    case hya0 => (intro w hSw; (try dsimp only at hSw); go_simp; try with_reducible rfl)
    try simp only [Act.put, List.setIfInBounds_toArray, List.set_cons_zero, List.set_cons_succ]
    refine wpAnyH_ready (rs := [1]) (by kernel_rfl) (by simp) ?_
    refine' AllReadyH.cons (o := _) ?hia1 (fun K hK => ?stepa1) AllReadyH.nil
    case hia1 => (simp only [List.getElem?_toArray, List.getElem?_cons_succ, List.getElem?_cons_zero]; rfl)
    go_simp
    ((with_reducible refine (hasked_any E P NE NP false _ HA.out).mono ?_); rintro e w2 ⟨rfl, hb⟩; have BL := Lib.hid (below_next BL.out hb); clear hb)
    go_wp2_with fail
    clear hHeld
    refine hK.out _ _ (KEPT.out _ BL.out) (fun hHeld => ?_)
    clear hK K
    try simp only [Act.put, List.setIfInBounds_toArray, List.set_cons_zero, List.set_cons_succ]
    refine' takeY (i := 2) (oi := _) (v := _) ?hia2 (by kernel_rfl) (by kernel_rfl) (by kernel_rfl) (fun _ _ _ h => h) ?hwa2 ?hya2 hHeld ?resta2
    case hia2 => (simp only [List.getElem?_toArray, List.getElem?_cons_succ, List.getElem?_cons_zero]; rfl)
    case hwa2 => rfl
    case hya2 => (intro w hSw; (try dsimp only at hSw); go_simp; try with_reducible rfl)
    try simp only [Act.put, List.setIfInBounds_toArray, List.set_cons_zero, List.set_cons_succ]
    refine' takeN (i := 3) (oi := _) ?hia3 (by kernel_rfl) (by kernel_rfl) (by kernel_rfl) (fun _ _ _ h => h) ?hwa3 hHeld ?resta3
    case hia3 => (simp only [List.getElem?_toArray, List.getElem?_cons_succ, List.getElem?_cons_zero]; rfl)
    case hwa3 => rfl
    try simp only [Act.put, List.setIfInBounds_toArray, List.set_cons_zero, List.set_cons_succ]
    refine' takeN (i := 4) (oi := _) ?hia4 (by kernel_rfl) (by kernel_rfl) (by kernel_rfl) (fun _ _ _ h => h) ?hwa4 hHeld ?resta4
    case hia4 => (simp only [List.getElem?_toArray, List.getElem?_cons_succ, List.getElem?_cons_zero]; rfl)
    case hwa4 => rfl
    try simp only [Act.put, List.setIfInBounds_toArray, List.set_cons_zero, List.set_cons_succ]
    refine' takeN (i := 5) (oi := _) ?hia5 (by kernel_rfl) (by kernel_rfl) (by kernel_rfl) (fun _ _ _ h => h) ?hwa5 hHeld ?resta5
    case hia5 => (simp only [List.getElem?_toArray, List.getElem?_cons_succ, List.getElem?_cons_zero]; rfl)
    case hwa5 => rfl
    try simp only [Act.put, List.setIfInBounds_toArray, List.set_cons_zero, List.set_cons_succ]
    refine' takeN (i := 6) (oi := _) ?hia6 (by kernel_rfl) (by kernel_rfl) (by kernel_rfl) (fun _ _ _ h => h) ?hwa6 hHeld ?resta6
    case hia6 => (simp only [List.getElem?_toArray, List.getElem?_cons_succ, List.getElem?_cons_zero]; rfl)
    case hwa6 => rfl
    try simp only [Act.put, List.setIfInBounds_toArray, List.set_cons_zero, List.set_cons_succ]
    refine' takeN (i := 7) (oi := _) ?hia7 (by kernel_rfl) (by kernel_rfl) (by kernel_rfl) (fun _ _ _ h => h) ?hwa7 hHeld ?resta7
    case hia7 => (simp only [List.getElem?_toArray, List.getElem?_cons_succ, List.getElem?_cons_zero]; rfl)
    case hwa7 => rfl
    try simp only [Act.put, List.setIfInBounds_toArray, List.set_cons_zero, List.set_cons_succ]
    refine' takeN (i := 8) (oi := _) ?hia8 (by kernel_rfl) (by kernel_rfl) (by kernel_rfl) (fun _ _ _ h => h) ?hwa8 hHeld ?resta8
    case hia8 => (simp only [List.getElem?_toArray, List.getElem?_cons_succ, List.getElem?_cons_zero]; rfl)
    case hwa8 => rfl
    try simp only [Act.put, List.setIfInBounds_toArray, List.set_cons_zero, List.set_cons_succ]
    refine' takeN (i := 9) (oi := _) ?hia9 (by kernel_rfl) (by kernel_rfl) (by kernel_rfl) (fun _ _ _ h => h) ?hwa9 hHeld ?resta9
    case hia9 => (simp only [List.getElem?_toArray, List.getElem?_cons_succ, List.getElem?_cons_zero]; rfl)
    case hwa9 => rfl
    try simp only [Act.put, List.setIfInBounds_toArray, List.set_cons_zero, List.set_cons_succ]
    refine' takeN (i := 10) (oi := _) ?hia10 (by kernel_rfl) (by kernel_rfl) (by kernel_rfl) (fun _ _ _ h => h) ?hwa10 hHeld ?resta10
    case hia10 => (simp only [List.getElem?_toArray, List.getElem?_cons_succ, List.getElem?_cons_zero]; rfl)
    case hwa10 => rfl
    try simp only [Act.put, List.setIfInBounds_toArray, List.set_cons_zero, List.set_cons_succ]
    refine' takeY (i := 11) (oi := _) (v := _) ?hia11 (by kernel_rfl) (by kernel_rfl) (by kernel_rfl) (fun _ _ _ h => h) ?hwa11 ?hya11 hHeld ?resta11
    case hia11 => (simp only [List.getElem?_toArray, List.getElem?_cons_succ, List.getElem?_cons_zero]; rfl)
    case hwa11 => rfl
    case hya11 => (intro w hSw; (try dsimp only at hSw); go_simp; try with_reducible rfl)
    try simp only [Act.put, List.setIfInBounds_toArray, List.set_cons_zero, List.set_cons_succ]
    refine wpAnyH_done (by kernel_rfl) ?_ _
    refine NoPanic.normal ?_
    have C0 := KEPT.out _ BL.out
    have X9 := Lib.hid (X0.out.below BL.out)
    have B9 := Lib.hid (below_next B0.out BL.out)
    obtain ⟨c0, c1, c2, c3⟩ := C0
    have x0 := X9.out.c0; have x1 := X9.out.c1
    have f0 := Blk.free X9.out 0; have f1 := Blk.free X9.out 1
    clear KEPT
    go_wp2
    exact bodyPost_ret (v := .agg #[.int .i64 E, .int .i64 P]) (by simp [results, Try.results75, go_sem, x0, x1]) rfl ⟨rfl, (B9.out.setCell (Nat.le_succ _) _).setCell (Nat.le_succ _) _⟩
  | true =>
    have HA := Lib.hid ha
    have gx := gx rfl
    have MN := Lib.hid (show 0 ≤ NE ∧ NE < 4294967296 ∧ 1 ≤ NP ∧ NP < 4294967296 by obtain ⟨m1, m2, m3⟩ := gx; omega)
    by_cases q : E * NP < NE * P
    · obtain ⟨rfl, rfl⟩ : NE = x ∧ NP = y := by
        unfold holdsV at hxy
        rw [if_pos ⟨rfl, q⟩] at hxy
        exact Prod.mk.inj hxy
      obtain ⟨k, hk⟩ : ∃ k, cmpI (NE * P) (E * NP) = k := ⟨_, rfl⟩
      have t1 : decide (0 < k) = true := by rw [← hk]; unfold cmpI; rw [if_neg (by omega), if_pos q]; rfl
      have KK := Lib.hid hk
      clear hxy ha hk q
      refine wp_region_noPanic ?_
      refine wp_region_held_drew (S := fun w' => w'.cell? ⟨w.heap.size, 0, none⟩ = some (.int .i64 E) ∧ w'.cell? ⟨w.heap.size, 1, none⟩ = some (.int .i64 P) ∧ w'.cell? ⟨w.heap.size, 2, none⟩ = some (.int .i64 NE) ∧ w'.cell? ⟨w.heap.size, 3, none⟩ = some (.int .i64 NP)) (by kernel_rfl) (KEPT.out _ BL.out) (fun hHeld => ?_)
      refine' takeY (i := 0) (oi := _) (v := _) ?hib0 (by kernel_rfl) (by kernel_rfl) (by kernel_rfl) (fun _ _ _ h => h) ?hwb0 ?hyb0 hHeld ?restb0
      case hib0 => (simp only [List.getElem?_toArray, List.getElem?_cons_zero]; rfl)
      case hwb0 => rfl
      case hyb0 => (intro w hSw; (try dsimp only at hSw); go_simp; try with_reducible rfl)
      try simp only [Act.put, List.setIfInBounds_toArray, List.set_cons_zero, List.set_cons_succ]
      refine wpAnyH_ready (rs := [1]) (by kernel_rfl) (by simp) ?_
      refine' AllReadyH.cons (o := _) ?hib1 (fun K hK => ?stepb1) AllReadyH.nil
      case hib1 => (simp only [List.getElem?_toArray, List.getElem?_cons_succ, List.getElem?_cons_zero]; rfl)
      go_simp
      ((with_reducible refine (hasked_any E P NE NP true _ HA.out).mono ?_); rintro e w2 ⟨rfl, hb⟩; have BL := Lib.hid (below_next BL.out hb); clear hb)
      go_wp2_with fail
      clear hHeld
      refine hK.out _ _ (KEPT.out _ BL.out) (fun hHeld => ?_)
      clear hK K
      try simp only [Act.put, List.setIfInBounds_toArray, List.set_cons_zero, List.set_cons_succ]
      refine' takeY (i := 2) (oi := _) (v := _) ?hib2 (by kernel_rfl) (by kernel_rfl) (by kernel_rfl) (fun _ _ _ h => h) ?hwb2 ?hyb2 hHeld ?restb2
      case hib2 => (simp only [List.getElem?_toArray, List.getElem?_cons_succ, List.getElem?_cons_zero]; rfl)
      case hwb2 => rfl
      case hyb2 => (intro w hSw; (try dsimp only at hSw); go_simp; try with_reducible rfl)
      try simp only [Act.put, List.setIfInBounds_toArray, List.set_cons_zero, List.set_cons_succ]
      refine' takeY (i := 3) (oi := _) (v := _) ?hib3 (by kernel_rfl) (by kernel_rfl) (by kernel_rfl) (fun _ _ _ h => h) ?hwb3 ?hyb3 hHeld ?restb3
      case hib3 => (simp only [List.getElem?_toArray, List.getElem?_cons_succ, List.getElem?_cons_zero]; rfl)
      case hwb3 => rfl
      case hyb3 => (intro w hSw; (try dsimp only at hSw); go_simp; try with_reducible rfl)
      try simp only [Act.put, List.setIfInBounds_toArray, List.set_cons_zero, List.set_cons_succ]
      refine' takeY (i := 4) (oi := _) (v := _) ?hib4 (by kernel_rfl) (by kernel_rfl) (by kernel_rfl) (fun _ _ _ h => h) ?hwb4 ?hyb4 hHeld ?restb4
      case hib4 => (simp only [List.getElem?_toArray, List.getElem?_cons_succ, List.getElem?_cons_zero]; rfl)
      case hwb4 => rfl
      case hyb4 => (intro w hSw; (try dsimp only at hSw); go_simp; try with_reducible rfl)
      try simp only [Act.put, List.setIfInBounds_toArray, List.set_cons_zero, List.set_cons_succ]
      refine' takeY (i := 6) (oi := _) (v := _) ?hib5 (by kernel_rfl) (by kernel_rfl) (by kernel_rfl) (fun _ _ _ h => h) ?hwb5 ?hyb5 hHeld ?restb5
      case hib5 => (simp only [List.getElem?_toArray, List.getElem?_cons_succ, List.getElem?_cons_zero]; rfl)
      case hwb5 => rfl
      case hyb5 => (intro w hSw; (try dsimp only at hSw); go_simp; try with_reducible rfl)
      try simp only [Act.put, List.setIfInBounds_toArray, List.set_cons_zero, List.set_cons_succ]
      refine' takeY (i := 7) (oi := _) (v := _) ?hib6 (by kernel_rfl) (by kernel_rfl) (by kernel_rfl) (fun _ _ _ h => h) ?hwb6 ?hyb6 hHeld ?restb6
      case hib6 => (simp only [List.getElem?_toArray, List.getElem?_cons_succ, List.getElem?_cons_zero]; rfl)
      case hwb6 => rfl
      case hyb6 => (intro w hSw; (try dsimp only at hSw); go_simp; try with_reducible rfl)
      try simp only [Act.put, List.setIfInBounds_toArray, List.set_cons_zero, List.set_cons_succ]
      refine wpAnyH_ready (rs := [5]) (by kernel_rfl) (by simp) ?_
      refine' AllReadyH.cons (o := _) ?hib7 (fun K hK => ?stepb7) AllReadyH.nil
      case hib7 => (simp only [List.getElem?_toArray, List.getElem?_cons_succ, List.getElem?_cons_zero]; rfl)
      go_simp
      ((with_reducible refine (qof_any NE NP _ MN.out.1 MN.out.2.1 MN.out.2.2.1 MN.out.2.2.2).mono ?_); rintro e w3 ⟨v3, rfl, hr, hb⟩; have S3 := Lib.hid hr; have BL := Lib.hid (below_next BL.out hb); clear hb; clear hr)
      go_wp2_with fail
      clear hHeld
      refine hK.out _ _ (KEPT.out _ BL.out) (fun hHeld => ?_)
      clear hK K
      try simp only [Act.put, List.setIfInBounds_toArray, List.set_cons_zero, List.set_cons_succ]
      refine wpAnyH_ready (rs := [8]) (by kernel_rfl) (by simp) ?_
      refine' AllReadyH.cons (o := _) ?hib8 (fun K hK => ?stepb8) AllReadyH.nil
      case hib8 => (simp only [List.getElem?_toArray, List.getElem?_cons_succ, List.getElem?_cons_zero]; rfl)
      go_simp
      ((with_reducible refine (qof_any E P _ MW.out.1 MW.out.2.1 MW.out.2.2.1 MW.out.2.2.2).mono ?_); rintro e w4 ⟨v4, rfl, hr, hb⟩; have S4 := Lib.hid hr; have S3 := Lib.hid (S3.out.below hb); have BL := Lib.hid (below_next BL.out hb); clear hb; clear hr)
      go_wp2_with fail
      clear hHeld
      refine hK.out _ _ (KEPT.out _ BL.out) (fun hHeld => ?_)
      clear hK K
      try simp only [Act.put, List.setIfInBounds_toArray, List.set_cons_zero, List.set_cons_succ]
      refine wpAnyH_ready (rs := [9]) (by kernel_rfl) (by simp) ?_
      refine' AllReadyH.cons (o := _) ?hib9 (fun K hK => ?stepb9) AllReadyH.nil
      case hib9 => (simp only [List.getElem?_toArray, List.getElem?_cons_succ, List.getElem?_cons_zero]; rfl)
      go_simp
      ((with_reducible refine (qcmp_any _ _ NE NP E P 0 0 1 1 _ S3.out S4.out (by omega) (by omega) k KK.out).mono ?_); rintro e w5 ⟨rfl, hb⟩; have BL := Lib.hid (below_next BL.out hb); clear hb)
      go_wp2_with fail
      clear hHeld
      refine hK.out _ _ (KEPT.out _ BL.out) (fun hHeld => ?_)
      clear hK K
      try simp only [Act.put, List.setIfInBounds_toArray, List.set_cons_zero, List.set_cons_succ]
      refine' takeY (i := 10) (oi := _) (v := _) ?hib10 (by kernel_rfl) (by kernel_rfl) (by kernel_rfl) (fun _ _ _ h => h) ?hwb10 ?hyb10 hHeld ?restb10
      case hib10 => (simp only [List.getElem?_toArray, List.getElem?_cons_succ, List.getElem?_cons_zero]; rfl)
      case hwb10 => rfl
      case hyb10 => (intro w hSw; (try dsimp only at hSw); go_simp; try with_reducible rfl)
      try simp only [Act.put, List.setIfInBounds_toArray, List.set_cons_zero, List.set_cons_succ]
      refine' takeY (i := 11) (oi := _) (v := _) ?hib11 (by kernel_rfl) (by kernel_rfl) (by kernel_rfl) (fun _ _ _ h => h) ?hwb11 ?hyb11 hHeld ?restb11
      case hib11 => (simp only [List.getElem?_toArray, List.getElem?_cons_succ, List.getElem?_cons_zero]; rfl)
      case hwb11 => rfl
      case hyb11 => (intro w hSw; (try dsimp only at hSw); go_simp; try with_reducible rfl)
      try simp only [Act.put, List.setIfInBounds_toArray, List.set_cons_zero, List.set_cons_succ]
      refine wpAnyH_done (by kernel_rfl) ?_ _
      refine NoPanic.normal ?_
      have C0 := KEPT.out _ BL.out
      have X9 := Lib.hid (X0.out.below BL.out)
      have B9 := Lib.hid (below_next B0.out BL.out)
      obtain ⟨c0, c1, c2, c3⟩ := C0
      have x0 := X9.out.c0; have x1 := X9.out.c1
      have f0 := Blk.free X9.out 0; have f1 := Blk.free X9.out 1
      clear KEPT
      go_wp2
      exact bodyPost_ret (v := .agg #[.int .i64 NE, .int .i64 NP]) (by simp [results, Try.results75, go_sem, x0, x1]) rfl ⟨rfl, (B9.out.setCell (Nat.le_succ _) _).setCell (Nat.le_succ _) _⟩
    · obtain ⟨rfl, rfl⟩ : E = x ∧ P = y := by
        unfold holdsV at hxy
        rw [if_neg (fun r => q r.2)] at hxy
        exact Prod.mk.inj hxy
      obtain ⟨k, hk⟩ : ∃ k, cmpI (NE * P) (E * NP) = k := ⟨_, rfl⟩
      have t1 : decide (0 < k) = false := by
        rw [← hk]; unfold cmpI
        (repeat' split) <;> first | rfl | omega
      have KK := Lib.hid hk
      clear hxy ha hk q
      refine wp_region_noPanic ?_
      refine wp_region_held_drew (S := fun w' => w'.cell? ⟨w.heap.size, 0, none⟩ = some (.int .i64 E) ∧ w'.cell? ⟨w.heap.size, 1, none⟩ = some (.int .i64 P) ∧ w'.cell? ⟨w.heap.size, 2, none⟩ = some (.int .i64 NE) ∧ w'.cell? ⟨w.heap.size, 3, none⟩ = some (.int .i64 NP)) (by kernel_rfl) (KEPT.out _ BL.out) (fun hHeld => ?_)
      refine' takeY (i := 0) (oi := _) (v := _) ?hic0 (by kernel_rfl) (by kernel_rfl) (by kernel_rfl) (fun _ _ _ h => h) ?hwc0 ?hyc0 hHeld ?restc0
      case hic0 => (simp only [List.getElem?_toArray, List.getElem?_cons_zero]; rfl)
      case hwc0 => rfl
      case hyc0 => (intro w hSw; (try dsimp only at hSw); go_simp; try with_reducible rfl)
      try simp only [Act.put, List.setIfInBounds_toArray, List.set_cons_zero, List.set_cons_succ]
      refine wpAnyH_ready (rs := [1]) (by kernel_rfl) (by simp) ?_
      refine' AllReadyH.cons (o := _) ?hic1 (fun K hK => ?stepc1) AllReadyH.nil
      case hic1 => (simp only [List.getElem?_toArray, List.getElem?_cons_succ, List.getElem?_cons_zero]; rfl)
      go_simp
      ((with_reducible refine (hasked_any E P NE NP true _ HA.out).mono ?_); rintro e w2 ⟨rfl, hb⟩; have BL := Lib.hid (below_next BL.out hb); clear hb)
      go_wp2_with fail
      clear hHeld
      refine hK.out _ _ (KEPT.out _ BL.out) (fun hHeld => ?_)
      clear hK K
      try simp only [Act.put, List.setIfInBounds_toArray, List.set_cons_zero, List.set_cons_succ]
      refine' takeY (i := 2) (oi := _) (v := _) ?hic2 (by kernel_rfl) (by kernel_rfl) (by kernel_rfl) (fun _ _ _ h => h) ?hwc2 ?hyc2 hHeld ?restc2
      case hic2 => (simp only [List.getElem?_toArray, List.getElem?_cons_succ, List.getElem?_cons_zero]; rfl)
      case hwc2 => rfl
      case hyc2 => (intro w hSw; (try dsimp only at hSw); go_simp; try with_reducible rfl)
      try simp only [Act.put, List.setIfInBounds_toArray, List.set_cons_zero, List.set_cons_succ]
      refine' takeY (i := 3) (oi := _) (v := _) ?hic3 (by kernel_rfl) (by kernel_rfl) (by kernel_rfl) (fun _ _ _ h => h) ?hwc3 ?hyc3 hHeld ?restc3
      case hic3 => (simp only [List.getElem?_toArray, List.getElem?_cons_succ, List.getElem?_cons_zero]; rfl)
      case hwc3 => rfl
      case hyc3 => (intro w hSw; (try dsimp only at hSw); go_simp; try with_reducible rfl)
      try simp only [Act.put, List.setIfInBounds_toArray, List.set_cons_zero, List.set_cons_succ]
      refine' takeY (i := 4) (oi := _) (v := _) ?hic4 (by kernel_rfl) (by kernel_rfl) (by kernel_rfl) (fun _ _ _ h => h) ?hwc4 ?hyc4 hHeld ?restc4
      case hic4 => (simp only [List.getElem?_toArray, List.getElem?_cons_succ, List.getElem?_cons_zero]; rfl)
      case hwc4 => rfl
      case hyc4 => (intro w hSw; (try dsimp only at hSw); go_simp; try with_reducible rfl)
      try simp only [Act.put, List.setIfInBounds_toArray, List.set_cons_zero, List.set_cons_succ]
      refine' takeY (i := 6) (oi := _) (v := _) ?hic5 (by kernel_rfl) (by kernel_rfl) (by kernel_rfl) (fun _ _ _ h => h) ?hwc5 ?hyc5 hHeld ?restc5
      case hic5 => (simp only [List.getElem?_toArray, List.getElem?_cons_succ, List.getElem?_cons_zero]; rfl)
      case hwc5 => rfl
      case hyc5 => (intro w hSw; (try dsimp only at hSw); go_simp; try with_reducible rfl)
      try simp only [Act.put, List.setIfInBounds_toArray, List.set_cons_zero, List.set_cons_succ]
      refine' takeY (i := 7) (oi := _) (v := _) ?hic6 (by kernel_rfl) (by kernel_rfl) (by kernel_rfl) (fun _ _ _ h => h) ?hwc6 ?hyc6 hHeld ?restc6
      case hic6 => (simp only [List.getElem?_toArray, List.getElem?_cons_succ, List.getElem?_cons_zero]; rfl)
      case hwc6 => rfl
      case hyc6 => (intro w hSw; (try dsimp only at hSw); go_simp; try with_reducible rfl)
      try simp only [Act.put, List.setIfInBounds_toArray, List.set_cons_zero, List.set_cons_succ]
      refine wpAnyH_ready (rs := [5]) (by kernel_rfl) (by simp) ?_
      refine' AllReadyH.cons (o := _) ?hic7 (fun K hK => ?stepc7) AllReadyH.nil
      case hic7 => (simp only [List.getElem?_toArray, List.getElem?_cons_succ, List.getElem?_cons_zero]; rfl)
      go_simp
      ((with_reducible refine (qof_any NE NP _ MN.out.1 MN.out.2.1 MN.out.2.2.1 MN.out.2.2.2).mono ?_); rintro e w3 ⟨v3, rfl, hr, hb⟩; have S3 := Lib.hid hr; have BL := Lib.hid (below_next BL.out hb); clear hb; clear hr)
      go_wp2_with fail
      clear hHeld
      refine hK.out _ _ (KEPT.out _ BL.out) (fun hHeld => ?_)
      clear hK K
      try simp only [Act.put, List.setIfInBounds_toArray, List.set_cons_zero, List.set_cons_succ]
      refine wpAnyH_ready (rs := [8]) (by kernel_rfl) (by simp) ?_
      refine' AllReadyH.cons (o := _) ?hic8 (fun K hK => ?stepc8) AllReadyH.nil
      case hic8 => (simp only [List.getElem?_toArray, List.getElem?_cons_succ, List.getElem?_cons_zero]; rfl)
      go_simp
      ((with_reducible refine (qof_any E P _ MW.out.1 MW.out.2.1 MW.out.2.2.1 MW.out.2.2.2).mono ?_); rintro e w4 ⟨v4, rfl, hr, hb⟩; have S4 := Lib.hid hr; have S3 := Lib.hid (S3.out.below hb); have BL := Lib.hid (below_next BL.out hb); clear hb; clear hr)
      go_wp2_with fail
      clear hHeld
      refine hK.out _ _ (KEPT.out _ BL.out) (fun hHeld => ?_)
      clear hK K
      try simp only [Act.put, List.setIfInBounds_toArray, List.set_cons_zero, List.set_cons_succ]
      refine wpAnyH_ready (rs := [9]) (by kernel_rfl) (by simp) ?_
      refine' AllReadyH.cons (o := _) ?hic9 (fun K hK => ?stepc9) AllReadyH.nil
      case hic9 => (simp only [List.getElem?_toArray, List.getElem?_cons_succ, List.getElem?_cons_zero]; rfl)
      go_simp
      ((with_reducible refine (qcmp_any _ _ NE NP E P 0 0 1 1 _ S3.out S4.out (by omega) (by omega) k KK.out).mono ?_); rintro e w5 ⟨rfl, hb⟩; have BL := Lib.hid (below_next BL.out hb); clear hb)
      go_wp2_with fail
      clear hHeld
      refine hK.out _ _ (KEPT.out _ BL.out) (fun hHeld => ?_)
      clear hK K
      try simp only [Act.put, List.setIfInBounds_toArray, List.set_cons_zero, List.set_cons_succ]
      refine' takeY (i := 10) (oi := _) (v := _) ?hic10 (by kernel_rfl) (by kernel_rfl) (by kernel_rfl) (fun _ _ _ h => h) ?hwc10 ?hyc10 hHeld ?restc10
      case hic10 => (simp only [List.getElem?_toArray, List.getElem?_cons_succ, List.getElem?_cons_zero]; rfl)
      case hwc10 => rfl
      case hyc10 => (intro w hSw; (try dsimp only at hSw); go_simp; try with_reducible rfl)
      try simp only [Act.put, List.setIfInBounds_toArray, List.set_cons_zero, List.set_cons_succ]
      refine' takeY (i := 11) (oi := _) (v := _) ?hic11 (by kernel_rfl) (by kernel_rfl) (by kernel_rfl) (fun _ _ _ h => h) ?hwc11 ?hyc11 hHeld ?restc11
      case hic11 => (simp only [List.getElem?_toArray, List.getElem?_cons_succ, List.getElem?_cons_zero]; rfl)
      case hwc11 => rfl
      case hyc11 => (intro w hSw; (try dsimp only at hSw); go_simp; try with_reducible rfl)
      try simp only [Act.put, List.setIfInBounds_toArray, List.set_cons_zero, List.set_cons_succ]
      refine wpAnyH_done (by kernel_rfl) ?_ _
      refine NoPanic.normal ?_
      have C0 := KEPT.out _ BL.out
      have X9 := Lib.hid (X0.out.below BL.out)
      have B9 := Lib.hid (below_next B0.out BL.out)
      obtain ⟨c0, c1, c2, c3⟩ := C0
      have x0 := X9.out.c0; have x1 := X9.out.c1
      have f0 := Blk.free X9.out 0; have f1 := Blk.free X9.out 1
      clear KEPT
      go_wp2
      exact bodyPost_ret (v := .agg #[.int .i64 E, .int .i64 P]) (by simp [results, Try.results75, go_sem, x0, x1]) rfl ⟨rfl, (B9.out.setCell (Nat.le_succ _) _).setCell (Nat.le_succ _) _⟩
end Go.Proofs.Ytphlkpkbdnddlaa
