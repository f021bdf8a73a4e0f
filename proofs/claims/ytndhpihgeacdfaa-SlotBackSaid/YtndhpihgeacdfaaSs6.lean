/-
  A reader's next number; the document's reader.next (regattaref16): contract.
-/
import Derived.Test.YtndhpihgeacdfaaSs5
namespace Go.Proofs.Ytndhpihgeacdfaa
open Go.RowKit

/-- the next number, where the reader stands behind it, whether it is bad -/
def nextV (l : List UInt8) (p : Nat) (bad : Bool) (most : Int) : Int × Nat × Bool :=
  match rdV (l.drop p) with
  | some (n, k) => if bad = true ∨ most < n then (0, p, true) else (n, p + k, false)
  | none => (0, p, true)
theorem rd_some {l : List UInt8} {n k : Nat} (h : rdV l = some (n, k)) : 1 ≤ k ∧ k ≤ 6 ∧ k ≤ l.length ∧ num n = l.take k ∧ n < 4398046511104 := by
  unfold rdV at h
  split at h
  · cases h
  · rename_i j hj
    rw [List.findIdx?_eq_some_iff_getElem] at hj
    obtain ⟨hl, _, _⟩ := hj
    rw [List.length_take] at hl
    split at h
    · rename_i e
      cases h
      have h1 := valN_lt (l.take (j + 1))
      have h2 := pow6 (show (l.take (j + 1)).length ≤ 6 by rw [List.length_take]; omega)
      exact ⟨by omega, by omega, by omega, e, by omega⟩
    · cases h
theorem nextV_bad {l : List UInt8} {p : Nat} {bad : Bool} {most : Int} (h : bad = true ∨ gotE p (rdV (l.drop p)) = 0 ∨ most < gotN (rdV (l.drop p))) : nextV l p bad most = (0, p, true) := by
  unfold nextV
  cases hv : rdV (l.drop p) with
  | none => rfl
  | some v =>
    obtain ⟨n, k⟩ := v
    have := rd_some hv
    rw [hv] at h
    simp only [gotN, gotE] at h ⊢
    rw [if_pos]
    rcases h with h | h | h
    · exact .inl h
    · omega
    · exact .inr h
theorem nextV_ok {l : List UInt8} {p : Nat} {bad : Bool} {most : Int} (h : bad = false) (h1 : gotE p (rdV (l.drop p)) ≠ 0) (h2 : ¬ most < gotN (rdV (l.drop p))) : nextV l p bad most = ((gotN (rdV (l.drop p)) : Int), gotE p (rdV (l.drop p)), false) := by
  unfold nextV
  cases hv : rdV (l.drop p) with
  | none => rw [hv] at h1; exact absurd rfl h1
  | some v =>
    obtain ⟨n, k⟩ := v
    rw [hv] at h2
    simp only [gotN, gotE] at h2 ⊢
    rw [if_neg]
    rintro (q | q)
    · rw [h] at q; cases q
    · exact h2 q
set_option maxRecDepth 20000 in
set_option maxHeartbeats 4000000 in
theorem r16next_any (s : ByteArray) (p : Nat) (bad : Bool) (most : Int) (g : Nat) (w : World) (hp : p ≤ s.size) (hs : s.size ≤ 1000000000) (h : Blk w 58 g #[.string s, .int .i64 p, .bool bad]) :
    Calls Try.prog 30 #[.pointer (some ⟨g, 0, none⟩), .int .i64 most] w fun e w' =>
      e = .returned (.int .i64 (nextV s.data.toList p bad most).1) ∧ Blk w' 58 g #[.string s, .int .i64 (nextV s.data.toList p bad most).2.1, .bool (nextV s.data.toList p bad most).2.2] ∧ Keeps (fun k => k = g) w w' := by
  have PS := Lib.hid hp
  have SZ := Lib.hid hs
  have H := Lib.hid h
  obtain ⟨l, hl⟩ : ∃ l, s.data.toList.drop p = l := ⟨_, rfl⟩
  have KEPT := Lib.hid (fun (W : World) (hb : Below w.heap.size w W) => (⟨(h.below hb).cell 0, (h.below hb).cell 1, (h.below hb).cell 2⟩ : W.cell? ⟨g, 0, none⟩ = some (.string s) ∧ W.cell? ⟨g, 1, none⟩ = some (.int .i64 p) ∧ W.cell? ⟨g, 2, none⟩ = some (.bool bad)))
  clear h hp hs
  go_enter Try.func30, Try.ntmps30
  go_upto_region 1 with fail
  have BL := Lib.hid (show Below w.heap.size w w.drew from bdN (Below.refl _ _) 1)
  refine wp_region_noPanic ?_
  refine wp_region_held_drew (S := fun w' => w'.cell? ⟨g, 0, none⟩ = some (.string s) ∧ w'.cell? ⟨g, 1, none⟩ = some (.int .i64 p) ∧ w'.cell? ⟨g, 2, none⟩ = some (.bool bad)) (by kernel_rfl) (KEPT.out _ BL.out) (fun hHeld => ?_)
  refine' takeY (i := 0) (oi := _) (v := _) ?him1 (by kernel_rfl) (by kernel_rfl) (by kernel_rfl) (fun _ _ _ h => h) ?hwm1 ?hym1 hHeld ?restm1
  case him1 => (simp only [List.getElem?_toArray, List.getElem?_cons_zero]; rfl)
  case hwm1 => rfl
  case hym1 => (intro w hSw; (try dsimp only at hSw); go_simp; try with_reducible rfl)
  try simp only [Act.put, List.setIfInBounds_toArray, List.set_cons_zero, List.set_cons_succ]
  refine' takeY (i := 1) (oi := _) (v := _) ?him2 (by kernel_rfl) (by kernel_rfl) (by kernel_rfl) (fun _ _ _ h => h) ?hwm2 ?hym2 hHeld ?restm2
  case him2 => (simp only [List.getElem?_toArray, List.getElem?_cons_succ, List.getElem?_cons_zero]; rfl)
  case hwm2 => rfl
  case hym2 => (intro w hSw; (try dsimp only at hSw); go_simp; try with_reducible rfl)
  try simp only [Act.put, List.setIfInBounds_toArray, List.set_cons_zero, List.set_cons_succ]
  refine' takeY (i := 2) (oi := _) (v := _) ?him3 (by kernel_rfl) (by kernel_rfl) (by kernel_rfl) (fun _ _ _ h => h) ?hwm3 ?hym3 hHeld ?restm3
  case him3 => (simp only [List.getElem?_toArray, List.getElem?_cons_succ, List.getElem?_cons_zero]; rfl)
  case hwm3 => rfl
  case hym3 => (intro w hSw; (try dsimp only at hSw); go_simp; try with_reducible rfl)
  try simp only [Act.put, List.setIfInBounds_toArray, List.set_cons_zero, List.set_cons_succ]
  refine' takeY (i := 3) (oi := _) (v := _) ?him4 (by kernel_rfl) (by kernel_rfl) (by kernel_rfl) (fun _ _ _ h => h) ?hwm4 ?hym4 hHeld ?restm4
  case him4 => (simp only [List.getElem?_toArray, List.getElem?_cons_succ, List.getElem?_cons_zero]; rfl)
  case hwm4 => rfl
  case hym4 => (intro w hSw; (try dsimp only at hSw); go_simp; try with_reducible rfl)
  try simp only [Act.put, List.setIfInBounds_toArray, List.set_cons_zero, List.set_cons_succ]
  refine' takeY (i := 4) (oi := _) (v := _) ?him5 (by kernel_rfl) (by kernel_rfl) (by kernel_rfl) (fun _ _ _ h => h) ?hwm5 ?hym5 hHeld ?restm5
  case him5 => (simp only [List.getElem?_toArray, List.getElem?_cons_succ, List.getElem?_cons_zero]; rfl)
  case hwm5 => rfl
  case hym5 => (intro w hSw; (try dsimp only at hSw); go_simp; try with_reducible rfl)
  try simp only [Act.put, List.setIfInBounds_toArray, List.set_cons_zero, List.set_cons_succ]
  refine' takeY (i := 5) (oi := _) (v := _) ?him6 (by kernel_rfl) (by kernel_rfl) (by kernel_rfl) (fun _ _ _ h => h) ?hwm6 ?hym6 hHeld ?restm6
  case him6 => (simp only [List.getElem?_toArray, List.getElem?_cons_succ, List.getElem?_cons_zero]; rfl)
  case hwm6 => rfl
  case hym6 => (intro w hSw; (try dsimp only at hSw); go_simp; try with_reducible rfl)
  try simp only [Act.put, List.setIfInBounds_toArray, List.set_cons_zero, List.set_cons_succ]
  refine' takeY (i := 6) (oi := _) (v := _) ?him7 (by kernel_rfl) (by kernel_rfl) (by kernel_rfl) (fun _ _ _ h => h) ?hwm7 ?hym7 hHeld ?restm7
  case him7 => (simp only [List.getElem?_toArray, List.getElem?_cons_succ, List.getElem?_cons_zero]; rfl)
  case hwm7 => rfl
  case hym7 => (intro w hSw; (try dsimp only at hSw); go_simp; try with_reducible rfl)
  try simp only [Act.put, List.setIfInBounds_toArray, List.set_cons_zero, List.set_cons_succ]
  refine' takeY (i := 7) (oi := _) (v := _) ?him8 (by kernel_rfl) (by kernel_rfl) (by kernel_rfl) (fun _ _ _ h => h) ?hwm8 ?hym8 hHeld ?restm8
  case him8 => (simp only [List.getElem?_toArray, List.getElem?_cons_succ, List.getElem?_cons_zero]; rfl)
  case hwm8 => rfl
  case hym8 => (intro w hSw; (try dsimp only at hSw); go_simp; try with_reducible rfl)
  try simp only [Act.put, List.setIfInBounds_toArray, List.set_cons_zero, List.set_cons_succ]
  refine wpAnyH_ready (rs := [8, 9]) (by kernel_rfl) (by simp) ?_
  refine' AllReadyH.cons (o := _) ?him10 (fun K hK => ?stepm10) (AllReadyH.cons (o := _) ?him9 (fun K hK => ?stepm9) (AllReadyH.nil))
  case him10 => (simp only [List.getElem?_toArray, List.getElem?_cons_succ, List.getElem?_cons_zero]; rfl)
  case him9 => (simp only [List.getElem?_toArray, List.getElem?_cons_succ, List.getElem?_cons_zero]; rfl)
  case stepm10 =>
    go_simp
    (go_at_call 37; ((with_reducible refine (r16read_any s p _ PS.out SZ.out).mono ?_)); rintro e w6 ⟨rfl, hb⟩; dsimp only; rw [hl]; have BL := Lib.hid (below_next BL.out hb); clear hb)
    go_wp2_with fail
    clear hHeld
    refine hK.out _ _ (by first | exact KEPT.out _ BL.out | exact KEPT.out _ (below_next BL.out (wbox _ _)) | exact KEPT.out _ (show Below w.heap.size w (w.alloc _).drew from bdN (wbox w _) 1) | exact KEPT.out _ ((BL.out.setCell (Nat.le_refl _) _).setCell (Nat.le_refl _) _)) (fun hHeld => ?_)
    clear hK K
    try simp only [Act.put, List.setIfInBounds_toArray, List.set_cons_zero, List.set_cons_succ]
    refine wpAnyH_ready (rs := [9]) (by kernel_rfl) (by simp) ?_
    refine' AllReadyH.cons (o := _) ?him11 (fun K hK => ?stepm11) (AllReadyH.nil)
    case him11 => (simp only [List.getElem?_toArray, List.getElem?_cons_succ, List.getElem?_cons_zero]; rfl)
    case stepm11 =>
      go_simp
      clear hHeld
      refine hK.out _ _ (by first | exact KEPT.out _ BL.out | exact KEPT.out _ (below_next BL.out (wbox _ _)) | exact KEPT.out _ (show Below w.heap.size w (w.alloc _).drew from bdN (wbox w _) 1) | exact KEPT.out _ ((BL.out.setCell (Nat.le_refl _) _).setCell (Nat.le_refl _) _)) (fun hHeld => ?_)
      clear hK K
      try simp only [Act.put, List.setIfInBounds_toArray, List.set_cons_zero, List.set_cons_succ]
      refine wpAnyH_ready (rs := [10]) (by kernel_rfl) (by simp) ?_
      refine' AllReadyH.cons (o := _) ?him12 (fun K hK => ?stepm12) (AllReadyH.nil)
      case him12 => (simp only [List.getElem?_toArray, List.getElem?_cons_succ, List.getElem?_cons_zero]; rfl)
      case stepm12 =>
        go_simp
        clear hHeld
        refine hK.out _ _ (by first | exact KEPT.out _ BL.out | exact KEPT.out _ (below_next BL.out (wbox _ _)) | exact KEPT.out _ (show Below w.heap.size w (w.alloc _).drew from bdN (wbox w _) 1) | exact KEPT.out _ ((BL.out.setCell (Nat.le_refl _) _).setCell (Nat.le_refl _) _)) (fun hHeld => ?_)
        clear hK K
        try simp only [Act.put, List.setIfInBounds_toArray, List.set_cons_zero, List.set_cons_succ]
        refine wpAnyH_done (by kernel_rfl) ?_ _
        refine NoPanic.normal ?_
        have X5 := Lib.hid (show Blk (w6.alloc (.cells #[.int .i64 (gotN (rdV l)), .int .i64 (gotE p (rdV l))] 67)) 67 (w6.heap.size) #[.int .i64 (gotN (rdV l)), .int .i64 (gotE p (rdV l))] from Blk.new _ _ _)
        have B5 := Lib.hid (show Below w.heap.size w (w6.alloc (.cells #[.int .i64 (gotN (rdV l)), .int .i64 (gotE p (rdV l))] 67)) from below_next BL.out (wbox _ _))
        have G5 := Lib.hid (H.out.below B5.out)
        have NB := Lib.hid (show (w6.heap.size) ≠ g from by have := BL.out.size; have := H.out.lt; omega)
        obtain ⟨W5, hW5⟩ : ∃ W5, w6.alloc (.cells #[.int .i64 (gotN (rdV l)), .int .i64 (gotE p (rdV l))] 67) = W5 := ⟨_, rfl⟩
        obtain ⟨b, hb⟩ : ∃ b, w6.heap.size = b := ⟨_, rfl⟩
        rw [hW5] at X5 B5 G5
        rw [hb] at X5 NB
        rw [hW5]
        try rw [hb]
        clear hW5 hb KEPT BL
        have y0 := X5.out.cell 0; have y1 := X5.out.cell 1
        have z1 := G5.out.cell 1; have z2 := G5.out.cell 2
        have f1 := G5.out.free 1; have f2 := G5.out.free 2
        simp at y0 y1 z1 z2
        have nb : b ≠ g := NB.out
        have VB := Lib.hid (fun q => nextV_bad (l := s.data.toList) (p := p) (bad := bad) (most := most) q)
        have VO := Lib.hid (fun q1 q2 q3 => nextV_ok (l := s.data.toList) (p := p) (bad := bad) (most := most) q1 q2 q3)
        rw [hl] at VB VO
        obtain ⟨N, hN⟩ : ∃ N, gotN (rdV l) = N := ⟨_, rfl⟩
        obtain ⟨E, hE⟩ : ∃ E, gotE p (rdV l) = E := ⟨_, rfl⟩
        rw [hN] at y0 VB VO
        rw [hE] at y1 VB VO
        rw [hN, hE]
        clear hN hE
        by_cases c0 : bad = true
        · have V := Lib.hid (VB.out (.inl c0))
          subst c0
          go_wp2
          go_ret
          exact ⟨by rw [V.out]; rfl, by rw [V.out]; exact heap_setCell_same W5 g 2 _ _ _ G5.out, (Keeps.of (F := fun k => k = g) B5.out).set (g := g) (.inl rfl) _ _⟩
        · have c0' : bad = false := by simpa using c0
          subst c0'
          by_cases c1 : E = 0
          · have V := Lib.hid (VB.out (.inr (.inl c1)))
            have d1 : ((E : Int) == 0) = true := by simp [c1]
            go_wp2
            go_ret
            exact ⟨by rw [V.out]; rfl, by rw [V.out]; exact heap_setCell_same W5 g 2 _ _ _ G5.out, (Keeps.of (F := fun k => k = g) B5.out).set (g := g) (.inl rfl) _ _⟩
          · have d1 : ((E : Int) == 0) = false := by simp [c1]
            by_cases c2 : most < N
            · have V := Lib.hid (VB.out (.inr (.inr c2)))
              have d2 : decide (most < (N : Int)) = true := by simp [c2]
              go_wp2
              go_ret
              exact ⟨by rw [V.out]; rfl, by rw [V.out]; exact heap_setCell_same W5 g 2 _ _ _ G5.out, (Keeps.of (F := fun k => k = g) B5.out).set (g := g) (.inl rfl) _ _⟩
            · have V := Lib.hid (VO.out rfl c1 c2)
              have d2 : decide (most < (N : Int)) = false := by simp; omega
              go_wp2
              go_ret
              exact ⟨by rw [V.out]; rfl, by rw [V.out]; exact heap_setCell_same W5 g 1 _ _ _ G5.out, (Keeps.of (F := fun k => k = g) B5.out).set (g := g) (.inl rfl) _ _⟩
  case stepm9 =>
    go_simp
    clear hHeld
    refine hK.out _ _ (by first | exact KEPT.out _ BL.out | exact KEPT.out _ (below_next BL.out (wbox _ _)) | exact KEPT.out _ (show Below w.heap.size w (w.alloc _).drew from bdN (wbox w _) 1) | exact KEPT.out _ ((BL.out.setCell (Nat.le_refl _) _).setCell (Nat.le_refl _) _)) (fun hHeld => ?_)
    clear hK K
    try simp only [Act.put, List.setIfInBounds_toArray, List.set_cons_zero, List.set_cons_succ]
    refine wpAnyH_ready (rs := [8]) (by kernel_rfl) (by simp) ?_
    refine' AllReadyH.cons (o := _) ?him13 (fun K hK => ?stepm13) (AllReadyH.nil)
    case him13 => (simp only [List.getElem?_toArray, List.getElem?_cons_succ, List.getElem?_cons_zero]; rfl)
    case stepm13 =>
      go_simp
      (go_at_call 37; ((with_reducible refine (r16read_any s p _ PS.out SZ.out).mono ?_)); rintro e w6 ⟨rfl, hb⟩; dsimp only; rw [hl]; have X6 := Lib.hid ((show Blk (w.alloc (.cells #[.int .i64 0, .int .i64 0] 67)).drew 67 w.heap.size #[.int .i64 0, .int .i64 0] from Blk.new _ _ _).below hb); have BL := Lib.hid (show Below w.heap.size w w6 from below_next (show Below w.heap.size w (w.alloc (.cells #[.int .i64 0, .int .i64 0] 67)).drew from bdN (wbox w _) 1) hb); have q0 := X6.out.cell 0; have q1 := X6.out.cell 1; have q2 := X6.out.free 0; have q3 := X6.out.free 1; simp at q0 q1; clear hb)
      go_wp2_with fail
      clear hHeld
      refine hK.out _ _ (by first | exact KEPT.out _ BL.out | exact KEPT.out _ (below_next BL.out (wbox _ _)) | exact KEPT.out _ (show Below w.heap.size w (w.alloc _).drew from bdN (wbox w _) 1) | exact KEPT.out _ ((BL.out.setCell (Nat.le_refl _) _).setCell (Nat.le_refl _) _)) (fun hHeld => ?_)
      clear hK K
      try simp only [Act.put, List.setIfInBounds_toArray, List.set_cons_zero, List.set_cons_succ]
      refine wpAnyH_ready (rs := [10]) (by kernel_rfl) (by simp) ?_
      refine' AllReadyH.cons (o := _) ?him14 (fun K hK => ?stepm14) (AllReadyH.nil)
      case him14 => (simp only [List.getElem?_toArray, List.getElem?_cons_succ, List.getElem?_cons_zero]; rfl)
      case stepm14 =>
        go_simp
        clear hHeld
        refine hK.out _ _ (by first | exact KEPT.out _ BL.out | exact KEPT.out _ (below_next BL.out (wbox _ _)) | exact KEPT.out _ (show Below w.heap.size w (w.alloc _).drew from bdN (wbox w _) 1) | exact KEPT.out _ ((BL.out.setCell (Nat.le_refl _) _).setCell (Nat.le_refl _) _)) (fun hHeld => ?_)
        clear hK K
        try simp only [Act.put, List.setIfInBounds_toArray, List.set_cons_zero, List.set_cons_succ]
        refine wpAnyH_done (by kernel_rfl) ?_ _
        refine NoPanic.normal ?_
        have X5 := Lib.hid (show Blk ((w6.setCell ⟨w.heap.size, 0, none⟩ (.int .i64 (gotN (rdV l)))).setCell ⟨w.heap.size, 1, none⟩ (.int .i64 (gotE p (rdV l)))) 67 (w.heap.size) #[.int .i64 (gotN (rdV l)), .int .i64 (gotE p (rdV l))] from heap_setCell_same _ w.heap.size 1 _ _ _ (heap_setCell_same w6 w.heap.size 0 _ _ _ X6.out))
        have B5 := Lib.hid (show Below w.heap.size w ((w6.setCell ⟨w.heap.size, 0, none⟩ (.int .i64 (gotN (rdV l)))).setCell ⟨w.heap.size, 1, none⟩ (.int .i64 (gotE p (rdV l)))) from (BL.out.setCell (Nat.le_refl _) _).setCell (Nat.le_refl _) _)
        have G5 := Lib.hid (H.out.below B5.out)
        have NB := Lib.hid (show (w.heap.size) ≠ g from by have := H.out.lt; omega)
        obtain ⟨W5, hW5⟩ : ∃ W5, (w6.setCell ⟨w.heap.size, 0, none⟩ (.int .i64 (gotN (rdV l)))).setCell ⟨w.heap.size, 1, none⟩ (.int .i64 (gotE p (rdV l))) = W5 := ⟨_, rfl⟩
        obtain ⟨b, hb⟩ : ∃ b, w.heap.size = b := ⟨_, rfl⟩
        rw [hW5] at X5 B5 G5
        rw [hb] at X5 NB
        rw [hW5]
        try rw [hb]
        clear hW5 hb KEPT BL
        have y0 := X5.out.cell 0; have y1 := X5.out.cell 1
        have z1 := G5.out.cell 1; have z2 := G5.out.cell 2
        have f1 := G5.out.free 1; have f2 := G5.out.free 2
        simp at y0 y1 z1 z2
        have nb : b ≠ g := NB.out
        have VB := Lib.hid (fun q => nextV_bad (l := s.data.toList) (p := p) (bad := bad) (most := most) q)
        have VO := Lib.hid (fun q1 q2 q3 => nextV_ok (l := s.data.toList) (p := p) (bad := bad) (most := most) q1 q2 q3)
        rw [hl] at VB VO
        obtain ⟨N, hN⟩ : ∃ N, gotN (rdV l) = N := ⟨_, rfl⟩
        obtain ⟨E, hE⟩ : ∃ E, gotE p (rdV l) = E := ⟨_, rfl⟩
        rw [hN] at y0 VB VO
        rw [hE] at y1 VB VO
        rw [hN, hE]
        clear hN hE
        by_cases c0 : bad = true
        · have V := Lib.hid (VB.out (.inl c0))
          subst c0
          go_wp2
          go_ret
          exact ⟨by rw [V.out]; rfl, by rw [V.out]; exact heap_setCell_same W5 g 2 _ _ _ G5.out, (Keeps.of (F := fun k => k = g) B5.out).set (g := g) (.inl rfl) _ _⟩
        · have c0' : bad = false := by simpa using c0
          subst c0'
          by_cases c1 : E = 0
          · have V := Lib.hid (VB.out (.inr (.inl c1)))
            have d1 : ((E : Int) == 0) = true := by simp [c1]
            go_wp2
            go_ret
            exact ⟨by rw [V.out]; rfl, by rw [V.out]; exact heap_setCell_same W5 g 2 _ _ _ G5.out, (Keeps.of (F := fun k => k = g) B5.out).set (g := g) (.inl rfl) _ _⟩
          · have d1 : ((E : Int) == 0) = false := by simp [c1]
            by_cases c2 : most < N
            · have V := Lib.hid (VB.out (.inr (.inr c2)))
              have d2 : decide (most < (N : Int)) = true := by simp [c2]
              go_wp2
              go_ret
              exact ⟨by rw [V.out]; rfl, by rw [V.out]; exact heap_setCell_same W5 g 2 _ _ _ G5.out, (Keeps.of (F := fun k => k = g) B5.out).set (g := g) (.inl rfl) _ _⟩
            · have V := Lib.hid (VO.out rfl c1 c2)
              have d2 : decide (most < (N : Int)) = false := by simp; omega
              go_wp2
              go_ret
              exact ⟨by rw [V.out]; rfl, by rw [V.out]; exact heap_setCell_same W5 g 1 _ _ _ G5.out, (Keeps.of (F := fun k => k = g) B5.out).set (g := g) (.inl rfl) _ _⟩
end Go.Proofs.Ytndhpihgeacdfaa
