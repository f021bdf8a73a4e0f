/-
  The walk of the law PrioTells.
-/
import Derived.Test.YtkiolkceaibmgaaPr6
namespace Go.Proofs.Ytkiolkceaibmgaa
open Go.RowKit

theorem r6rank_at (a : Option Addr) (len cap : Nat) (es : List Ent) (id r : Int) (w : World) (h : RowE w a len cap es) (hl : len ≤ 1000) (hr : rankE es id = r) :
    Calls Try.prog 17 #[.slice a len cap, .int .i64 id] w fun e w' => e = .returned (.int .i64 r) ∧ Below w.heap.size w w' := hr ▸ r6rank_any a len cap es id w h hl
theorem r6less_at (a b : Ent) (p : Bool) (w : World) (h : lessB a b = p) : Calls Try.prog 19 #[.agg #[.int .i64 a.id, .int .i64 a.idx, .int .i64 a.rel, .int .i64 a.dl, .int .i64 a.bit, .int .i64 a.grp], .agg #[.int .i64 b.id, .int .i64 b.idx, .int .i64 b.rel, .int .i64 b.dl, .int .i64 b.bit, .int .i64 b.grp]] w fun e w' => e = .returned (.bool p) ∧ Below w.heap.size w w' := h ▸ r6less_any a b w
set_option maxRecDepth 20000 in
set_option maxHeartbeats 4000000 in
theorem tells6_walk (a : Option Addr) (len cap : Nat) (es : List Ent) (q0 q1 : Int) (x y : Ent) (w : World) (h : RowE w a len cap es) : Calls Try.prog 3 #[.slice a len cap, .agg #[.int .i64 q0, .int .i64 q1], .agg #[.int .i64 x.id, .int .i64 x.idx, .int .i64 x.rel, .int .i64 x.dl, .int .i64 x.bit, .int .i64 x.grp, .int .i64 y.id, .int .i64 y.idx, .int .i64 y.rel, .int .i64 y.dl, .int .i64 y.bit, .int .i64 y.grp]] w fun e w' => e = .returned (.bool true) ∧ Below w.heap.size w w' := by
  have H := Lib.hid h
  clear h
  obtain ⟨p, hp⟩ : ∃ p, lessB x y = p := ⟨_, rfl⟩
  have HV := Lib.hid hp
  clear hp
  have Q := Lib.hid ((Blk.new w 23 #[Value.int .i64 q0, Value.int .i64 q1]).alloc (Obj.cells #[.int .i64 x.id, .int .i64 x.idx, .int .i64 x.rel, .int .i64 x.dl, .int .i64 x.bit, .int .i64 x.grp, .int .i64 y.id, .int .i64 y.idx, .int .i64 y.rel, .int .i64 y.dl, .int .i64 y.bit, .int .i64 y.grp] 28))
  have N := Lib.hid (Blk.new2 w (Obj.cells #[Value.int .i64 q0, Value.int .i64 q1] 23) 28 #[.int .i64 x.id, .int .i64 x.idx, .int .i64 x.rel, .int .i64 x.dl, .int .i64 x.bit, .int .i64 x.grp, .int .i64 y.id, .int .i64 y.idx, .int .i64 y.rel, .int .i64 y.dl, .int .i64 y.bit, .int .i64 y.grp])
  go_enter Try.func3, Try.ntmps3
  go_wp2_with fail
  refine (l6awake_any _).mono ?_
  rintro e w1 ⟨rfl, hb⟩
  have B := Lib.hid (below_next (below_next (wbox _ _) (wbox _ _)) hb)
  have H := Lib.hid (H.out.below B.out)
  have Q := Lib.hid (Q.out.below hb)
  have N := Lib.hid (N.out.below hb)
  clear hb
  go_wp2_with fail
  refine (l6few_any a len cap es _ H.out).mono ?_
  rintro e wz ⟨m, rfl, hrow, m20, rfl⟩
  obtain ⟨es', hes⟩ : ∃ es', es.take 20 = es' := ⟨_, rfl⟩
  rw [hes] at hrow
  have RM := Lib.hid hrow
  clear hrow hes
  go_wp2_with fail
  refine (psort_any a m cap es' _ RM.out (by omega)).mono ?_
  rintro e w2 ⟨pa, pl, pc, rfl, hr, hb, _⟩
  have RM := Lib.hid (RM.out.below hb); have Q := Lib.hid (Q.out.below hb); have N := Lib.hid (N.out.below hb)
  have B := Lib.hid (below_next B.out hb)
  have RP := Lib.hid hr
  have LP := Lib.hid hr.len
  clear hr hb
  go_wp2_with fail
  refine (r6sort_any a m cap es' _ RM.out (by omega)).mono ?_
  rintro e w3 ⟨ra, rl, rc, rfl, hr, hb, _⟩
  have RM := Lib.hid (RM.out.below hb); have Q := Lib.hid (Q.out.below hb); have N := Lib.hid (N.out.below hb); have RP := Lib.hid (RP.out.below hb)
  have B := Lib.hid (below_next B.out hb)
  obtain rfl : pl = rl := LP.out.symm.trans hr.len
  have RR := Lib.hid hr
  clear hr hb
  go_wp2_with fail
  refine (r6same_yes pa ra pl pc rc _ _ RP.out RR.out).mono ?_
  rintro e w4 ⟨rfl, hb⟩
  have RM := Lib.hid (RM.out.below hb); have Q := Lib.hid (Q.out.below hb); have N := Lib.hid (N.out.below hb)
  have B := Lib.hid (below_next B.out hb)
  clear hb RP RR LP
  go_upto_region 4 with fail
  have RM := Lib.hid RM.out.drew; have Q := Lib.hid Q.out.drew; have N := Lib.hid N.out.drew; have B := Lib.hid B.out.drew
  have KEPT := Lib.hid (show ∀ w' : World, Below w4.drew.heap.size w4.drew w' → w'.cell? ⟨w.heap.size, 0, none⟩ = some (.int .i64 q0) from fun w' h => (Q.out.below h).cell 0)
  have BL := Lib.hid (Below.refl w4.drew.heap.size w4.drew)
  refine wp_region_noPanic ?_
  refine wp_region_held_drew (S := fun w' => w'.cell? ⟨w.heap.size, 0, none⟩ = some (.int .i64 q0)) (by kernel_rfl) (KEPT.out _ BL.out) (fun hHeld => ?_)
  refine' takeY (i := 0) (oi := _) (v := _) ?hia0 (by kernel_rfl) (by kernel_rfl) (by kernel_rfl) (fun _ _ _ h => h) ?hwa0 ?hya0 hHeld ?resta0
  case hia0 => (simp only [List.getElem?_toArray, List.getElem?_cons_zero]; rfl)
  case hwa0 => rfl
  case hya0 => (intro w hSw; (try dsimp only at hSw); go_simp; try with_reducible rfl)
  try simp only [Act.put, List.setIfInBounds_toArray, List.set_cons_zero, List.set_cons_succ]
  refine' takeY (i := 1) (oi := _) (v := _) ?hia1 (by kernel_rfl) (by kernel_rfl) (by kernel_rfl) (fun _ _ _ h => h) ?hwa1 ?hya1 hHeld ?resta1
  case hia1 => (simp only [List.getElem?_toArray, List.getElem?_cons_succ, List.getElem?_cons_zero]; rfl)
  case hwa1 => rfl
  case hya1 => (intro w hSw; (try dsimp only at hSw); go_simp; try with_reducible rfl)
  try simp only [Act.put, List.setIfInBounds_toArray, List.set_cons_zero, List.set_cons_succ]
  refine' takeY (i := 2) (oi := _) (v := _) ?hia2 (by kernel_rfl) (by kernel_rfl) (by kernel_rfl) (fun _ _ _ h => h) ?hwa2 ?hya2 hHeld ?resta2
  case hia2 => (simp only [List.getElem?_toArray, List.getElem?_cons_succ, List.getElem?_cons_zero]; rfl)
  case hwa2 => rfl
  case hya2 => (intro w hSw; (try dsimp only at hSw); go_simp; try with_reducible rfl)
  try simp only [Act.put, List.setIfInBounds_toArray, List.set_cons_zero, List.set_cons_succ]
  refine' takeY (i := 4) (oi := _) (v := _) ?hia3 (by kernel_rfl) (by kernel_rfl) (by kernel_rfl) (fun _ _ _ h => h) ?hwa3 ?hya3 hHeld ?resta3
  case hia3 => (simp only [List.getElem?_toArray, List.getElem?_cons_succ, List.getElem?_cons_zero]; rfl)
  case hwa3 => rfl
  case hya3 => (intro w hSw; (try dsimp only at hSw); go_simp; try with_reducible rfl)
  try simp only [Act.put, List.setIfInBounds_toArray, List.set_cons_zero, List.set_cons_succ]
  refine' takeY (i := 5) (oi := _) (v := _) ?hia4 (by kernel_rfl) (by kernel_rfl) (by kernel_rfl) (fun _ _ _ h => h) ?hwa4 ?hya4 hHeld ?resta4
  case hia4 => (simp only [List.getElem?_toArray, List.getElem?_cons_succ, List.getElem?_cons_zero]; rfl)
  case hwa4 => rfl
  case hya4 => (intro w hSw; (try dsimp only at hSw); go_simp; try with_reducible rfl)
  try simp only [Act.put, List.setIfInBounds_toArray, List.set_cons_zero, List.set_cons_succ]
  refine' takeY (i := 6) (oi := _) (v := _) ?hia5 (by kernel_rfl) (by kernel_rfl) (by kernel_rfl) (fun _ _ _ h => h) ?hwa5 ?hya5 hHeld ?resta5
  case hia5 => (simp only [List.getElem?_toArray, List.getElem?_cons_succ, List.getElem?_cons_zero]; rfl)
  case hwa5 => rfl
  case hya5 => (intro w hSw; (try dsimp only at hSw); go_simp; try with_reducible rfl)
  try simp only [Act.put, List.setIfInBounds_toArray, List.set_cons_zero, List.set_cons_succ]
  refine wpAnyH_ready (rs := [3]) (by kernel_rfl) (by simp) ?_
  refine' AllReadyH.cons (o := _) ?hia6 (fun K hK => ?stepa6) AllReadyH.nil
  case hia6 => (simp only [List.getElem?_toArray, List.getElem?_cons_succ, List.getElem?_cons_zero]; rfl)
  go_simp
  (go_at_call 14; (with_reducible refine (ppick_any a m cap es' q0 _ RM.out (by omega)).mono ?_); rintro e w5 ⟨pa, pl, pc, rfl, hr, hb, _⟩; have RM := Lib.hid (RM.out.below hb); have BL := Lib.hid (below_next BL.out hb); have RP := Lib.hid hr; have LP := Lib.hid hr.len; clear hr hb)
  go_wp2_with fail
  clear hHeld
  refine hK.out _ _ (KEPT.out _ BL.out) (fun hHeld => ?_)
  clear hK K
  try simp only [Act.put, List.setIfInBounds_toArray, List.set_cons_zero, List.set_cons_succ]
  refine wpAnyH_ready (rs := [7]) (by kernel_rfl) (by simp) ?_
  refine' AllReadyH.cons (o := _) ?hia7 (fun K hK => ?stepa7) AllReadyH.nil
  case hia7 => (simp only [List.getElem?_toArray, List.getElem?_cons_succ, List.getElem?_cons_zero]; rfl)
  go_simp
  (go_at_call 15; (with_reducible refine (r6pick_any a m cap es' q0 _ RM.out (by omega)).mono ?_); rintro e w6 ⟨ra, rl, rc, rfl, hr, hb, _⟩; have RM := Lib.hid (RM.out.below hb); have BL := Lib.hid (below_next BL.out hb); have RP := Lib.hid (RP.out.below hb); have RR := Lib.hid (show RowE w6 ra pl rc (pickE es' q0) by have := hr.len; rw [LP.out] at this; rw [this]; exact hr); obtain rfl : pl = rl := (LP.out.symm.trans hr.len); clear hr hb)
  go_wp2_with fail
  clear hHeld
  refine hK.out _ _ (KEPT.out _ BL.out) (fun hHeld => ?_)
  clear hK K
  try simp only [Act.put, List.setIfInBounds_toArray, List.set_cons_zero, List.set_cons_succ]
  refine wpAnyH_ready (rs := [8]) (by kernel_rfl) (by simp) ?_
  refine' AllReadyH.cons (o := _) ?hia8 (fun K hK => ?stepa8) AllReadyH.nil
  case hia8 => (simp only [List.getElem?_toArray, List.getElem?_cons_succ, List.getElem?_cons_zero]; rfl)
  go_simp
  (go_at_call 11; (with_reducible refine (r6same_yes pa ra pl pc rc _ _ RP.out RR.out).mono ?_); rintro e w7 ⟨rfl, hb⟩; have RM := Lib.hid (RM.out.below hb); have BL := Lib.hid (below_next BL.out hb); clear hb)
  go_wp2_with fail
  clear hHeld
  refine hK.out _ _ (KEPT.out _ BL.out) (fun hHeld => ?_)
  clear hK K
  try simp only [Act.put, List.setIfInBounds_toArray, List.set_cons_zero, List.set_cons_succ]
  refine' takeY (i := 9) (oi := _) (v := _) ?hia9 (by kernel_rfl) (by kernel_rfl) (by kernel_rfl) (fun _ _ _ h => h) ?hwa9 ?hya9 hHeld ?resta9
  case hia9 => (simp only [List.getElem?_toArray, List.getElem?_cons_succ, List.getElem?_cons_zero]; rfl)
  case hwa9 => rfl
  case hya9 => (intro w hSw; (try dsimp only at hSw); go_simp; try with_reducible rfl)
  try simp only [Act.put, List.setIfInBounds_toArray, List.set_cons_zero, List.set_cons_succ]
  refine wpAnyH_done (by kernel_rfl) ?_ _
  refine NoPanic.normal ?_
  have Q := Lib.hid (Q.out.below BL.out); have N := Lib.hid (N.out.below BL.out); have B := Lib.hid (below_next B.out BL.out)
  clear KEPT BL RP RR LP
  obtain ⟨rk, hrk⟩ : ∃ rk, rankE es' q1 = rk := ⟨_, rfl⟩
  have HR := Lib.hid hrk
  clear hrk
  go_upto_region 5 with fail
  have RM := Lib.hid RM.out.drew; have Q := Lib.hid Q.out.drew; have N := Lib.hid N.out.drew; have B := Lib.hid B.out.drew
  have KEPT := Lib.hid (show ∀ w' : World, Below w7.drew.heap.size w7.drew w' → w'.cell? ⟨w.heap.size, 1, none⟩ = some (.int .i64 q1) ∧ w'.cell? ⟨w.heap.size + 1, 0, none⟩ = some (.int .i64 x.id) ∧ w'.cell? ⟨w.heap.size + 1, 1, none⟩ = some (.int .i64 x.idx) ∧ w'.cell? ⟨w.heap.size + 1, 2, none⟩ = some (.int .i64 x.rel) ∧ w'.cell? ⟨w.heap.size + 1, 3, none⟩ = some (.int .i64 x.dl) ∧ w'.cell? ⟨w.heap.size + 1, 4, none⟩ = some (.int .i64 x.bit) ∧ w'.cell? ⟨w.heap.size + 1, 5, none⟩ = some (.int .i64 x.grp) ∧ w'.cell? ⟨w.heap.size + 1, 6, none⟩ = some (.int .i64 y.id) ∧ w'.cell? ⟨w.heap.size + 1, 7, none⟩ = some (.int .i64 y.idx) ∧ w'.cell? ⟨w.heap.size + 1, 8, none⟩ = some (.int .i64 y.rel) ∧ w'.cell? ⟨w.heap.size + 1, 9, none⟩ = some (.int .i64 y.dl) ∧ w'.cell? ⟨w.heap.size + 1, 10, none⟩ = some (.int .i64 y.bit) ∧ w'.cell? ⟨w.heap.size + 1, 11, none⟩ = some (.int .i64 y.grp) from fun w' h => ⟨(Q.out.below h).cell 1, (N.out.below h).cell 0, (N.out.below h).cell 1, (N.out.below h).cell 2, (N.out.below h).cell 3, (N.out.below h).cell 4, (N.out.below h).cell 5, (N.out.below h).cell 6, (N.out.below h).cell 7, (N.out.below h).cell 8, (N.out.below h).cell 9, (N.out.below h).cell 10, (N.out.below h).cell 11⟩)
  have BL := Lib.hid (Below.refl w7.drew.heap.size w7.drew)
  refine wp_region_noPanic ?_
  refine wp_region_held_drew (S := fun w' => w'.cell? ⟨w.heap.size, 1, none⟩ = some (.int .i64 q1) ∧ w'.cell? ⟨w.heap.size + 1, 0, none⟩ = some (.int .i64 x.id) ∧ w'.cell? ⟨w.heap.size + 1, 1, none⟩ = some (.int .i64 x.idx) ∧ w'.cell? ⟨w.heap.size + 1, 2, none⟩ = some (.int .i64 x.rel) ∧ w'.cell? ⟨w.heap.size + 1, 3, none⟩ = some (.int .i64 x.dl) ∧ w'.cell? ⟨w.heap.size + 1, 4, none⟩ = some (.int .i64 x.bit) ∧ w'.cell? ⟨w.heap.size + 1, 5, none⟩ = some (.int .i64 x.grp) ∧ w'.cell? ⟨w.heap.size + 1, 6, none⟩ = some (.int .i64 y.id) ∧ w'.cell? ⟨w.heap.size + 1, 7, none⟩ = some (.int .i64 y.idx) ∧ w'.cell? ⟨w.heap.size + 1, 8, none⟩ = some (.int .i64 y.rel) ∧ w'.cell? ⟨w.heap.size + 1, 9, none⟩ = some (.int .i64 y.dl) ∧ w'.cell? ⟨w.heap.size + 1, 10, none⟩ = some (.int .i64 y.bit) ∧ w'.cell? ⟨w.heap.size + 1, 11, none⟩ = some (.int .i64 y.grp)) (by kernel_rfl) (KEPT.out _ BL.out) (fun hHeld => ?_)
  refine' takeY (i := 0) (oi := _) (v := _) ?hib0 (by kernel_rfl) (by kernel_rfl) (by kernel_rfl) (fun _ _ _ h => h) ?hwb0 ?hyb0 hHeld ?restb0
  case hib0 => (simp only [List.getElem?_toArray, List.getElem?_cons_zero]; rfl)
  case hwb0 => rfl
  case hyb0 => (intro w hSw; (try dsimp only at hSw); go_simp; try with_reducible rfl)
  try simp only [Act.put, List.setIfInBounds_toArray, List.set_cons_zero, List.set_cons_succ]
  refine' takeY (i := 1) (oi := _) (v := _) ?hib1 (by kernel_rfl) (by kernel_rfl) (by kernel_rfl) (fun _ _ _ h => h) ?hwb1 ?hyb1 hHeld ?restb1
  case hib1 => (simp only [List.getElem?_toArray, List.getElem?_cons_succ, List.getElem?_cons_zero]; rfl)
  case hwb1 => rfl
  case hyb1 => (intro w hSw; (try dsimp only at hSw); go_simp; try with_reducible rfl)
  try simp only [Act.put, List.setIfInBounds_toArray, List.set_cons_zero, List.set_cons_succ]
  refine' takeY (i := 2) (oi := _) (v := _) ?hib2 (by kernel_rfl) (by kernel_rfl) (by kernel_rfl) (fun _ _ _ h => h) ?hwb2 ?hyb2 hHeld ?restb2
  case hib2 => (simp only [List.getElem?_toArray, List.getElem?_cons_succ, List.getElem?_cons_zero]; rfl)
  case hwb2 => rfl
  case hyb2 => (intro w hSw; (try dsimp only at hSw); go_simp; try with_reducible rfl)
  try simp only [Act.put, List.setIfInBounds_toArray, List.set_cons_zero, List.set_cons_succ]
  refine' takeY (i := 3) (oi := _) (v := _) ?hib3 (by kernel_rfl) (by kernel_rfl) (by kernel_rfl) (fun _ _ _ h => h) ?hwb3 ?hyb3 hHeld ?restb3
  case hib3 => (simp only [List.getElem?_toArray, List.getElem?_cons_succ, List.getElem?_cons_zero]; rfl)
  case hwb3 => rfl
  case hyb3 => (intro w hSw; (try dsimp only at hSw); go_simp; try with_reducible rfl)
  try simp only [Act.put, List.setIfInBounds_toArray, List.set_cons_zero, List.set_cons_succ]
  refine' takeY (i := 4) (oi := _) (v := _) ?hib4 (by kernel_rfl) (by kernel_rfl) (by kernel_rfl) (fun _ _ _ h => h) ?hwb4 ?hyb4 hHeld ?restb4
  case hib4 => (simp only [List.getElem?_toArray, List.getElem?_cons_succ, List.getElem?_cons_zero]; rfl)
  case hwb4 => rfl
  case hyb4 => (intro w hSw; (try dsimp only at hSw); go_simp; try with_reducible rfl)
  try simp only [Act.put, List.setIfInBounds_toArray, List.set_cons_zero, List.set_cons_succ]
  refine' takeY (i := 5) (oi := _) (v := _) ?hib5 (by kernel_rfl) (by kernel_rfl) (by kernel_rfl) (fun _ _ _ h => h) ?hwb5 ?hyb5 hHeld ?restb5
  case hib5 => (simp only [List.getElem?_toArray, List.getElem?_cons_succ, List.getElem?_cons_zero]; rfl)
  case hwb5 => rfl
  case hyb5 => (intro w hSw; (try dsimp only at hSw); go_simp; try with_reducible rfl)
  try simp only [Act.put, List.setIfInBounds_toArray, List.set_cons_zero, List.set_cons_succ]
  refine' takeY (i := 6) (oi := _) (v := _) ?hib6 (by kernel_rfl) (by kernel_rfl) (by kernel_rfl) (fun _ _ _ h => h) ?hwb6 ?hyb6 hHeld ?restb6
  case hib6 => (simp only [List.getElem?_toArray, List.getElem?_cons_succ, List.getElem?_cons_zero]; rfl)
  case hwb6 => rfl
  case hyb6 => (intro w hSw; (try dsimp only at hSw); go_simp; try with_reducible rfl)
  try simp only [Act.put, List.setIfInBounds_toArray, List.set_cons_zero, List.set_cons_succ]
  refine' takeY (i := 7) (oi := _) (v := _) ?hib7 (by kernel_rfl) (by kernel_rfl) (by kernel_rfl) (fun _ _ _ h => h) ?hwb7 ?hyb7 hHeld ?restb7
  case hib7 => (simp only [List.getElem?_toArray, List.getElem?_cons_succ, List.getElem?_cons_zero]; rfl)
  case hwb7 => rfl
  case hyb7 => (intro w hSw; (try dsimp only at hSw); go_simp; try with_reducible rfl)
  try simp only [Act.put, List.setIfInBounds_toArray, List.set_cons_zero, List.set_cons_succ]
  refine' takeY (i := 8) (oi := _) (v := _) ?hib8 (by kernel_rfl) (by kernel_rfl) (by kernel_rfl) (fun _ _ _ h => h) ?hwb8 ?hyb8 hHeld ?restb8
  case hib8 => (simp only [List.getElem?_toArray, List.getElem?_cons_succ, List.getElem?_cons_zero]; rfl)
  case hwb8 => rfl
  case hyb8 => (intro w hSw; (try dsimp only at hSw); go_simp; try with_reducible rfl)
  try simp only [Act.put, List.setIfInBounds_toArray, List.set_cons_zero, List.set_cons_succ]
  refine' takeY (i := 9) (oi := _) (v := _) ?hib9 (by kernel_rfl) (by kernel_rfl) (by kernel_rfl) (fun _ _ _ h => h) ?hwb9 ?hyb9 hHeld ?restb9
  case hib9 => (simp only [List.getElem?_toArray, List.getElem?_cons_succ, List.getElem?_cons_zero]; rfl)
  case hwb9 => rfl
  case hyb9 => (intro w hSw; (try dsimp only at hSw); go_simp; try with_reducible rfl)
  try simp only [Act.put, List.setIfInBounds_toArray, List.set_cons_zero, List.set_cons_succ]
  refine' takeY (i := 10) (oi := _) (v := _) ?hib10 (by kernel_rfl) (by kernel_rfl) (by kernel_rfl) (fun _ _ _ h => h) ?hwb10 ?hyb10 hHeld ?restb10
  case hib10 => (simp only [List.getElem?_toArray, List.getElem?_cons_succ, List.getElem?_cons_zero]; rfl)
  case hwb10 => rfl
  case hyb10 => (intro w hSw; (try dsimp only at hSw); go_simp; try with_reducible rfl)
  try simp only [Act.put, List.setIfInBounds_toArray, List.set_cons_zero, List.set_cons_succ]
  refine' takeY (i := 12) (oi := _) (v := _) ?hib11 (by kernel_rfl) (by kernel_rfl) (by kernel_rfl) (fun _ _ _ h => h) ?hwb11 ?hyb11 hHeld ?restb11
  case hib11 => (simp only [List.getElem?_toArray, List.getElem?_cons_succ, List.getElem?_cons_zero]; rfl)
  case hwb11 => rfl
  case hyb11 => (intro w hSw; (try dsimp only at hSw); go_simp; try with_reducible rfl)
  try simp only [Act.put, List.setIfInBounds_toArray, List.set_cons_zero, List.set_cons_succ]
  refine' takeY (i := 13) (oi := _) (v := _) ?hib12 (by kernel_rfl) (by kernel_rfl) (by kernel_rfl) (fun _ _ _ h => h) ?hwb12 ?hyb12 hHeld ?restb12
  case hib12 => (simp only [List.getElem?_toArray, List.getElem?_cons_succ, List.getElem?_cons_zero]; rfl)
  case hwb12 => rfl
  case hyb12 => (intro w hSw; (try dsimp only at hSw); go_simp; try with_reducible rfl)
  try simp only [Act.put, List.setIfInBounds_toArray, List.set_cons_zero, List.set_cons_succ]
  refine' takeY (i := 14) (oi := _) (v := _) ?hib13 (by kernel_rfl) (by kernel_rfl) (by kernel_rfl) (fun _ _ _ h => h) ?hwb13 ?hyb13 hHeld ?restb13
  case hib13 => (simp only [List.getElem?_toArray, List.getElem?_cons_succ, List.getElem?_cons_zero]; rfl)
  case hwb13 => rfl
  case hyb13 => (intro w hSw; (try dsimp only at hSw); go_simp; try with_reducible rfl)
  try simp only [Act.put, List.setIfInBounds_toArray, List.set_cons_zero, List.set_cons_succ]
  refine wpAnyH_ready (rs := [11]) (by kernel_rfl) (by simp) ?_
  refine' AllReadyH.cons (o := _) ?hib14 (fun K hK => ?stepb14) AllReadyH.nil
  case hib14 => (simp only [List.getElem?_toArray, List.getElem?_cons_succ, List.getElem?_cons_zero]; rfl)
  go_simp
  (go_at_call 16; (with_reducible refine (prank_at a m cap es' q1 rk _ RM.out (by omega) HR.out).mono ?_); rintro e w8 ⟨rfl, hb⟩; have RM := Lib.hid (RM.out.below hb); have BL := Lib.hid (below_next BL.out hb); clear hb)
  go_wp2_with fail
  clear hHeld
  refine hK.out _ _ (KEPT.out _ BL.out) (fun hHeld => ?_)
  clear hK K
  try simp only [Act.put, List.setIfInBounds_toArray, List.set_cons_zero, List.set_cons_succ]
  refine wpAnyH_ready (rs := [15]) (by kernel_rfl) (by simp) ?_
  refine' AllReadyH.cons (o := _) ?hib15 (fun K hK => ?stepb15) AllReadyH.nil
  case hib15 => (simp only [List.getElem?_toArray, List.getElem?_cons_succ, List.getElem?_cons_zero]; rfl)
  go_simp
  (go_at_call 17; (with_reducible refine (r6rank_at a m cap es' q1 rk _ RM.out (by omega) HR.out).mono ?_); rintro e w8 ⟨rfl, hb⟩; have RM := Lib.hid (RM.out.below hb); have BL := Lib.hid (below_next BL.out hb); clear hb)
  go_wp2_with fail
  clear hHeld
  refine hK.out _ _ (KEPT.out _ BL.out) (fun hHeld => ?_)
  clear hK K
  try simp only [Act.put, List.setIfInBounds_toArray, List.set_cons_zero, List.set_cons_succ]
  refine' takeY (i := 16) (oi := _) (v := _) ?hib16 (by kernel_rfl) (by kernel_rfl) (by kernel_rfl) (fun _ _ _ h => h) ?hwb16 ?hyb16 hHeld ?restb16
  case hib16 => (simp only [List.getElem?_toArray, List.getElem?_cons_succ, List.getElem?_cons_zero]; rfl)
  case hwb16 => rfl
  case hyb16 => (intro w hSw; (try dsimp only at hSw); go_simp; try with_reducible rfl)
  try simp only [Act.put, List.setIfInBounds_toArray, List.set_cons_zero, List.set_cons_succ]
  refine' takeY (i := 17) (oi := _) (v := _) ?hib17 (by kernel_rfl) (by kernel_rfl) (by kernel_rfl) (fun _ _ _ h => h) ?hwb17 ?hyb17 hHeld ?restb17
  case hib17 => (simp only [List.getElem?_toArray, List.getElem?_cons_succ, List.getElem?_cons_zero]; rfl)
  case hwb17 => rfl
  case hyb17 => (intro w hSw; (try dsimp only at hSw); go_simp; try with_reducible rfl)
  try simp only [Act.put, List.setIfInBounds_toArray, List.set_cons_zero, List.set_cons_succ]
  refine' takeY (i := 18) (oi := _) (v := _) ?hib18 (by kernel_rfl) (by kernel_rfl) (by kernel_rfl) (fun _ _ _ h => h) ?hwb18 ?hyb18 hHeld ?restb18
  case hib18 => (simp only [List.getElem?_toArray, List.getElem?_cons_succ, List.getElem?_cons_zero]; rfl)
  case hwb18 => rfl
  case hyb18 => (intro w hSw; (try dsimp only at hSw); go_simp; try with_reducible rfl)
  try simp only [Act.put, List.setIfInBounds_toArray, List.set_cons_zero, List.set_cons_succ]
  refine' takeY (i := 19) (oi := _) (v := _) ?hib19 (by kernel_rfl) (by kernel_rfl) (by kernel_rfl) (fun _ _ _ h => h) ?hwb19 ?hyb19 hHeld ?restb19
  case hib19 => (simp only [List.getElem?_toArray, List.getElem?_cons_succ, List.getElem?_cons_zero]; rfl)
  case hwb19 => rfl
  case hyb19 => (intro w hSw; (try dsimp only at hSw); go_simp; try with_reducible rfl)
  try simp only [Act.put, List.setIfInBounds_toArray, List.set_cons_zero, List.set_cons_succ]
  refine' takeY (i := 20) (oi := _) (v := _) ?hib20 (by kernel_rfl) (by kernel_rfl) (by kernel_rfl) (fun _ _ _ h => h) ?hwb20 ?hyb20 hHeld ?restb20
  case hib20 => (simp only [List.getElem?_toArray, List.getElem?_cons_succ, List.getElem?_cons_zero]; rfl)
  case hwb20 => rfl
  case hyb20 => (intro w hSw; (try dsimp only at hSw); go_simp; try with_reducible rfl)
  try simp only [Act.put, List.setIfInBounds_toArray, List.set_cons_zero, List.set_cons_succ]
  refine' takeY (i := 21) (oi := _) (v := _) ?hib21 (by kernel_rfl) (by kernel_rfl) (by kernel_rfl) (fun _ _ _ h => h) ?hwb21 ?hyb21 hHeld ?restb21
  case hib21 => (simp only [List.getElem?_toArray, List.getElem?_cons_succ, List.getElem?_cons_zero]; rfl)
  case hwb21 => rfl
  case hyb21 => (intro w hSw; (try dsimp only at hSw); go_simp; try with_reducible rfl)
  try simp only [Act.put, List.setIfInBounds_toArray, List.set_cons_zero, List.set_cons_succ]
  refine' takeY (i := 22) (oi := _) (v := _) ?hib22 (by kernel_rfl) (by kernel_rfl) (by kernel_rfl) (fun _ _ _ h => h) ?hwb22 ?hyb22 hHeld ?restb22
  case hib22 => (simp only [List.getElem?_toArray, List.getElem?_cons_succ, List.getElem?_cons_zero]; rfl)
  case hwb22 => rfl
  case hyb22 => (intro w hSw; (try dsimp only at hSw); go_simp; try with_reducible rfl)
  try simp only [Act.put, List.setIfInBounds_toArray, List.set_cons_zero, List.set_cons_succ]
  refine' takeY (i := 24) (oi := _) (v := _) ?hib23 (by kernel_rfl) (by kernel_rfl) (by kernel_rfl) (fun _ _ _ h => h) ?hwb23 ?hyb23 hHeld ?restb23
  case hib23 => (simp only [List.getElem?_toArray, List.getElem?_cons_succ, List.getElem?_cons_zero]; rfl)
  case hwb23 => rfl
  case hyb23 => (intro w hSw; (try dsimp only at hSw); go_simp; try with_reducible rfl)
  try simp only [Act.put, List.setIfInBounds_toArray, List.set_cons_zero, List.set_cons_succ]
  refine' takeY (i := 25) (oi := _) (v := _) ?hib24 (by kernel_rfl) (by kernel_rfl) (by kernel_rfl) (fun _ _ _ h => h) ?hwb24 ?hyb24 hHeld ?restb24
  case hib24 => (simp only [List.getElem?_toArray, List.getElem?_cons_succ, List.getElem?_cons_zero]; rfl)
  case hwb24 => rfl
  case hyb24 => (intro w hSw; (try dsimp only at hSw); go_simp; try with_reducible rfl)
  try simp only [Act.put, List.setIfInBounds_toArray, List.set_cons_zero, List.set_cons_succ]
  refine' takeY (i := 26) (oi := _) (v := _) ?hib25 (by kernel_rfl) (by kernel_rfl) (by kernel_rfl) (fun _ _ _ h => h) ?hwb25 ?hyb25 hHeld ?restb25
  case hib25 => (simp only [List.getElem?_toArray, List.getElem?_cons_succ, List.getElem?_cons_zero]; rfl)
  case hwb25 => rfl
  case hyb25 => (intro w hSw; (try dsimp only at hSw); go_simp; try with_reducible rfl)
  try simp only [Act.put, List.setIfInBounds_toArray, List.set_cons_zero, List.set_cons_succ]
  refine' takeY (i := 27) (oi := _) (v := _) ?hib26 (by kernel_rfl) (by kernel_rfl) (by kernel_rfl) (fun _ _ _ h => h) ?hwb26 ?hyb26 hHeld ?restb26
  case hib26 => (simp only [List.getElem?_toArray, List.getElem?_cons_succ, List.getElem?_cons_zero]; rfl)
  case hwb26 => rfl
  case hyb26 => (intro w hSw; (try dsimp only at hSw); go_simp; try with_reducible rfl)
  try simp only [Act.put, List.setIfInBounds_toArray, List.set_cons_zero, List.set_cons_succ]
  refine wpAnyH_ready (rs := [23]) (by kernel_rfl) (by simp) ?_
  refine' AllReadyH.cons (o := _) ?hib27 (fun K hK => ?stepb27) AllReadyH.nil
  case hib27 => (simp only [List.getElem?_toArray, List.getElem?_cons_succ, List.getElem?_cons_zero]; rfl)
  go_simp
  (go_at_call 18; (with_reducible refine (pless_at x y _ _ HV.out).mono ?_); rintro e w8 ⟨rfl, hb⟩; have RM := Lib.hid (RM.out.below hb); have BL := Lib.hid (below_next BL.out hb); clear hb)
  go_wp2_with fail
  clear hHeld
  refine hK.out _ _ (KEPT.out _ BL.out) (fun hHeld => ?_)
  clear hK K
  try simp only [Act.put, List.setIfInBounds_toArray, List.set_cons_zero, List.set_cons_succ]
  refine wpAnyH_ready (rs := [28]) (by kernel_rfl) (by simp) ?_
  refine' AllReadyH.cons (o := _) ?hib28 (fun K hK => ?stepb28) AllReadyH.nil
  case hib28 => (simp only [List.getElem?_toArray, List.getElem?_cons_succ, List.getElem?_cons_zero]; rfl)
  go_simp
  (go_at_call 19; (with_reducible refine (r6less_at x y _ _ HV.out).mono ?_); rintro e w8 ⟨rfl, hb⟩; have RM := Lib.hid (RM.out.below hb); have BL := Lib.hid (below_next BL.out hb); clear hb)
  go_wp2_with fail
  clear hHeld
  refine hK.out _ _ (KEPT.out _ BL.out) (fun hHeld => ?_)
  clear hK K
  try simp only [Act.put, List.setIfInBounds_toArray, List.set_cons_zero, List.set_cons_succ]
  refine' takeY (i := 29) (oi := _) (v := _) ?hib29 (by kernel_rfl) (by kernel_rfl) (by kernel_rfl) (fun _ _ _ h => h) ?hwb29 ?hyb29 hHeld ?restb29
  case hib29 => (simp only [List.getElem?_toArray, List.getElem?_cons_succ, List.getElem?_cons_zero]; rfl)
  case hwb29 => rfl
  case hyb29 => (intro w hSw; (try dsimp only at hSw); go_simp; try with_reducible rfl)
  try simp only [Act.put, List.setIfInBounds_toArray, List.set_cons_zero, List.set_cons_succ]
  refine' takeY (i := 30) (oi := _) (v := _) ?hib30 (by kernel_rfl) (by kernel_rfl) (by kernel_rfl) (fun _ _ _ h => h) ?hwb30 ?hyb30 hHeld ?restb30
  case hib30 => (simp only [List.getElem?_toArray, List.getElem?_cons_succ, List.getElem?_cons_zero]; rfl)
  case hwb30 => rfl
  case hyb30 => (intro w hSw; (try dsimp only at hSw); go_simp; try with_reducible rfl)
  try simp only [Act.put, List.setIfInBounds_toArray, List.set_cons_zero, List.set_cons_succ]
  refine' takeY (i := 31) (oi := _) (v := _) ?hib31 (by kernel_rfl) (by kernel_rfl) (by kernel_rfl) (fun _ _ _ h => h) ?hwb31 ?hyb31 hHeld ?restb31
  case hib31 => (simp only [List.getElem?_toArray, List.getElem?_cons_succ, List.getElem?_cons_zero]; rfl)
  case hwb31 => rfl
  case hyb31 => (intro w hSw; (try dsimp only at hSw); go_simp; try with_reducible rfl)
  try simp only [Act.put, List.setIfInBounds_toArray, List.set_cons_zero, List.set_cons_succ]
  refine wpAnyH_done (by kernel_rfl) ?_ _
  refine NoPanic.normal ?_
  go_wp2
  go_ret
  exact ⟨rfl, below_next B.out BL.out⟩
end Go.Proofs.Ytkiolkceaibmgaa
