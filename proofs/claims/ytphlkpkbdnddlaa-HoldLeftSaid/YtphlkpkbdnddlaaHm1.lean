/-
  The walk of HoldMax, for a package hold that is as P12.1 to P12.3 say.
-/
import Derived.Test.YtphlkpkbdnddlaaHaA
import Derived.BigQuiet
namespace Go.Proofs.Ytphlkpkbdnddlaa
open Go.RowKit

theorem tmod_bd (a m : Int) (hm : 0 < m) : -m < a.tmod m ∧ a.tmod m < m := by
  have h1 := Int.tmod_lt_of_pos a hm
  have h2 := Int.tmod_lt_of_pos (-a) hm
  rw [Int.neg_tmod] at h2
  omega
/-- the rest, from 0 up -/
theorem rest_bd (a m : Int) (hm : 0 < m) : 0 ≤ (a.tmod m + m).tmod m ∧ (a.tmod m + m).tmod m < m := by
  obtain ⟨h1, h2⟩ := tmod_bd a m hm
  exact ⟨Int.tmod_nonneg _ (by omega), Int.tmod_lt_of_pos _ hm⟩
theorem one_id {id E P E' P' : Int} : findH [newH id E P] id = some 0 ∧ findH [(⟨id, E, P, E', P', true⟩ : Hd)] id = some 0 := by
  constructor <;> simp [findH, newH]
theorem sum_one (h : Hd) : sumH [h] = holdsV h := by
  rw [sumH_cons]
  show ((holdsV h).1 * 1 + 0 * (holdsV h).2, (holdsV h).2 * 1) = holdsV h
  simp
theorem max_one {x y P : Int} (hP : 1 ≤ P) : holdsV ⟨3, x, P, y, P, true⟩ = (max x y, P) := by
  show (if true = true ∧ x * P < y * P then (y, P) else (x, P)) = _
  by_cases q : x < y
  · rw [if_pos ⟨rfl, Int.mul_lt_mul_of_pos_right q (by omega)⟩, Int.max_eq_right (by omega)]
  · rw [if_neg (fun k => by have := Int.lt_of_mul_lt_mul_right k.2 (show 0 ≤ P by omega); omega), Int.max_eq_left (by omega)]
section
variable {Hp : World → Nat → (Nat → Prop) → (Nat → Prop) → Int → Int → List Hd → Prop}
set_option maxRecDepth 20000 in
set_option maxHeartbeats 4000000 in
theorem hmax_walk (ok : HoldOk Hp) (p a b : Int) (w : World) : Calls Try.prog 6 #[.int .i64 p, .int .i64 a, .int .i64 b] w fun e w' => e = .returned (.bool true) ∧ Below w.heap.size w w' := by
  have OK := Lib.hid ok
  clear ok
  have p1 := tmod_bd p 64 (by omega)
  have p2 := rest_bd p 64 (by omega)
  have pw : IntKind.i64.wrap (p.tmod 64 + 64) = p.tmod 64 + 64 := IntWalk.i64_in _ (by omega)
  obtain ⟨pr, hpr⟩ : ∃ k, (p.tmod 64 + 64).tmod 64 = k := ⟨_, rfl⟩
  rw [hpr] at p2
  obtain ⟨per, hper⟩ : ∃ k, 1 + pr = k := ⟨_, rfl⟩
  have pw2 : IntKind.i64.wrap (1 + pr) = per := by rw [IntWalk.i64_in _ (by omega)]; exact hper
  have per0 : 1 ≤ per := by omega
  have per1 : per ≤ 64 := by omega
  have pnz : ¬ per = 0 := by omega
  clear hper p1 p2
  go_enter Try.func6, Try.ntmps6
  go_wp2_with fail
  refine (awake12_any OK.out _).mono ?_
  rintro e w1 ⟨rfl, hb⟩
  have B1 := Lib.hid hb
  clear hb
  have B1 := Lib.hid B1.out
  obtain ⟨x, hx⟩ : ∃ k, 1 + (a.tmod per + per).tmod per = k := ⟨_, rfl⟩
  obtain ⟨y, hy⟩ : ∃ k, 1 + (b.tmod per + per).tmod per = k := ⟨_, rfl⟩
  have a1 := tmod_bd a per (by omega)
  have a2 := rest_bd a per (by omega)
  have c1 := tmod_bd b per (by omega)
  have c2 := rest_bd b per (by omega)
  have aw : IntKind.i64.wrap (a.tmod per + per) = a.tmod per + per := IntWalk.i64_in _ (by omega)
  have bw : IntKind.i64.wrap (b.tmod per + per) = b.tmod per + per := IntWalk.i64_in _ (by omega)
  have aw2 : IntKind.i64.wrap (1 + (a.tmod per + per).tmod per) = x := by rw [IntWalk.i64_in _ (by omega)]; exact hx
  have bw2 : IntKind.i64.wrap (1 + (b.tmod per + per).tmod per) = y := by rw [IntWalk.i64_in _ (by omega)]; exact hy
  have XB := Lib.hid (show 1 ≤ x ∧ x ≤ per by omega)
  have YB := Lib.hid (show 1 ≤ y ∧ y ≤ per by omega)
  have PB := Lib.hid (show 1 ≤ per ∧ per ≤ 64 from ⟨per0, per1⟩)
  obtain ⟨m, hm⟩ : ∃ m, max x y = m := ⟨_, rfl⟩
  have MB := Lib.hid (show 1 ≤ m ∧ m ≤ per by omega)
  have MX := Lib.hid (show holdsV ⟨3, x, per, y, per, true⟩ = (m, per) by rw [max_one per0, hm])
  have HM := Lib.hid hm
  have MAY := Lib.hid (show MayBe x per ∧ MayBe y per by unfold MayBe; omega)
  have J1 := Lib.hid (show joinV 1 1 [] 3 x per = (0, [newH 3 x per]) by
    have hf : fitH 1 1 [newH 3 x per] = true := by rw [fit_le, sum_one, holdsV_new]; simp only; omega
    unfold joinV
    rw [mayB_yes MAY.out.1, if_neg (by simp), show findH [] 3 = none from rfl]
    show (if fitH 1 1 [newH 3 x per] = true then ((0 : Int), [newH 3 x per]) else (18, [])) = _
    rw [if_pos hf])
  have J2 := Lib.hid (show askV 1 1 [newH 3 x per] 3 y per = (0, [⟨3, x, per, y, per, true⟩]) by
    have hf : fitH 1 1 [(⟨3, x, per, y, per, true⟩ : Hd)] = true := by rw [fit_le, sum_one, MX.out]; simp only; omega
    unfold askV
    rw [mayB_yes MAY.out.2, if_neg (by simp), (one_id (E' := 0) (P' := 0)).1]
    show (if (newH 3 x per).asked = true then _ else if fitH 1 1 [(⟨3, x, per, y, per, true⟩ : Hd)] then ((0 : Int), [(⟨3, x, per, y, per, true⟩ : Hd)]) else _) = _
    rw [if_neg (by simp [newH]), hf, if_pos rfl])
  have J3 := Lib.hid (show askV 1 1 [(⟨3, x, per, y, per, true⟩ : Hd)] 3 1 1 = (13, [⟨3, x, per, y, per, true⟩]) by
    unfold askV
    rw [show mayB 1 1 = true from rfl, if_neg (by simp), one_id.2]
    rfl)
  have J4 := Lib.hid (show settleV [(⟨3, x, per, y, per, true⟩ : Hd)] 3 = (0, [newH 3 y per]) by unfold settleV; rw [one_id.2]; rfl)
  have J5 := Lib.hid (show settleV [newH 3 y per] 3 = (13, [newH 3 y per]) by unfold settleV; rw [(one_id (E' := 0) (P' := 0)).1]; rfl)
  have J6 := Lib.hid (show freeV [newH 3 y per] 3 = (0, []) by unfold freeV; rw [(one_id (E' := 0) (P' := 0)).1]; rfl)
  have J7 := Lib.hid (show freeV [] 3 = (12, []) from rfl)
  obtain ⟨h2, hh2⟩ : ∃ h, (⟨3, x, per, y, per, true⟩ : Hd) = h := ⟨_, rfl⟩
  obtain ⟨h1, hh1⟩ : ∃ h, newH 3 x per = h := ⟨_, rfl⟩
  obtain ⟨h3, hh3⟩ : ∃ h, newH 3 y per = h := ⟨_, rfl⟩
  have S2 := Lib.hid (show sumH [h2] = (m, per) by rw [sum_one, ← hh2]; exact MX.out)
  have S3 := Lib.hid (show sumH [h3] = (y, per) by rw [sum_one, ← hh3]; exact holdsV_new _ _ _)
  rw [hh2, hh1] at J2
  rw [hh1] at J1
  rw [hh2] at J3
  rw [hh2, hh3] at J4
  rw [hh3] at J5 J6
  have xu : IntKind.u64.wrap m = m := IntWalk.u64_in _ (by omega)
  have yu : IntKind.u64.wrap y = y := IntWalk.u64_in _ (by omega)
  have pu : IntKind.u64.wrap per = per := IntWalk.u64_in _ (by omega)
  clear hm hh1 hh2 hh3 MX MAY hx hy per0 per1 a1 a2 c1 c2
  go_wp2_with fail
  refine (one_any 1 1 _ (by omega) (by omega) (by omega) (by omega)).mono ?_
  rintro e w2 ⟨v, rfl, hr, hb⟩
  have B2 := Lib.hid (below_next B1.out hb)
  have R2 := Lib.hid hr
  clear hb hr B1 aw bw aw2 bw2
  go_wp2_with fail
  refine (hnew OK.out v 1 1 1 _ _ R2.out (by omega) (by omega)).mono ?_
  rintro e w3 ⟨g, rfl, hm⟩
  have M := Lib.hid hm
  clear hm R2
  go_wp2_with fail
  refine (hjoin OK.out g [] 3 x per M.out (by simp) _ _ J1.out).mono ?_
  rintro e w4 ⟨rfl, hm, _, _⟩
  have M := Lib.hid hm
  clear hm J1
  go_wp2_with fail
  refine (hask OK.out g [h1] 3 y per M.out (by simp) _ _ J2.out).mono ?_
  rintro e w5 ⟨rfl, hm, _, _⟩
  have M := Lib.hid hm
  clear hm J2
  go_wp2_with fail
  refine (hheld OK.out g [h2] M.out (by simp)).mono ?_
  intro e w6 hg
  obtain ⟨v6, n6, d6, rfl, hr, hlo, he, hb⟩ := held_tight hg (M.out.good OK.out).each (by simp)
  obtain ⟨a6, l6, q6, z6, b6, k6, r6, y6, rfl, _⟩ := id hr
  rw [S2.out] at he
  have R6 := Lib.hid (hr.below (wbox _ (.cells #[.slice a6 l6 q6, .slice b6 k6 r6] 27)))
  have LO6 := Lib.hid hlo
  have E6 := Lib.hid he
  have M := Lib.hid ((M.out.next OK.out hb).own1 OK.out (.cells #[.slice a6 l6 q6, .slice b6 k6 r6] 27))
  have K6 := Lib.hid (Blk.new w6 27 #[.slice a6 l6 q6, .slice b6 k6 r6])
  obtain ⟨g6, hg6⟩ : ∃ g, w6.heap.size = g := ⟨_, rfl⟩
  rw [hg6] at K6 M
  clear hg hr hlo he hb
  go_wp2_with fail
  try rw [hg6]
  refine (hask OK.out g [h2] 3 1 1 M.out (by simp) _ _ J3.out).mono ?_
  rintro e w7 ⟨rfl, hm, hh, hn⟩
  have M := Lib.hid hm
  have K6 := Lib.hid (hh.blk K6.out (.inr rfl))
  have R6 := Lib.hid (hn _ _ _ _ _ R6.out)
  clear hm hh hn J3 hg6
  go_wp2_with fail
  refine (hsettle OK.out g [h2] 3 M.out (by simp) _ _ J4.out).mono ?_
  rintro e w8 ⟨rfl, hm, hh, hn⟩
  have M := Lib.hid hm
  have K6 := Lib.hid (hh.blk K6.out (.inr rfl))
  have R6 := Lib.hid (hn _ _ _ _ _ R6.out)
  clear hm hh hn J4
  go_wp2_with fail
  refine (hheld OK.out g [h3] M.out (by simp)).mono ?_
  intro e w9 hg
  obtain ⟨v9, n9, d9, rfl, hr, hlo, he, hb⟩ := held_tight hg (M.out.good OK.out).each (by simp)
  obtain ⟨a9, l9, q9, z9, b9, k9, r9, y9, rfl, _⟩ := id hr
  rw [S3.out] at he
  have R9 := Lib.hid (hr.below (wbox _ (.cells #[.slice a9 l9 q9, .slice b9 k9 r9] 27)))
  have LO9 := Lib.hid hlo
  have E9 := Lib.hid he
  have K6 := Lib.hid ((K6.out.below hb).alloc (.cells #[.slice a9 l9 q9, .slice b9 k9 r9] 27))
  have R6 := Lib.hid ((R6.out.below hb).below (wbox _ (.cells #[.slice a9 l9 q9, .slice b9 k9 r9] 27)))
  have M := Lib.hid ((M.out.next OK.out hb).own1 OK.out (.cells #[.slice a9 l9 q9, .slice b9 k9 r9] 27))
  have K9 := Lib.hid (Blk.new w9 27 #[.slice a9 l9 q9, .slice b9 k9 r9])
  obtain ⟨g9, hg9⟩ : ∃ g, w9.heap.size = g := ⟨_, rfl⟩
  rw [hg9] at K9 M
  clear hg hr hlo he hb
  go_wp2_with fail
  try rw [hg9]
  refine (hsettle OK.out g [h3] 3 M.out (by simp) _ _ J5.out).mono ?_
  rintro e w10 ⟨rfl, hm, hh, hn⟩
  have M := Lib.hid hm
  have K6 := Lib.hid (hh.blk K6.out (.inl (.inr rfl)))
  have R6 := Lib.hid (hn _ _ _ _ _ R6.out)
  have K9 := Lib.hid (hh.blk K9.out (.inr rfl))
  have R9 := Lib.hid (hn _ _ _ _ _ R9.out)
  clear hm hh hn J5 hg9
  go_wp2_with fail
  refine (hfree OK.out g [h3] 3 M.out (by simp) _ _ J6.out).mono ?_
  rintro e w11 ⟨rfl, hm, hh, hn⟩
  have M := Lib.hid hm
  have K6 := Lib.hid (hh.blk K6.out (.inl (.inr rfl)))
  have R6 := Lib.hid (hn _ _ _ _ _ R6.out)
  have K9 := Lib.hid (hh.blk K9.out (.inr rfl))
  have R9 := Lib.hid (hn _ _ _ _ _ R9.out)
  clear hm hh hn J6
  go_wp2_with fail
  refine (hfree OK.out g [] 3 M.out (by simp) _ _ J7.out).mono ?_
  rintro e w12 ⟨rfl, hm, hh, hn⟩
  have M := Lib.hid hm
  have K6 := Lib.hid (hh.blk K6.out (.inl (.inr rfl)))
  have R6 := Lib.hid (hn _ _ _ _ _ R6.out)
  have K9 := Lib.hid (hh.blk K9.out (.inr rfl))
  have R9 := Lib.hid (hn _ _ _ _ _ R9.out)
  clear hm hh hn J7
  have Z6 := Lib.hid (show cmpI (n6 * per) (m * d6) = 0 by have := E6.out; unfold cmpI; rw [if_neg (by omega), if_neg (by omega)])
  have Z9 := Lib.hid (show cmpI (n9 * per) (y * d9) = 0 by have := E9.out; unfold cmpI; rw [if_neg (by omega), if_neg (by omega)])
  have KEPT := Lib.hid (show ∀ w' : World, Below w12.heap.size w12 w' → w'.cell? ⟨g6, 0, none⟩ = some (.slice a6 l6 q6) ∧ w'.cell? ⟨g6, 1, none⟩ = some (.slice b6 k6 r6) ∧ w'.cell? ⟨g9, 0, none⟩ = some (.slice a9 l9 q9) ∧ w'.cell? ⟨g9, 1, none⟩ = some (.slice b9 k9 r9) from fun w' h => ⟨(K6.out.below h).cell 0, (K6.out.below h).cell 1, (K9.out.below h).cell 0, (K9.out.below h).cell 1⟩)
  have BL := Lib.hid (show Below w12.heap.size w12 w12.drew from (Below.refl w12.heap.size w12).drew)
  have mm : (if x < y then y else x) = m := by have := HM.out; rw [Int.max_def] at this; split <;> split at this <;> omega
  go_upto_region 17 with fail
  go_region_held3 (fun w' => w'.cell? ⟨g6, 0, none⟩ = some (.slice a6 l6 q6) ∧ w'.cell? ⟨g6, 1, none⟩ = some (.slice b6 k6 r6) ∧ w'.cell? ⟨g9, 0, none⟩ = some (.slice a9 l9 q9) ∧ w'.cell? ⟨g9, 1, none⟩ = some (.slice b9 k9 r9))
    (with_reducible exact KEPT.out _ BL.out)
    (first
      | (go_at_call 10; (with_reducible refine (one_any m per _ (by have := MB.out; omega) (by have := MB.out; have := PB.out; omega) (by have := PB.out; omega) (by have := PB.out; omega)).mono ?_); rintro e w13 ⟨v13, rfl, hr, hb⟩; have R13 := Lib.hid hr; have BL := Lib.hid (below_next BL.out hb); clear hb hr)
      | (go_at_call 25; (with_reducible refine (rcmp_any _ _ n6 d6 m per 0 _ 14 1 _ (R6.out.below BL.out) R13.out (by omega)).mono ?_); rintro e w14 ⟨rfl, hb⟩; rw [Z6.out]; have BL := Lib.hid (below_next BL.out hb); clear hb)
      | (go_at_call 10; (with_reducible refine (one_any y per _ (by have := YB.out; omega) (by have := YB.out; have := PB.out; omega) (by have := PB.out; omega) (by have := PB.out; omega)).mono ?_); rintro e w15 ⟨v15, rfl, hr, hb⟩; have R15 := Lib.hid hr; have BL := Lib.hid (below_next BL.out hb); clear hb hr)
      | (go_at_call 25; (with_reducible refine (rcmp_any _ _ n9 d9 y per 0 _ 14 1 _ (R9.out.below BL.out) R15.out (by omega)).mono ?_); rintro e w16 ⟨rfl, hb⟩; rw [Z9.out]; have BL := Lib.hid (below_next BL.out hb); clear hb)
      | (go_at_call 30; (with_reducible refine (hlen OK.out g [] (M.out.next OK.out BL.out) (by simp)).mono ?_); rintro e w17 ⟨rfl, hb⟩; have BL := Lib.hid (below_next BL.out hb); clear hb))
  all_goals
    go_wp2
    go_ret
    exact ⟨rfl, below_next B2.out (below_next M.out.below BL.out)⟩
end
end Go.Proofs.Ytphlkpkbdnddlaa
