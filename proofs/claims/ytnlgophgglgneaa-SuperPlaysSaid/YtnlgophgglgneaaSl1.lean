/-
  The laws' own awake and made: contracts.
-/
import Derived.Test.YtnlgophgglgneaaSzE
import Derived.Deep.RegionHeld3
namespace Go.Proofs.Ytnlgophgglgneaa
open Go.RowKit

theorem tmod2 (x r : Int) (h : 0 < r) : 0 ≤ (x.tmod r + r).tmod r ∧ (x.tmod r + r).tmod r < r ∧ -r < x.tmod r ∧ x.tmod r < r := by
  have c1 := Int.lt_tmod_of_pos x h
  have c2 := Int.tmod_lt_of_pos x h
  exact ⟨Int.tmod_nonneg r (by omega), Int.tmod_lt_of_pos _ h, by omega, c2⟩
/-- a part by two numbers -/
def pk14 (y : Int) : Int := 1 + (y.tmod 24 + 24).tmod 24
def mk14 (p : Int × Int) : Int × Int := (1 + (p.1.tmod (pk14 p.2) + pk14 p.2).tmod (pk14 p.2), pk14 p.2)
theorem pk14_bd (y : Int) : 1 ≤ pk14 y ∧ pk14 y ≤ 24 := by
  have := tmod2 y 24 (by omega)
  unfold pk14
  omega
theorem mk14_may (p : Int × Int) : MayBe (mk14 p).1 (mk14 p).2 := by
  have h := pk14_bd p.2
  have h2 := tmod2 p.1 (pk14 p.2) (by omega)
  unfold mk14
  exact ⟨by simp only; omega, by simp only; omega, by simp only; omega⟩
def made14 (ps : List (Int × Int)) : List (Int × Int) := (ps.take 8).map mk14
theorem made14_each (ps : List (Int × Int)) : ∀ p ∈ made14 ps, MayBe p.1 p.2 := fun p hp => by
  obtain ⟨q, _, rfl⟩ := List.mem_map.mp hp
  exact mk14_may q
theorem made14_len (ps : List (Int × Int)) : (made14 ps).length ≤ 8 := by unfold made14; rw [List.length_map, List.length_take]; omega
theorem made14_may {ps : List (Int × Int)} (h : made14 ps ≠ []) : MayP (made14 ps) := ⟨by have := List.length_pos_iff.mpr h; omega, made14_len ps, made14_each ps⟩
theorem made14_small {ps : List (Int × Int)} {i : Nat} (hi : i < (made14 ps).length) : pP (made14 ps) i ≤ 24 := by
  unfold pP
  rw [List.getD_eq_getElem?_getD, List.getElem?_eq_getElem hi]
  obtain ⟨q, _, e⟩ := List.mem_map.mp (List.getElem_mem hi)
  rw [Option.getD_some, ← e]
  exact (pk14_bd q.2).2
theorem Try.infoPt : (Try.prog.info? 62).map (fun i => (i.zero, i.size, i.bytes)) = some (some (.agg #[.int .i64 0, .int .i64 0]), 2, 16) := by kernel_rfl
theorem app_part {w : World} {ops : Array Oper} {rest : List Oper} {o : Oper} {act : Act} {Q : Exit → Act → World → Prop} (hgd : o.guard = none) (s x : Operand)
    (ho : o.op = .call { callee := .builtin .append, args := #[s, x], argTypes := #[23, 23] }) (base : Nat)
    (v : Value) (n : Nat) (ns : List (Int × Int)) (hs : act.eval s = v) (hown : w.ownsRow base 62 2 v n (cellsW ns)) (g : Nat) (e : Int × Int) (hx : act.eval x = .slice (some ⟨g, 0, none⟩) 1 1)
    (hg : w.heap[g]? = some (.cells #[.int .i64 e.1, .int .i64 e.2] 62 (0, 0))) (hb : base ≤ w.heap.size) (hsm : n ≤ 100000)
    (h : ∀ v' w', w'.ownsRow base 62 2 v' (n + 1) (cellsW (ns ++ [e])) → w.grownBy w' v.ownBlock → wpList Try.prog ops Q rest (act.put o.dst v') w') : wpList Try.prog ops Q (o :: rest) act w := by
  obtain ⟨i0, hi, hz0, hz1, hz2⟩ := info_parts Try.infoPt
  refine wpList_append_own _ hgd s x _ ho base _ i0 _ 2 16 Try.underlying23 hi hz0 hz1 hz2 rfl (by decide) v _ _ hs hown ⟨g, 0, none⟩ 1 1 [.int .i64 e.1, .int .i64 e.2] hx rfl (World.news_of_block (cs := #[.int .i64 e.1, .int .i64 e.2]) (t := 62) (fr := (0, 0)) hg) (by simp [Value.oneCell']) (by unfold maxLen; omega) (by omega) hb ?_
  intro v2 w2 ho2 hg2 _
  refine h v2 w2 ?_ hg2
  rw [cellsW_append]
  exact ho2
set_option maxHeartbeats 4000000 in
theorem made14_any (a : Option Addr) (len cap : Nat) (ps : List (Int × Int)) (w : World) (h : RowP w a len cap ps) :
    Calls Try.prog 12 #[.slice a len cap] w (GivesP w (made14 ps)) := by
  have H := Lib.hid h
  have LN := Lib.hid h.len
  have ⟨k1, k2⟩ := h.cap_le
  clear h
  go_enter Try.func12, Try.ntmps12
  go_wp2
  go_loopw [3, 4] (fun u v wr => ∃ i : Nat, v = .int .i64 i ∧ i ≤ 8 ∧ i ≤ len ∧ wr.ownsRow w.heap.size 62 2 u ((ps.take i).map mk14).length (cellsW ((ps.take i).map mk14)) ∧ Below w.heap.size w wr) (fun _ v _ => 8 - (intOf v).toNat)
  case atStart => exact ⟨0, rfl, by omega, by omega, World.ownsRow_nil _ _ _ _, Below.refl _ _⟩
  case round =>
    obtain ⟨i, rfl, i8, il, hO, hB⟩ := hrel
    have HO := Lib.hid hO
    have HW := Lib.hid hB
    have LI := Lib.hid (show ((ps.take i).map mk14).length = i by rw [List.length_map, List.length_take, LN.out]; omega)
    rw [LI.out] at HO
    clear hO hB
    by_cases go : i < len ∧ i < 8
    · obtain ⟨g1, g2⟩ := go
      have t1 : decide (i < len) = true := by simp; omega
      have t2 : decide ((i : Int) < 8) = true := by simp; omega
      have t3 : decide ((i : Int) < (len : Int)) = true := by simp; omega
      have j1 : (i : Int) < (len : Int) := by omega
      have j2 : 0 ≤ (i : Int) := by omega
      obtain ⟨ba, oa, rfl, hx, hy⟩ := (H.out.below HW.out).cell g1
      obtain ⟨x, hxx⟩ : ∃ x, (ps.getD i (0, 0)).1 = x := ⟨_, rfl⟩
      obtain ⟨y, hyy⟩ : ∃ y, (ps.getD i (0, 0)).2 = y := ⟨_, rfl⟩
      rw [hxx] at hx
      rw [hyy] at hy
      have TK := Lib.hid (show (ps.take (i + 1)).map mk14 = (ps.take i).map mk14 ++ [mk14 (x, y)] by
        rw [takeP (by rw [LN.out]; exact g1), List.map_append, List.map_cons]
        have e : ps.getD i (0, 0) = (x, y) := by rw [← hxx, ← hyy]
        rw [e]; rfl)
      have b1 := tmod2 y 24 (by omega)
      have bq := pk14_bd y
      have b2 := tmod2 x (pk14 y) (by omega)
      have MK := Lib.hid (show mk14 (x, y) = (1 + (x.tmod (pk14 y) + pk14 y).tmod (pk14 y), pk14 y) from rfl)
      have PK := Lib.hid (show pk14 y = 1 + (y.tmod 24 + 24).tmod 24 from rfl)
      obtain ⟨Q, hQ⟩ : ∃ Q, pk14 y = Q := ⟨_, rfl⟩
      rw [hQ] at MK PK b2 bq
      obtain ⟨A, hA⟩ : ∃ A, y.tmod 24 = A := ⟨_, rfl⟩
      rw [hA] at PK b1
      obtain ⟨B, hB⟩ : ∃ B, (A + 24).tmod 24 = B := ⟨_, rfl⟩
      rw [hB] at PK b1
      have hB2 : (A + 24) % 24 = B := by rw [← hB]; exact (Int.tmod_eq_emod_of_nonneg (by omega)).symm
      obtain ⟨C, hC⟩ : ∃ C, x.tmod Q = C := ⟨_, rfl⟩
      rw [hC] at MK b2
      obtain ⟨D, hD⟩ : ∃ D, (C + Q).tmod Q = D := ⟨_, rfl⟩
      rw [hD] at MK b2
      have hD2 : (C + Q) % Q = D := by rw [← hD]; exact (Int.tmod_eq_emod_of_nonneg (by omega)).symm
      have QB : 1 + B = Q := PK.out.symm
      obtain ⟨b11, b12, b13, b14⟩ := b1
      obtain ⟨b21, b22, b23, b24⟩ := b2
      obtain ⟨bq1, bq2⟩ := bq
      have q0 : ¬ Q = 0 := by omega
      clear hQ hxx hyy
      obtain ⟨W4, hW4⟩ : ∃ W4, wr.alloc (.cells #[.int .i64 (1 + D), .int .i64 Q] 62) = W4 := ⟨_, rfl⟩
      have N4 := Lib.hid (show W4.heap[wr.heap.size]? = some (.cells #[.int .i64 (1 + D, Q).1, .int .i64 (1 + D, Q).2] 62 (0, 0)) by rw [← hW4]; exact heap_alloc_new _ _)
      have O4 := Lib.hid (show W4.ownsRow w.heap.size 62 2 u3 i (cellsW ((ps.take i).map mk14)) by rw [← hW4]; exact owns_below HO.out (wbox _ _))
      have B4 := Lib.hid (show Below w.heap.size w W4 by rw [← hW4]; exact below_next HW.out (wbox _ _))
      go_wp2_with (at_builtin; refine app_part rfl _ _ rfl w.heap.size u3 i ((ps.take i).map mk14) rfl O4.out wr.heap.size (1 + D, Q) rfl N4.out B4.out.size (by omega) ?_; intro v2 w8 hown2 hgrow2; have HO2 := Lib.hid hown2; have HG2 := Lib.hid hgrow2; clear hown2 hgrow2)
      go_roundw
      case rel => exact ⟨i + 1, by go_num, by omega, by omega, by rw [TK.out, List.length_append, LI.out, MK.out]; exact HO2.out, B4.out.grown HG2.out B4.out.size (fun g hg => (O4.out.lt g hg).1)⟩
      case measure => simp [intOf]; omega
    · have EL := Lib.hid (show (ps.take i).map mk14 = made14 ps by
        unfold made14
        by_cases h8 : i = 8
        · rw [h8]
        · rw [List.take_of_length_le (by rw [LN.out]; omega), List.take_of_length_le (by rw [LN.out]; omega)])
      obtain ⟨a', cap', hv, hrow, hfr⟩ := rowP_of_owns (ps := (ps.take i).map mk14) (by rw [LI.out]; exact HO.out)
      rw [LI.out] at hv hrow
      subst hv
      have HR := Lib.hid hrow
      have HF := Lib.hid hfr
      clear hrow hfr
      by_cases g1 : i < len
      · have t1 : decide (i < len) = true := by simp; omega
        have t2 : decide ((i : Int) < 8) = false := by simp; omega
        go_wp2
        go_ret
        exact ⟨_, _, _, rfl, by rw [← EL.out]; exact HR.out, HW.out, HF.out⟩
      · have t1 : decide (i < len) = false := by simp; omega
        go_wp2
        go_ret
        exact ⟨_, _, _, rfl, by rw [← EL.out]; exact HR.out, HW.out, HF.out⟩
/-! ### awake -/
theorem exp_may : MayP [((1 : Int), (4 : Int)), (1, 6)] := ⟨by decide, by decide, fun p hp => by
  simp at hp
  rcases hp with rfl | rfl <;> exact ⟨by decide, by decide, by decide⟩⟩
theorem exp_wgt : wgtV [((1 : Int), (4 : Int)), (1, 6)] = (8, 12, 0) := by
  have e1 : lcmV [((1 : Int), (4 : Int)), (1, 6)] = 12 := by decide
  have e2 : lcmE [((1 : Int), (4 : Int)), (1, 6)] = 0 := by decide
  have e3 : useV [((1 : Int), (4 : Int)), (1, 6)] 12 2 = 5 := by decide
  have e4 : leastV [((1 : Int), (4 : Int)), (1, 6)] = 4 := by decide
  rw [wgt_ok exp_may (by rw [e1, e2]; decide) (by rw [e1]; show ¬ 12 < useV _ 12 2; rw [e3]; decide), e1, e4]
  show (min (useV _ 12 2 + 12 / 4) 12, (12 : Int), (0 : Int)) = _
  rw [e3]
  decide
theorem exp_one : MayP [((1 : Int), (1 : Int))] := ⟨by decide, by decide, fun p hp => by simp at hp; subst hp; exact ⟨by decide, by decide, by decide⟩⟩
theorem rowP_lit1 (W : World) (x y : Int) (T : TypeId) : RowP (W.alloc (.cells #[.int .i64 x, .int .i64 y] T)) (some ⟨W.heap.size, 0, none⟩) 1 1 [(x, y)] := by
  refine ⟨rfl, Nat.le_refl _, by omega, (fun e => by cases e), fun i hi => ?_⟩
  obtain rfl : i = 0 := by omega
  exact ⟨W.heap.size, 0, rfl, World.cell?_alloc_at _ _ _ _ rfl, World.cell?_alloc_at _ _ _ _ rfl⟩
theorem rowP_lit2 (W : World) (x y z u : Int) (T : TypeId) : RowP (W.alloc (.cells #[.int .i64 x, .int .i64 y, .int .i64 z, .int .i64 u] T)) (some ⟨W.heap.size, 0, none⟩) 2 2 [(x, y), (z, u)] := by
  refine ⟨rfl, Nat.le_refl _, by omega, (fun e => by cases e), fun i hi => ?_⟩
  have c : ∀ j, (W.alloc (.cells #[.int .i64 x, .int .i64 y, .int .i64 z, .int .i64 u] T)).cell? ⟨W.heap.size, j, none⟩ = #[Value.int .i64 x, .int .i64 y, .int .i64 z, .int .i64 u][j]? := fun j => World.cell?_alloc_at _ _ _ _ rfl
  match i, hi with
  | 0, _ => exact ⟨W.heap.size, 0, rfl, c 0, c 1⟩
  | 1, _ => exact ⟨W.heap.size, 0, rfl, c 2, c 3⟩
set_option maxHeartbeats 4000000 in
theorem awake14_any (w : World) : Calls Try.prog 10 #[] w fun e w' => e = .returned (.bool true) ∧ Below w.heap.size w w' := by
  have RP := Lib.hid (rowP_lit2 w 1 4 1 6 62)
  have B1 := Lib.hid (wbox w (.cells #[.int .i64 1, .int .i64 4, .int .i64 1, .int .i64 6] 62))
  have SW := Lib.hid (sweight_any _ 2 2 _ _ RP.out 8 12 0 exp_wgt)
  go_enter Try.func10, Try.ntmps10
  go_wp2_with fail
  refine SW.out.mono ?_
  rintro e w2 ⟨rfl, hb⟩
  obtain ⟨W3, hW3⟩ : ∃ W3, w2.alloc (.cells #[.int .i64 8, .int .i64 12] 32) = W3 := ⟨_, rfl⟩
  have X3 := Lib.hid (show Blk W3 32 w2.heap.size #[.int .i64 8, .int .i64 12] by rw [← hW3]; exact Blk.new _ _ _)
  have z3 := Lib.hid (show W3.heap.size = w2.heap.size + 1 by rw [← hW3]; simp)
  have B3 := Lib.hid (show Below w.heap.size w W3 by rw [← hW3]; exact below_next (below_next B1.out hb) (wbox _ _))
  clear hb SW RP B1
  go_upto_region 3 with fail
  clear hW3
  obtain ⟨W4, hW4⟩ : ∃ W4, W3.alloc (.cells #[.int .i64 8, .int .i64 12] 32) = W4 := ⟨_, rfl⟩
  have X4 := Lib.hid (show Blk W4 32 w2.heap.size #[.int .i64 8, .int .i64 12] by rw [← hW4]; exact X3.out.alloc _)
  have Y4 := Lib.hid (show Blk W4 32 W3.heap.size #[.int .i64 8, .int .i64 12] by rw [← hW4]; exact Blk.new _ _ _)
  have B4 := Lib.hid (show Below w.heap.size w W4 by rw [← hW4]; exact below_next B3.out (wbox _ _))
  rw [hW4]
  clear hW4
  have x0 := X4.out.cell 0; have x1 := X4.out.cell 1; have y0 := Y4.out.cell 0; have y1 := Y4.out.cell 1
  simp at x0 x1 y0 y1
  have RP := Lib.hid (rowP_lit1 W4 1 1 62)
  have B5 := Lib.hid (below_next B4.out (wbox W4 (.cells #[.int .i64 1, .int .i64 1] 62)))
  have SC := Lib.hid (scheck_any _ 1 1 _ _ RP.out true ⟨(fun _ => exp_one), (fun _ => rfl)⟩)
  go_wp2_with fail
  refine SC.out.mono ?_
  rintro e w6 ⟨rfl, hb⟩
  have B6 := Lib.hid (below_next B5.out hb)
  clear hb SC
  go_wp2
  go_ret
  exact ⟨rfl, B6.out⟩
end Go.Proofs.Ytnlgophgglgneaa
