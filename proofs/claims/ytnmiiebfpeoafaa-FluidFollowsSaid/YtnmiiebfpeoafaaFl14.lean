/-
  The walk of the law FluidFollows.
-/
import Derived.Test.YtnmiiebfpeoafaaFl13
import Derived.Test.YtnmiiebfpeoafaaWr3
import Derived.Laws.OwnMore
import Derived.Test.YtnmiiebfpeoafaaFlat2
namespace Go.Proofs.Ytnmiiebfpeoafaa
open Go.RowKit

/-- the cells of a row of truths -/
def rowC (bs : List Bool) : Array Value := (bs.map Value.bool).toArray
theorem rowC_size (bs : List Bool) : (rowC bs).size = bs.length := by simp [rowC]
theorem rowC_get {bs : List Bool} {k : Nat} (h : k < bs.length) : (rowC bs)[k]? = some (.bool (bs.getD k false)) := by
  rw [List.getD_eq_getElem?_getD, List.getElem?_eq_getElem h]
  simp [rowC, h]
theorem rowC_set (bs : List Bool) (k : Nat) (b : Bool) : (rowC bs).setIfInBounds k (.bool b) = rowC (bs.set k b) := by
  simp [rowC, List.map_set]
theorem made_row (n : Nat) (v : Value) : madeCells #[v] n = (List.replicate n v).toArray := by
  apply Array.ext
  · simp [madeCells]
  · intro i h1 h2
    simp [madeCells, Nat.mod_one]
theorem made_bools (n : Nat) : madeCells #[Value.bool false] n = rowC (List.replicate n false) := by
  rw [made_row]; simp [rowC]
theorem rowB_of_blk {W : World} {T : TypeId} {g n : Nat} {bs : List Bool} (h : Blk W T g (rowC bs)) (hl : bs.length = 1400) (hn : n ≤ 1400) : RowB W (some ⟨g, 0, none⟩) n 1400 (bs.take n) := by
  refine ⟨by rw [List.length_take, hl]; omega, hn, by omega, (fun e => by cases e), fun i hi => ⟨g, 0, rfl, ?_⟩⟩
  rw [Nat.zero_add, h.cell i, rowC_get (by omega), List.getD_eq_getElem?_getD, List.getD_eq_getElem?_getD, List.getElem?_take_of_lt hi]
theorem Try.infoB : (Try.prog.info? 4).map (fun i => (i.zero, i.size, i.bytes)) = some (some (.bool false), 1, 1) := by kernel_rfl
theorem make_row (w : World) : (Instr.makeSlice 25 (.int .i64 1400) (.int .i64 1400)).run Try.prog w = .ok (.slice (some ⟨w.heap.size, 0, none⟩) 1400 1400) (w.alloc (.cells (rowC (List.replicate 1400 false)) 4)) := by
  obtain ⟨i0, hi, hz0, hz1, hz2⟩ := info_parts Try.infoB
  have h := run_make (P := Try.prog) w 25 4 i0 (.bool false) Try.underlying25 hi hz0 .i64 .i64 1400 1400 (by omega) (by omega) (by rw [hz2]; omega) (by omega)
  rw [hz1] at h
  rw [← made_bools]
  exact h
theorem r4of_zero (E P i : Int) (w : World) (hM : MayBe E P) (hi : Nth i) (R D T G : Int) (hR : wR E P i = R) (hD : wD E P i = D) (hT : wB E P i = T) (hG : (if wG E P i = 0 then 0 else wG E P i + 0) = G) :
    Calls Try.prog 17 #[.agg #[.int .i64 E, .int .i64 P], .int .i64 i, .int .i64 0] w fun e w' => e = .returned (.tuple #[.agg #[.int .i64 i, .int .i64 R, .int .i64 D, .int .i64 T, .int .i64 G], .int .i64 0]) ∧ Below w.heap.size w w' := by
  have h := r4of_yes E P i 0 w hM hi (by omega) (by omega) G hG.symm
  rw [hR, hD, hT, Int.add_zero, Int.add_zero] at h
  exact h
theorem follows_nil {E P : Int} (hM : MayBe E P) : followsB E P [] = true := by
  refine followsB_yes (fun x hx => ?_)
  simp [upto] at hx
  subst hx
  refine (fair_iff hM sl_zero sl_zero).mpr ?_
  show lowV E P 0 ≤ 0 ∧ 0 ≤ highV E P 0
  rw [lowV_zero]
  exact ⟨by omega, (highV_fit hM sl_zero).1⟩
/-- a number by numbers: 0 or more, and below r -/
theorem tmod_two (x r : Int) (h : 0 < r) : 0 ≤ (x.tmod r + r).tmod r ∧ (x.tmod r + r).tmod r < r ∧ -r < x.tmod r ∧ x.tmod r < r := by
  have c1 := Int.lt_tmod_of_pos x h
  have c2 := Int.tmod_lt_of_pos x h
  exact ⟨Int.tmod_nonneg r (by omega), Int.tmod_lt_of_pos _ h, by omega, c2⟩
/-- the state between two rounds: i subtasks have been set -/
structure Fol (w W : World) (E P : Int) (p g : Nat) (ma mb : Int) (i : Nat) (t : Int) (bs : List Bool) : Prop where
  inv : Inv E P i t bs
  row : Blk W 4 g (rowC bs)
  wt : Blk W 24 p #[Value.int .i64 E, Value.int .i64 P]
  mv : Blk W 22 (w.heap.size + 1) #[Value.int .i64 ma, Value.int .i64 mb]
  bel : Below w.heap.size w W
theorem Fol.below {w W W' : World} {E P : Int} {p g : Nat} {ma mb : Int} {i : Nat} {t : Int} {bs : List Bool} (h : Fol w W E P p g ma mb i t bs) (hb : Below W.heap.size W W') : Fol w W' E P p g ma mb i t bs :=
  ⟨h.inv, h.row.below hb, h.wt.below hb, h.mv.below hb, below_next h.bel hb⟩
set_option maxRecDepth 20000 in
set_option maxHeartbeats 8000000 in
theorem f9follows_walk (qa qb ma mb : Int) (a : Option Addr) (len cap : Nat) (zs : List Int) (w : World) (hR : Row .i64 w a len cap zs) :
    Calls Try.prog 6 #[.agg #[.int .i64 qa, .int .i64 qb], .slice a len cap, .agg #[.int .i64 ma, .int .i64 mb]] w fun e w' => e = .returned (.bool true) ∧ Below w.heap.size w w' := by
  have A := Lib.hid hR
  have ⟨cl, cu⟩ := hR.cap_le
  clear hR
  have Q := Lib.hid ((Blk.new w 22 #[Value.int .i64 qa, Value.int .i64 qb]).alloc (.cells #[Value.int .i64 ma, Value.int .i64 mb] 22))
  have M := Lib.hid (Blk.new2 w (.cells #[Value.int .i64 qa, Value.int .i64 qb] 22) 22 #[Value.int .i64 ma, Value.int .i64 mb])
  have hmk := make_row
  go_enter Try.func6, Try.ntmps6
  go_wp2_with fail
  refine (f9awake_any _).mono ?_
  rintro e w1 ⟨rfl, hb⟩
  have B := Lib.hid (below_next (wbox2 _ _ _) hb)
  have q0 := (Q.out.below hb).cell 0; have q1 := (Q.out.below hb).cell 1
  simp at q0 q1
  have M := Lib.hid (M.out.below hb)
  clear hb
  -- P
  have bp := tmod_two qb 40 (by omega)
  obtain ⟨p1, hp1⟩ : ∃ v, qb.tmod 40 = v := ⟨_, rfl⟩
  rw [hp1] at bp
  have wp1 : IntKind.i64.wrap (p1 + 40) = p1 + 40 := IntWalk.i64_in _ (by omega)
  obtain ⟨p2, hp2⟩ : ∃ v, (p1 + 40).tmod 40 = v := ⟨_, rfl⟩
  rw [hp2] at bp
  obtain ⟨P, hP⟩ : ∃ P, 1 + p2 = P := ⟨_, rfl⟩
  have wp2 : IntKind.i64.wrap (1 + p2) = P := by rw [← hP]; exact IntWalk.i64_in _ (by omega)
  have P1 : 1 ≤ P := by omega
  have P40 : P ≤ 40 := by omega
  -- E
  have be := tmod_two qa P (by omega)
  obtain ⟨e1, he1⟩ : ∃ v, qa.tmod P = v := ⟨_, rfl⟩
  rw [he1] at be
  have we1 : IntKind.i64.wrap (e1 + P) = e1 + P := IntWalk.i64_in _ (by omega)
  obtain ⟨e2, he2⟩ : ∃ v, (e1 + P).tmod P = v := ⟨_, rfl⟩
  rw [he2] at be
  obtain ⟨E, hE⟩ : ∃ E, 1 + e2 = E := ⟨_, rfl⟩
  have we2 : IntKind.i64.wrap (1 + e2) = E := by rw [← hE]; exact IntWalk.i64_in _ (by omega)
  have E1 : 1 ≤ E := by omega
  have EP : E ≤ P := by omega
  have nP : ¬ P = 0 := by omega
  have HM := Lib.hid (show MayBe E P from ⟨E1, EP, by omega⟩)
  obtain ⟨p, hp⟩ : ∃ p, w1.heap.size = p := ⟨_, rfl⟩
  obtain ⟨cs0, hcs0⟩ : ∃ cs0, rowC (List.replicate 1400 false) = cs0 := ⟨_, rfl⟩
  rw [hcs0] at hmk
  have F0 := Lib.hid (show Fol w ((w1.alloc (.cells #[Value.int .i64 E, Value.int .i64 P] 24)).alloc (.cells cs0 4)) E P w1.heap.size (w1.heap.size + 1) ma mb 0 (-1) (List.replicate 1400 false) from
    ⟨inv_zero HM.out, hcs0 ▸ Blk.new2 _ _ _ _, (Blk.new w1 _ _).alloc _, (M.out.alloc _).alloc _, below_next B.out (wbox2 _ _ _)⟩)
  have Z0 := Lib.hid (show (0 : Int) = wD E P ((0 : Nat) : Int) from (wD_zero HM.out.1).symm)
  have NM := Lib.hid (show ¬ w.heap.size + 1 = w1.heap.size + 1 from fun h => by have := M.out.lt; omega)
  clear hP hE bp be M hp hcs0
  go_wp2_with fail
  go_loopw [11, 12, 13, 14] (fun v11 v12 v13 v14 wr => ∃ (i : Nat) (t : Int) (bs : List Bool), v11 = .int .i64 t ∧ v12 = .int .i64 (wD E P i) ∧ v13 = .int .i64 (i : Int) ∧ v14 = .int .i64 (i : Int) ∧ i ≤ len ∧ i ≤ 30 ∧ Fol w wr E P w1.heap.size (w1.heap.size + 1) ma mb i t bs) (fun _ _ _ v14 _ => len - (intOf v14).toNat)
  case atStart => exact ⟨0, -1, List.replicate 1400 false, rfl, by rw [← Z0.out], rfl, rfl, Nat.zero_le _, by omega, F0.out⟩
  case round =>
    obtain ⟨i, t, bs, rfl, rfl, rfl, rfl, il, i30, hf⟩ := hrel
    clear F0 Z0 q0 q1 hmk
    have F := Lib.hid hf
    have AW := Lib.hid (A.out.below hf.bel)
    clear hf
    have d30 := Lib.hid i30
    by_cases d1 : i < len
    · have t1 : decide ((i : Int) < (len : Int)) = true := by simp; omega
      by_cases d2 : i < 30
      · have t2 : decide ((i : Int) < 30) = true := by simp; omega
        have N1 := Lib.hid (show Nth ((i : Int) + 1) from ⟨by omega, by omega⟩)
        have wi : IntKind.i64.wrap ((i : Int) + 1) = (i : Int) + 1 := IntWalk.i64_in _ (by omega)
        have hE : 0 < E := by omega
        have dl := wD_le (E := E) (P := P) (i := (i : Int) + 1) hE (by omega) (by omega)
        have mul : ((i : Int) + 1) * P ≤ 30 * 40 := Int.mul_le_mul (by omega) P40 (by omega) (by omega)
        have rn := wR_nonneg (E := E) (P := P) (i := (i : Int) + 1) hE (by omega) (by omega)
        have rs := next_some (E := E) (P := P) (i := (i : Int) + 1) hE (by omega)
        have nl := next_later (E := E) (P := P) (i := (i : Int)) hE EP
        have hi := F.out.inv.hi
        have lo := F.out.inv.lo
        obtain ⟨R, hR⟩ : ∃ v, wR E P ((i : Int) + 1) = v := ⟨_, rfl⟩
        obtain ⟨D, hD⟩ : ∃ v, wD E P ((i : Int) + 1) = v := ⟨_, rfl⟩
        obtain ⟨T, hT⟩ : ∃ v, wB E P ((i : Int) + 1) = v := ⟨_, rfl⟩
        obtain ⟨G, hG⟩ : ∃ v, (if wG E P ((i : Int) + 1) = 0 then 0 else wG E P ((i : Int) + 1) + 0) = v := ⟨_, rfl⟩
        rw [hR] at rn rs
        rw [hD] at rs nl dl
        have HR := Lib.hid hR; have HD := Lib.hid hD; have HT := Lib.hid hT; have HG := Lib.hid hG
        have HDc := Lib.hid (show D = wD E P ((i + 1 : Nat) : Int) by rw [← hD]; congr 1)
        have dl2 : D ≤ 1200 := by omega
        have g_d : decide (1400 ≤ D) = false := by simp; omega
        have tw : t + 1 < D := by omega
        clear hR hD hT hG dl mul
        have k0 := F.out.wt.cell 0
        have k1 := F.out.wt.cell 1
        simp at k0 k1
        go_wp2_with fail
        refine (r4of_zero E P ((i : Int) + 1) _ HM.out N1.out R D T G HR.out HD.out HT.out HG.out).mono ?_
        rintro e w3 ⟨rfl, hb⟩
        have S4 := Lib.hid (Blk.new w3 38 #[Value.int .i64 ((i : Int) + 1), Value.int .i64 R, Value.int .i64 D, Value.int .i64 T, Value.int .i64 G])
        have NE := Lib.hid (show ¬ w3.heap.size = w1.heap.size + 1 from fun h => by have := F.out.row.lt; have := hb.size; omega)
        have hb4 := below_next hb (wbox w3 (.cells #[Value.int .i64 ((i : Int) + 1), Value.int .i64 R, Value.int .i64 D, Value.int .i64 T, Value.int .i64 G] 38))
        have F := Lib.hid (F.out.below hb4)
        have AW := Lib.hid (AW.out.below hb4)
        clear hb hb4 k0 k1
        go_upto_region 12 with fail
        obtain ⟨W4, hW4⟩ : ∃ W4, w3.alloc (.cells #[Value.int .i64 ((i : Int) + 1), Value.int .i64 R, Value.int .i64 D, Value.int .i64 T, Value.int .i64 G] 38) = W4 := ⟨_, rfl⟩
        rw [hW4] at S4 F AW
        rw [hW4]
        clear hW4
        have s1 := S4.out.cell 1
        have s2 := S4.out.cell 2
        simp at s1 s2
        by_cases rl : R ≤ t
        · have t3 : decide (R ≤ t) = true := by simp; omega
          obtain ⟨fm, hfm⟩ : ∃ fm, t + 1 = fm := ⟨_, rfl⟩
          have wfm : IntKind.i64.wrap (t + 1) = fm := by rw [← hfm]; exact IntWalk.i64_in _ (by omega)
          have f1 : R ≤ fm := by omega
          have f2 : t < fm := by omega
          have f3 : fm < D := by omega
          clear hfm rl
          have g_f : decide (D ≤ fm) = false := by simp; omega
          obtain ⟨rm, hrm⟩ : ∃ rm, D - fm = rm := ⟨_, rfl⟩
          have wrm : IntKind.i64.wrap (D - fm) = rm := by rw [← hrm]; exact IntWalk.i64_in _ (by omega)
          have nr : ¬ rm = 0 := by omega
          obtain ⟨z, hz⟩ : ∃ z, zs.getD i 0 = z := ⟨_, rfl⟩
          have bz := tmod_two z rm (by omega)
          obtain ⟨m1, hm1⟩ : ∃ v, z.tmod rm = v := ⟨_, rfl⟩
          rw [hm1] at bz
          have wm1 : IntKind.i64.wrap (m1 + rm) = m1 + rm := IntWalk.i64_in _ (by omega)
          obtain ⟨m2, hm2⟩ : ∃ v, (m1 + rm).tmod rm = v := ⟨_, rfl⟩
          rw [hm2] at bz
          obtain ⟨tn, htn⟩ : ∃ n : Nat, fm + m2 = (n : Int) := ⟨(fm + m2).toNat, by omega⟩
          have wtn : IntKind.i64.wrap (fm + m2) = (tn : Int) := by rw [← htn]; exact IntWalk.i64_in _ (by omega)
          have tn0 : 0 ≤ (tn : Int) := by omega
          have tn1 : (tn : Int) < 1400 := by omega
          have tn2 : tn < 1400 := by omega
          have INV := Lib.hid (inv_next HM.out F.out.inv (by rw [HD.out]; omega) (t := tn) (by rw [HR.out]; omega) (by omega) (by rw [HD.out]; omega))
          have c0 := F.out.row.cell tn
          rw [rowC_get (by rw [F.out.inv.len]; exact tn2), F.out.inv.free tn (by omega)] at c0
          have f0 := F.out.row.free tn
          have s3 := (S4.out.other ⟨w1.heap.size + 1, tn, none⟩ (.bool true) (fun h => NE.out h)).cell 2
          obtain ⟨ba, oa, hab, hc⟩ := AW.out.cell d1
          subst hab
          rw [hz] at hc
          simp at s3
          have i0 : 0 ≤ (i : Int) := by omega
          have i1 : (i : Int) < (len : Int) := by omega
          clear hrm bz htn rn rs nl lo hi hz
          go_wp2
          go_roundw
          case rel => exact ⟨i + 1, tn, bs.set tn true, rfl, by rw [HDc.out], by simp, by simp, by omega, by omega, INV.out, by rw [← rowC_set]; exact F.out.row.set tn _, F.out.wt.other _ _ (by simp), F.out.mv.other _ _ (fun h => NM.out h), F.out.bel.setCell (p := ⟨w1.heap.size + 1, tn, none⟩) (by have := B.out.size; simp; omega) _⟩
          case measure => simp [intOf]; omega

        · have t3 : decide (R ≤ t) = false := by simp; omega
          have f1 : R ≤ R := by omega
          have f2 : t < R := by omega
          have f3 : R < D := rs
          clear rl
          have g_f : decide (D ≤ R) = false := by simp; omega
          obtain ⟨rm, hrm⟩ : ∃ rm, D - R = rm := ⟨_, rfl⟩
          have wrm : IntKind.i64.wrap (D - R) = rm := by rw [← hrm]; exact IntWalk.i64_in _ (by omega)
          have nr : ¬ rm = 0 := by omega
          obtain ⟨z, hz⟩ : ∃ z, zs.getD i 0 = z := ⟨_, rfl⟩
          have bz := tmod_two z rm (by omega)
          obtain ⟨m1, hm1⟩ : ∃ v, z.tmod rm = v := ⟨_, rfl⟩
          rw [hm1] at bz
          have wm1 : IntKind.i64.wrap (m1 + rm) = m1 + rm := IntWalk.i64_in _ (by omega)
          obtain ⟨m2, hm2⟩ : ∃ v, (m1 + rm).tmod rm = v := ⟨_, rfl⟩
          rw [hm2] at bz
          obtain ⟨tn, htn⟩ : ∃ n : Nat, R + m2 = (n : Int) := ⟨(R + m2).toNat, by omega⟩
          have wtn : IntKind.i64.wrap (R + m2) = (tn : Int) := by rw [← htn]; exact IntWalk.i64_in _ (by omega)
          have tn0 : 0 ≤ (tn : Int) := by omega
          have tn1 : (tn : Int) < 1400 := by omega
          have tn2 : tn < 1400 := by omega
          have INV := Lib.hid (inv_next HM.out F.out.inv (by rw [HD.out]; omega) (t := tn) (by rw [HR.out]; omega) (by omega) (by rw [HD.out]; omega))
          have c0 := F.out.row.cell tn
          rw [rowC_get (by rw [F.out.inv.len]; exact tn2), F.out.inv.free tn (by omega)] at c0
          have f0 := F.out.row.free tn
          have s3 := (S4.out.other ⟨w1.heap.size + 1, tn, none⟩ (.bool true) (fun h => NE.out h)).cell 2
          obtain ⟨ba, oa, hab, hc⟩ := AW.out.cell d1
          subst hab
          rw [hz] at hc
          simp at s3
          have i0 : 0 ≤ (i : Int) := by omega
          have i1 : (i : Int) < (len : Int) := by omega
          clear hrm bz htn rn rs nl lo hi hz
          go_wp2
          go_roundw
          case rel => exact ⟨i + 1, tn, bs.set tn true, rfl, by rw [HDc.out], by simp, by simp, by omega, by omega, INV.out, by rw [← rowC_set]; exact F.out.row.set tn _, F.out.wt.other _ _ (by simp), F.out.mv.other _ _ (fun h => NM.out h), F.out.bel.setCell (p := ⟨w1.heap.size + 1, tn, none⟩) (by have := B.out.size; simp; omega) _⟩
          case measure => simp [intOf]; omega

      · have t2 : decide ((i : Int) < 30) = false := by simp; omega
        have i1 : 1 ≤ i := by omega
        have g_n : ((i : Int) == 0) = false := by simp; omega
        have hE : 0 < E := by omega
        have dl := wD_le (E := E) (P := P) (i := (i : Int)) hE (by omega) (by omega)
        have mul : (i : Int) * P ≤ 30 * 40 := Int.mul_le_mul (by omega) P40 (by omega) (by omega)
        have dn := wD_nonneg (E := E) (P := P) (i := (i : Int)) hE (by omega) (by omega)
        obtain ⟨en, hen⟩ : ∃ n : Nat, wD E P (i : Int) = (n : Int) := ⟨(wD E P (i : Int)).toNat, by omega⟩
        rw [hen]
        rw [hen] at dl
        have en1 : en ≤ 1400 := by omega
        have en2 : (en : Int) ≤ 1400 := by omega
        have FO := Lib.hid (inv_follows HM.out F.out.inv hen en1)
        have RU := Lib.hid (inv_runs F.out.inv hen en1)
        have RB := Lib.hid (rowB_of_blk F.out.row F.out.inv.len en1)
        -- which one is moved
        have bk := tmod_two ma (i : Int) (by omega)
        obtain ⟨x1, hx1⟩ : ∃ v, ma.tmod (i : Int) = v := ⟨_, rfl⟩
        rw [hx1] at bk
        have wx1 : IntKind.i64.wrap (x1 + (i : Int)) = x1 + (i : Int) := IntWalk.i64_in _ (by omega)
        obtain ⟨x2, hx2⟩ : ∃ v, (x1 + (i : Int)).tmod (i : Int) = v := ⟨_, rfl⟩
        rw [hx2] at bk
        obtain ⟨kk, hkk⟩ : ∃ v, 1 + x2 = v := ⟨_, rfl⟩
        have wkk : IntKind.i64.wrap (1 + x2) = kk := by rw [← hkk]; exact IntWalk.i64_in _ (by omega)
        have kk1 : 1 ≤ kk := by omega
        have kk2 : kk ≤ 30 := by omega
        have wk1 : IntKind.i64.wrap (kk - 1) = kk - 1 := IntWalk.i64_in _ (by omega)
        have ni : ¬ (i : Int) = 0 := by omega
        have NK := Lib.hid (show Nth kk from ⟨by omega, by omega⟩)
        have dk := wD_le (E := E) (P := P) (i := kk) hE (by omega) (by omega)
        have mulk : kk * P ≤ 30 * 40 := Int.mul_le_mul kk2 P40 (by omega) (by omega)
        have dkn := wD_nonneg (E := E) (P := P) (i := kk) hE (by omega) (by omega)
        have rkn := wR_nonneg (E := E) (P := P) (i := kk) hE (by omega) kk1
        have rks := next_some (E := E) (P := P) (i := kk) hE (by omega)
        obtain ⟨R, hR⟩ : ∃ v, wR E P kk = v := ⟨_, rfl⟩
        obtain ⟨D, hD⟩ : ∃ v, wD E P kk = v := ⟨_, rfl⟩
        obtain ⟨T, hT⟩ : ∃ v, wB E P kk = v := ⟨_, rfl⟩
        obtain ⟨G, hG⟩ : ∃ v, (if wG E P kk = 0 then 0 else wG E P kk + 0) = v := ⟨_, rfl⟩
        rw [hR] at rkn rks
        rw [hD] at dk dkn rks
        have HR := Lib.hid hR; have HD := Lib.hid hD; have HT := Lib.hid hT; have HG := Lib.hid hG
        have LF := Lib.hid (late_no HM.out hD ⟨by omega, by omega⟩)
        have EF := Lib.hid (early_no HM.out hR ⟨by omega, by omega⟩)
        clear hR hD hT hG dk mulk dkn rkn rks dl mul dn hen bk hkk
        go_upto_region 25 with fail
        have KEPT := Lib.hid (show ∀ w' : World, Below wr.heap.size wr w' → w'.cell? ⟨w1.heap.size, 0, none⟩ = some (.int .i64 E) ∧ w'.cell? ⟨w1.heap.size, 1, none⟩ = some (.int .i64 P) from fun w' h => ⟨(F.out.wt.below h).cell 0, (F.out.wt.below h).cell 1⟩)
        have BL := Lib.hid ((Below.refl wr.heap.size wr).drew)
        go_region_held3 (fun w' => w'.cell? ⟨w1.heap.size, 0, none⟩ = some (.int .i64 E) ∧ w'.cell? ⟨w1.heap.size, 1, none⟩ = some (.int .i64 P)) (exact KEPT.out _ BL.out)
          (first
            | (go_at_call 18; (with_reducible refine (ffollows_any E P _ en 1400 (bs.take en) (by omega) _ (RB.out.below BL.out) true FO.out).mono ?_); rintro e wa ⟨rfl, hb⟩; have BL := Lib.hid (below_next BL.out hb); clear hb)
            | (go_at_call 19; (with_reducible refine (fruns_at _ en 1400 (bs.take en) (by omega) _ (RB.out.below BL.out) (i : Int) RU.out).mono ?_); rintro e wa ⟨rfl, hb⟩; have BL := Lib.hid (below_next BL.out hb); clear hb))
        all_goals
          have F := Lib.hid (F.out.below BL.out)
          clear KEPT BL
          have k0 := F.out.wt.cell 0
          have k1 := F.out.wt.cell 1
          have m0 := F.out.mv.cell 0
          have m1 := F.out.mv.cell 1
          simp at k0 k1 m0 m1
          go_wp2_with fail
          refine (r4of_zero E P kk _ HM.out NK.out R D T G HR.out HD.out HT.out HG.out).mono ?_
          rintro e w3 ⟨rfl, hb⟩
          have S4 := Lib.hid (Blk.new w3 38 #[Value.int .i64 kk, Value.int .i64 R, Value.int .i64 D, Value.int .i64 T, Value.int .i64 G])
          have F := Lib.hid (F.out.below (below_next hb (wbox w3 (.cells #[Value.int .i64 kk, Value.int .i64 R, Value.int .i64 D, Value.int .i64 T, Value.int .i64 G] 38))))
          clear hb k0 k1 m0 m1
          go_upto_region 29 with fail
          obtain ⟨W4, hW4⟩ : ∃ W4, w3.alloc (.cells #[Value.int .i64 kk, Value.int .i64 R, Value.int .i64 D, Value.int .i64 T, Value.int .i64 G] 38) = W4 := ⟨_, rfl⟩
          rw [hW4] at S4 F
          rw [hW4]
          clear hW4
          have k0 := F.out.wt.cell 0
          have k1 := F.out.wt.cell 1
          have s1 := S4.out.cell 1
          have s2 := S4.out.cell 2
          simp at k0 k1 s1 s2
          go_wp2_with fail
          refine (ffair_any E P D (kk - 1) _ false LF.out).mono ?_
          rintro e w5 ⟨rfl, hb⟩
          have F := Lib.hid (F.out.below hb)
          have S4 := Lib.hid (S4.out.below hb)
          clear hb k0 k1 s1 s2
          have k0 := F.out.wt.cell 0
          have k1 := F.out.wt.cell 1
          have s1 := S4.out.cell 1
          simp at k0 k1 s1
          by_cases r0 : R = 0
          · have g_r : (R == 0) = true := by simp; omega
            go_wp2
            go_ret
            exact ⟨rfl, F.out.bel⟩
          · have g_r : (R == 0) = false := by simp; omega
            go_wp2_with fail
            refine (ffair_any E P R kk _ false EF.out).mono ?_
            rintro e w7 ⟨rfl, hb⟩
            have F := Lib.hid (F.out.below hb)
            have S4 := Lib.hid (S4.out.below hb)
            clear hb k0 k1 s1
            have s1 := S4.out.cell 1
            simp at s1
            go_wp2
            go_ret
            exact ⟨rfl, F.out.bel⟩

    · have t1 : decide ((i : Int) < (len : Int)) = false := by simp; omega
      by_cases i1 : 1 ≤ i
      · have d1b : decide (i < len) = false := by simp; omega
        have g_n : ((i : Int) == 0) = false := by simp; omega
        have hE : 0 < E := by omega
        have dl := wD_le (E := E) (P := P) (i := (i : Int)) hE (by omega) (by omega)
        have mul : (i : Int) * P ≤ 30 * 40 := Int.mul_le_mul (by omega) P40 (by omega) (by omega)
        have dn := wD_nonneg (E := E) (P := P) (i := (i : Int)) hE (by omega) (by omega)
        obtain ⟨en, hen⟩ : ∃ n : Nat, wD E P (i : Int) = (n : Int) := ⟨(wD E P (i : Int)).toNat, by omega⟩
        rw [hen]
        rw [hen] at dl
        have en1 : en ≤ 1400 := by omega
        have en2 : (en : Int) ≤ 1400 := by omega
        have FO := Lib.hid (inv_follows HM.out F.out.inv hen en1)
        have RU := Lib.hid (inv_runs F.out.inv hen en1)
        have RB := Lib.hid (rowB_of_blk F.out.row F.out.inv.len en1)
        -- which one is moved
        have bk := tmod_two ma (i : Int) (by omega)
        obtain ⟨x1, hx1⟩ : ∃ v, ma.tmod (i : Int) = v := ⟨_, rfl⟩
        rw [hx1] at bk
        have wx1 : IntKind.i64.wrap (x1 + (i : Int)) = x1 + (i : Int) := IntWalk.i64_in _ (by omega)
        obtain ⟨x2, hx2⟩ : ∃ v, (x1 + (i : Int)).tmod (i : Int) = v := ⟨_, rfl⟩
        rw [hx2] at bk
        obtain ⟨kk, hkk⟩ : ∃ v, 1 + x2 = v := ⟨_, rfl⟩
        have wkk : IntKind.i64.wrap (1 + x2) = kk := by rw [← hkk]; exact IntWalk.i64_in _ (by omega)
        have kk1 : 1 ≤ kk := by omega
        have kk2 : kk ≤ 30 := by omega
        have wk1 : IntKind.i64.wrap (kk - 1) = kk - 1 := IntWalk.i64_in _ (by omega)
        have ni : ¬ (i : Int) = 0 := by omega
        have NK := Lib.hid (show Nth kk from ⟨by omega, by omega⟩)
        have dk := wD_le (E := E) (P := P) (i := kk) hE (by omega) (by omega)
        have mulk : kk * P ≤ 30 * 40 := Int.mul_le_mul kk2 P40 (by omega) (by omega)
        have dkn := wD_nonneg (E := E) (P := P) (i := kk) hE (by omega) (by omega)
        have rkn := wR_nonneg (E := E) (P := P) (i := kk) hE (by omega) kk1
        have rks := next_some (E := E) (P := P) (i := kk) hE (by omega)
        obtain ⟨R, hR⟩ : ∃ v, wR E P kk = v := ⟨_, rfl⟩
        obtain ⟨D, hD⟩ : ∃ v, wD E P kk = v := ⟨_, rfl⟩
        obtain ⟨T, hT⟩ : ∃ v, wB E P kk = v := ⟨_, rfl⟩
        obtain ⟨G, hG⟩ : ∃ v, (if wG E P kk = 0 then 0 else wG E P kk + 0) = v := ⟨_, rfl⟩
        rw [hR] at rkn rks
        rw [hD] at dk dkn rks
        have HR := Lib.hid hR; have HD := Lib.hid hD; have HT := Lib.hid hT; have HG := Lib.hid hG
        have LF := Lib.hid (late_no HM.out hD ⟨by omega, by omega⟩)
        have EF := Lib.hid (early_no HM.out hR ⟨by omega, by omega⟩)
        clear hR hD hT hG dk mulk dkn rkn rks dl mul dn hen bk hkk
        go_upto_region 25 with fail
        have KEPT := Lib.hid (show ∀ w' : World, Below wr.heap.size wr w' → w'.cell? ⟨w1.heap.size, 0, none⟩ = some (.int .i64 E) ∧ w'.cell? ⟨w1.heap.size, 1, none⟩ = some (.int .i64 P) from fun w' h => ⟨(F.out.wt.below h).cell 0, (F.out.wt.below h).cell 1⟩)
        have BL := Lib.hid ((Below.refl wr.heap.size wr).drew)
        go_region_held3 (fun w' => w'.cell? ⟨w1.heap.size, 0, none⟩ = some (.int .i64 E) ∧ w'.cell? ⟨w1.heap.size, 1, none⟩ = some (.int .i64 P)) (exact KEPT.out _ BL.out)
          (first
            | (go_at_call 18; (with_reducible refine (ffollows_any E P _ en 1400 (bs.take en) (by omega) _ (RB.out.below BL.out) true FO.out).mono ?_); rintro e wa ⟨rfl, hb⟩; have BL := Lib.hid (below_next BL.out hb); clear hb)
            | (go_at_call 19; (with_reducible refine (fruns_at _ en 1400 (bs.take en) (by omega) _ (RB.out.below BL.out) (i : Int) RU.out).mono ?_); rintro e wa ⟨rfl, hb⟩; have BL := Lib.hid (below_next BL.out hb); clear hb))
        all_goals
          have F := Lib.hid (F.out.below BL.out)
          clear KEPT BL
          have k0 := F.out.wt.cell 0
          have k1 := F.out.wt.cell 1
          have m0 := F.out.mv.cell 0
          have m1 := F.out.mv.cell 1
          simp at k0 k1 m0 m1
          go_wp2_with fail
          refine (r4of_zero E P kk _ HM.out NK.out R D T G HR.out HD.out HT.out HG.out).mono ?_
          rintro e w3 ⟨rfl, hb⟩
          have S4 := Lib.hid (Blk.new w3 38 #[Value.int .i64 kk, Value.int .i64 R, Value.int .i64 D, Value.int .i64 T, Value.int .i64 G])
          have F := Lib.hid (F.out.below (below_next hb (wbox w3 (.cells #[Value.int .i64 kk, Value.int .i64 R, Value.int .i64 D, Value.int .i64 T, Value.int .i64 G] 38))))
          clear hb k0 k1 m0 m1
          go_upto_region 29 with fail
          obtain ⟨W4, hW4⟩ : ∃ W4, w3.alloc (.cells #[Value.int .i64 kk, Value.int .i64 R, Value.int .i64 D, Value.int .i64 T, Value.int .i64 G] 38) = W4 := ⟨_, rfl⟩
          rw [hW4] at S4 F
          rw [hW4]
          clear hW4
          have k0 := F.out.wt.cell 0
          have k1 := F.out.wt.cell 1
          have s1 := S4.out.cell 1
          have s2 := S4.out.cell 2
          simp at k0 k1 s1 s2
          go_wp2_with fail
          refine (ffair_any E P D (kk - 1) _ false LF.out).mono ?_
          rintro e w5 ⟨rfl, hb⟩
          have F := Lib.hid (F.out.below hb)
          have S4 := Lib.hid (S4.out.below hb)
          clear hb k0 k1 s1 s2
          have k0 := F.out.wt.cell 0
          have k1 := F.out.wt.cell 1
          have s1 := S4.out.cell 1
          simp at k0 k1 s1
          by_cases r0 : R = 0
          · have g_r : (R == 0) = true := by simp; omega
            go_wp2
            go_ret
            exact ⟨rfl, F.out.bel⟩
          · have g_r : (R == 0) = false := by simp; omega
            go_wp2_with fail
            refine (ffair_any E P R kk _ false EF.out).mono ?_
            rintro e w7 ⟨rfl, hb⟩
            have F := Lib.hid (F.out.below hb)
            have S4 := Lib.hid (S4.out.below hb)
            clear hb k0 k1 s1
            have s1 := S4.out.cell 1
            simp at s1
            go_wp2
            go_ret
            exact ⟨rfl, F.out.bel⟩

      · have d1b : decide (i < len) = false := by simp; omega
        have g_n : ((i : Int) == 0) = true := by simp; omega
        have FN := Lib.hid (follows_nil HM.out)
        have k0 := F.out.wt.cell 0
        have k1 := F.out.wt.cell 1
        simp at k0 k1
        go_wp2_with fail
        refine (ffollows_any E P none 0 0 [] (by omega) _ RowB.nil true FN.out).mono ?_
        rintro e w4 ⟨rfl, hb⟩
        have BE := Lib.hid (below_next F.out.bel hb)
        clear hb k0 k1
        go_wp2
        go_ret
        exact ⟨rfl, BE.out⟩
end Go.Proofs.Ytnmiiebfpeoafaa
