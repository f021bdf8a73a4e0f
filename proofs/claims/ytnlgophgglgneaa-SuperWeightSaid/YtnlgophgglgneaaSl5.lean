/-
  The walk of SuperWeight: it answers true, and writes nothing that was there.
-/
import Derived.Test.YtnlgophgglgneaaSl4
import Derived.Test.YtnlgophgglgneaaWrA
import Derived.Deep.CutBlock
import Derived.Deep.DeepCutAuto
import Derived.Deep.RegionHeld3
namespace Go.Proofs.Ytnlgophgglgneaa
open Go.RowKit

theorem Rat.shape {W : World} {b L : Nat} {v : Value} {n d : Int} (h : Rat W b L v n d) : ∃ a1 l1 c1 a2 l2 c2, v = .agg #[.slice a1 l1 c1, .slice a2 l2 c2] := by
  obtain ⟨an, ln, cn, zn, ad, ld, cd, zd, rfl, _⟩ := h
  exact ⟨_, _, _, _, _, _, rfl⟩
theorem Rat.store {W : World} {L b : Nat} {v : Value} {n d : Int} {T : TypeId} {x1 x2 : Option Addr} {l1 c1 l2 c2 : Nat} (h : Rat W 0 L v n d) (hg : Blk W T b #[.slice x1 l1 c1, .slice x2 l2 c2]) (u1 u2 : Value) : Rat ((W.setCell ⟨b, 0, none⟩ u1).setCell ⟨b, 1, none⟩ u2) 0 L v n d := h.boxed hg u1 u2
theorem Blk.store {W : World} {T : TypeId} {b : Nat} {a c : Option Addr} {l1 c1 l2 c2 : Nat} (h : Blk W T b #[.slice a l1 c1, .slice c l2 c2]) (x y : Value) :
    Blk ((W.setCell ⟨b, 0, none⟩ x).setCell ⟨b, 1, none⟩ y) T b #[x, y] := heap_setCell_same (W.setCell ⟨b, 0, none⟩ x) b 1 #[x, .slice c l2 c2] T y (heap_setCell_same W b 0 #[.slice a l1 c1, .slice c l2 c2] T x h)
theorem below_store {w X : World} {b k : Nat} {x y : Value} (h : Below k w X) (hb : k ≤ b) : Below k w ((X.setCell ⟨b, 0, none⟩ x).setCell ⟨b, 1, none⟩ y) := (h.setCell hb _).setCell hb _
theorem of_from {E P : Int} {w0 wr : World} (h : Below w0.heap.size w0 wr) (e0 : 0 ≤ E) (e1 : E < 4294967296) (p0 : 0 ≤ P) (p1 : P < 4294967296) : Calls Try.prog 28 #[.agg #[.int .i64 E, .int .i64 P]] wr fun e w' => ∃ v, e = .returned v ∧ Rat w' 0 1 v E P ∧ Below w0.heap.size w0 w' ∧ Below wr.heap.size wr w' :=
  (rof_any E P wr e0 e1 p0 p1).mono fun _ _ ⟨v, h1, h2, h3⟩ => ⟨v, h1, h2.mono (Nat.zero_le _) (Nat.le_refl _), below_next h h3, h3⟩
theorem add_from {v u : Value} {n1 d1 n2 d2 : Int} {w0 wr : World} (h : Below w0.heap.size w0 wr) (h1 : Rat wr 0 20 v n1 d1) (h2 : Rat wr 0 1 u n2 d2) : Calls Try.prog 30 #[v, u] wr fun e w' => ∃ a1 l1 c1 a2 l2 c2, e = .returned (.agg #[.slice a1 l1 c1, .slice a2 l2 c2]) ∧ Rat w' 0 22 (.agg #[.slice a1 l1 c1, .slice a2 l2 c2]) (n1 * d2 + n2 * d1) (d1 * d2) ∧ Below w0.heap.size w0 w' ∧ Below wr.heap.size wr w' :=
  (rplus_any v u n1 d1 n2 d2 0 0 20 1 wr h1 h2 (by omega)).mono fun _ _ ⟨z, e1, e2, e3⟩ => by
    obtain ⟨a1, l1, c1, z1, a2, l2, c2, z2, rfl, _⟩ := _root_.id e2
    exact ⟨a1, l1, c1, a2, l2, c2, e1, e2.mono (Nat.zero_le _) (Nat.le_refl _), below_next h e3, e3⟩
theorem cmp_yes {a b : Int} (h : b < a) : decide (cmpI a b > 0) = true := by rw [cmpI_gt h]; decide
theorem cmp_no {a b : Int} (h : ¬ b < a) : decide (cmpI a b > 0) = false := by
  rcases Int.lt_or_le a b with g | g
  · rw [cmpI_lt g]; decide
  · rw [cmpI_eq (by omega)]; decide
set_option maxRecDepth 20000 in
set_option maxHeartbeats 8000000 in
theorem sweight_walk (a : Option Addr) (len cap : Nat) (ps : List (Int × Int)) (w : World) (h : RowP w a len cap ps) :
    Calls Try.prog 6 #[.slice a len cap] w fun e w' => e = .returned (.bool true) ∧ Below w.heap.size w w' := by
  have H := Lib.hid h
  clear h
  go_enter Try.func6, Try.ntmps6
  go_wp2_with fail
  refine (awake14_any w).mono ?_
  rintro e w1 ⟨rfl, hb⟩
  have B1 := Lib.hid hb
  clear hb
  go_wp2_with fail
  refine (made14_any a len cap ps w1 (H.out.below B1.out)).mono ?_
  rintro e w2 ⟨am, lm, cm, rfl, hr, hb, _⟩
  have ME := Lib.hid (made14_each ps)
  have MN := Lib.hid (fun h => made14_may (ps := ps) h)
  have MS := Lib.hid (fun (i : Nat) h => made14_small (ps := ps) (i := i) h)
  obtain ⟨qs, hqs⟩ : ∃ q, made14 ps = q := ⟨_, rfl⟩
  rw [hqs] at hr ME MN MS
  have RM := Lib.hid hr
  have B2 := Lib.hid (below_next B1.out hb)
  have LQ := Lib.hid hr.len
  have ⟨k1, k2⟩ := hr.cap_le
  clear hb hr hqs
  obtain ⟨E, P, er, hv⟩ : ∃ E P er, wgtV qs = (E, P, er) := ⟨_, _, _, rfl⟩
  have HV := Lib.hid hv
  clear hv
  go_wp2_with fail
  refine (sweight_any am lm cm qs w2 RM.out E P er HV.out).mono ?_
  rintro e w3 ⟨rfl, hb3⟩
  obtain ⟨W4, hW4⟩ : ∃ W4, w3.alloc (.cells #[.int .i64 E, .int .i64 P] 32) = W4 := ⟨_, rfl⟩
  have X4 := Lib.hid (show Blk W4 32 w3.heap.size #[.int .i64 E, .int .i64 P] by rw [← hW4]; exact Blk.new _ _ _)
  have B4 := Lib.hid (show Below w.heap.size w W4 by rw [← hW4]; exact below_next (below_next B2.out hb3) (wbox _ _))
  have GG := Lib.hid (below_next B2.out hb3).size
  have R4 := Lib.hid (show RowP W4 am lm cm qs by rw [← hW4]; exact (RM.out.below hb3).below (wbox _ _))
  obtain ⟨g5, hg5⟩ : ∃ g, w3.heap.size = g := ⟨_, rfl⟩
  rw [hg5] at X4 GG
  by_cases hl : lm = 0
  · subst hl
    have he : er = 1 := by
      have := wgt_arg (ps := qs) (fun g => by have := g.some_; have := LQ.out; omega)
      rw [HV.out] at this
      simp only [Prod.mk.injEq] at this
      exact this.2.2
    subst he
    go_wp2
    clear hW4 hb3
    go_ret
    exact ⟨rfl, B4.out⟩
  · have t1 : ((lm : Int) == 0) = false := by simp; omega
    have t2 : (lm == 0) = false := by simp; omega
    have hM := MN.out (by intro e; rw [e] at LQ; exact hl LQ.out.symm)
    obtain ⟨N, D, hND⟩ : ∃ N D, useR qs = (N, D) := ⟨_, _, rfl⟩
    obtain ⟨n0, d0, hu⟩ := wgt_use hM HV.out hND
    have U := Lib.hid hu
    have ND := Lib.hid hND
    have HM := Lib.hid hM
    clear hu hND hM
    go_wp2_with fail
    clear hW4 hb3 hg5
    refine (r14use_any am lm cm qs W4 R4.out).mono ?_
    rintro e w5 ⟨v5, rfl, hr5, hb5⟩
    rw [ND.out] at hr5
    replace hr5 : Rat w5 0 20 v5 N D := hr5
    obtain ⟨x1, y1, z1, x2, y2, z2, rfl⟩ := hr5.shape
    obtain ⟨W6, hW6⟩ : ∃ W6, w5.alloc (.cells #[.slice x1 y1 z1, .slice x2 y2 z2] 58) = W6 := ⟨_, rfl⟩
    have bx := below_next hb5 (wbox w5 (.cells #[.slice x1 y1 z1, .slice x2 y2 z2] 58))
    rw [hW6] at bx
    have X6 := Lib.hid (X4.out.below bx)
    have R6 := Lib.hid (R4.out.below bx)
    have B6 := Lib.hid (below_next B4.out bx)
    have U6 := Lib.hid (show Rat W6 0 20 (.agg #[.slice x1 y1 z1, .slice x2 y2 z2]) N D by rw [← hW6]; exact hr5.below (wbox _ _))
    have Y6 := Lib.hid (show Blk W6 58 w5.heap.size #[.slice x1 y1 z1, .slice x2 y2 z2] by rw [← hW6]; exact Blk.new _ _ _)
    obtain ⟨g7, hg7⟩ : ∃ g, w5.heap.size = g := ⟨_, rfl⟩
    have n7 : g5 < g7 := by rw [← hg7]; exact Nat.lt_of_lt_of_le X4.out.lt hb5.size
    rw [hg7] at Y6
    clear hr5 hb5 bx
    go_wp2_with fail
    clear hW6 hg7
    refine (of_from (E := 1) (P := 1) (Below.refl _ W6) (by decide) (by decide) (by decide) (by decide)).mono ?_
    rintro e w7 ⟨v7, rfl, hr7, _, hb7⟩
    obtain ⟨x3, y3, z3, x4, y4, z4, rfl⟩ := hr7.shape
    obtain ⟨W8, hW8⟩ : ∃ W8, w7.alloc (.cells #[.slice x3 y3 z3, .slice x4 y4 z4] 58) = W8 := ⟨_, rfl⟩
    have bx := below_next hb7 (wbox w7 (.cells #[.slice x3 y3 z3, .slice x4 y4 z4] 58))
    rw [hW8] at bx
    have X8 := Lib.hid (X6.out.below bx)
    have R8 := Lib.hid (R6.out.below bx)
    have Y8 := Lib.hid (Y6.out.below bx)
    have U8 := Lib.hid (U6.out.below bx)
    have B8 := Lib.hid (below_next B6.out bx)
    have V8 := Lib.hid (show Rat W8 0 1 (.agg #[.slice x3 y3 z3, .slice x4 y4 z4]) 1 1 by rw [← hW8]; exact hr7.below (wbox _ _))
    have Z8 := Lib.hid (show Blk W8 58 w7.heap.size #[.slice x3 y3 z3, .slice x4 y4 z4] by rw [← hW8]; exact Blk.new _ _ _)
    obtain ⟨g8, hg8⟩ : ∃ g, w7.heap.size = g := ⟨_, rfl⟩
    have n8 : g7 < g8 := by rw [← hg8]; exact Nat.lt_of_lt_of_le Y6.out.lt hb7.size
    rw [hg8] at Z8
    clear hr7 hb7 bx
    have c70 := Y8.out.cell 0
    have c71 := Y8.out.cell 1
    have c80 := Z8.out.cell 0
    have c81 := Z8.out.cell 1
    simp at c70 c71 c80 c81
    go_wp2_with fail
    clear hW8 hg8 c70 c71 c80 c81
    refine (rcmp_any _ _ N D 1 1 0 0 20 1 W8 U8.out V8.out (by omega)).mono ?_
    rintro e w9 ⟨rfl, hb9⟩
    rw [Int.mul_one, Int.one_mul]
    have X9 := Lib.hid (X8.out.below hb9)
    have R9 := Lib.hid (R8.out.below hb9)
    have Y9 := Lib.hid (Y8.out.below hb9)
    have Z9 := Lib.hid (Z8.out.below hb9)
    have U9 := Lib.hid (U8.out.below hb9)
    have V9 := Lib.hid (V8.out.below hb9)
    have B9 := Lib.hid (below_next B8.out hb9)
    clear hb9
    by_cases hov : D < N
    · have t3 := cmp_yes hov
      have t4 : (er != 0) = true := by simpa using U.out.over hov
      go_wp2
      go_ret
      exact ⟨rfl, B9.out⟩
    · have t3 := cmp_no hov
      by_cases he : er = 0
      · subst he
        obtain ⟨e1, e2, e3⟩ := U.out.may rfl
        have lm0 : 0 < lm := by omega
        obtain ⟨k1', k2'⟩ : lm ≤ cm ∧ cm ≤ 9223372036854775807 := ⟨k1, k2⟩
        obtain ⟨ba, oa, rfl, hx0, hy0⟩ := R9.out.cell lm0
        replace hy0 : w9.cell? ⟨ba, oa + 0 * 2 + 1, none⟩ = some (.int .i64 (pP qs 0)) := hy0
        rw [Nat.zero_mul, Nat.add_zero] at hy0
        have hlm : (0 : Int) < (lm : Int) := by omega
        clear hx0
        have LL := Lib.hid (show leastV qs = lstV qs (lm - 1) by unfold leastV; rw [LQ.out])
        go_wp2
        go_loopw [9, 10] (fun u v wr => ∃ i : Nat, v = .int .i64 i ∧ 1 ≤ i ∧ i ≤ lm ∧ u = .int .i64 (lstV qs (i - 1)) ∧ w9 = wr) (fun _ v _ => lm - (intOf v).toNat)
        case atStart => exact ⟨1, rfl, by omega, by omega, rfl, rfl⟩
        case round =>
          obtain ⟨i, rfl, i1, il, rfl, rfl⟩ := hrel
          clear hy0
          obtain ⟨l0, hl0⟩ : ∃ l, lstV qs (i - 1) = l := ⟨_, rfl⟩
          by_cases go : i < lm
          · have b1 : decide (i < lm) = true := by simp; omega
            have b2 : decide ((i : Int) < (lm : Int)) = true := by simp; omega
            have j1 : (i : Int) < (lm : Int) := by omega
            have j0 : 0 ≤ (i : Int) := by omega
            obtain ⟨ba2, oa2, e2a, _, hy⟩ := R9.out.cell go
            obtain ⟨rfl, rfl⟩ : ba = ba2 ∧ oa = oa2 := by simpa using e2a
            replace hy : w9.cell? ⟨ba, oa + i * 2 + 1, none⟩ = some (.int .i64 (pP qs i)) := hy
            have LS := Lib.hid (show lstV qs (i + 1 - 1) = min (lstV qs (i - 1)) (pP qs i) by
              obtain ⟨k, rfl⟩ : ∃ k, i = k + 1 := ⟨i - 1, by omega⟩
              exact lst_succ)
            obtain ⟨p0, hp0⟩ : ∃ p, pP qs i = p := ⟨_, rfl⟩
            rw [hp0] at hy LS
            rw [hl0] at LS ⊢
            clear e2a hp0 hl0
            by_cases lt : p0 < l0
            · have b3 : decide (p0 < l0) = true := by simp; omega
              have MI := Lib.hid (show lstV qs (i + 1 - 1) = p0 by rw [LS.out]; omega)
              clear LS
              go_wp2
              go_roundw
              case rel => exact ⟨i + 1, by go_num, by omega, by omega, by rw [MI.out], by first | rfl | trivial⟩
              case measure => simp [intOf]; omega
            · have b3 : decide (p0 < l0) = false := by simp; omega
              have MI := Lib.hid (show lstV qs (i + 1 - 1) = l0 by rw [LS.out]; omega)
              clear LS
              go_wp2
              go_roundw
              case rel => exact ⟨i + 1, by go_num, by omega, by omega, by rw [MI.out], by first | rfl | trivial⟩
              case measure => simp [intOf]; omega
          · have b1 : decide (i < lm) = false := by simp; omega
            have b2 : decide ((i : Int) < (lm : Int)) = false := by simp; omega
            have HL := Lib.hid (show leastV qs = l0 by rw [LL.out, ← hl0, show i = lm by omega])
            have e8 : 1 ≤ l0 ∧ l0 ≤ 24 := by
              obtain ⟨k, hk, ek⟩ := lst_is qs (i - 1)
              have kq : k < qs.length := by rw [LQ.out]; omega
              have m1 := MS.out k kq
              have m2 := MayP.at_ HM.out.each kq
              have m3 := m2.1
              have m4 := m2.2.1
              rw [hl0] at ek
              omega
            rw [hl0]
            have UU := U
            rw [HL.out] at UU
            clear U hl0
            go_upto_region 18 with fail
            go_cut [11] (fun s11 wx => ∃ (bw : Nat) (m1 : Option Addr) (r1 p1 : Nat) (m2 : Option Addr) (r2 p2 : Nat), s11 = .pointer (some ⟨bw, 0, none⟩) ∧ Blk wx 58 bw #[.slice m1 r1 p1, .slice m2 r2 p2] ∧ Rat wx 0 22 (.agg #[.slice m1 r1 p1, .slice m2 r2 p2]) (N * l0 + 1 * D) (D * l0) ∧ w9.heap.size ≤ bw ∧ Below w9.heap.size w9 wx)
            case first =>
              have KEPT := Lib.hid (show ∀ W, Below w9.heap.size w9 W → W.cell? ⟨g7, 0, none⟩ = some (.slice x1 y1 z1) ∧ W.cell? ⟨g7, 1, none⟩ = some (.slice x2 y2 z2) from fun W hb => ⟨(Y9.out.below hb).cell 0, (Y9.out.below hb).cell 1⟩)
              have BB := Lib.hid (show Below w9.heap.size w9 w9.drew from (Below.refl _ _).drew)
              have PA1 := Lib.hid (show Blk (w9.alloc (.cells #[.slice none 0 0, .slice none 0 0] 58)).drew 58 w9.heap.size #[.slice none 0 0, .slice none 0 0] from (Blk.new w9 _ _).drew)
              have BX := Lib.hid (show Below w9.heap.size w9 (w9.alloc (.cells #[.slice none 0 0, .slice none 0 0] 58)).drew from (wbox _ _).drew)
              have BY := Lib.hid (show Below w9.heap.size w9 (w9.alloc (.cells #[.slice none 0 0, .slice none 0 0] 58)).drew from (wbox _ _).drew)
              go_region_held3 (fun w' => w'.cell? ⟨g7, 0, none⟩ = some (.slice x1 y1 z1) ∧ w'.cell? ⟨g7, 1, none⟩ = some (.slice x2 y2 z2))
                (first | (refine KEPT.out _ ?_; repeat (first | with_reducible exact BB.out | with_reducible exact BX.out | with_reducible exact BY.out | with_reducible exact below_next BB.out (wbox _ _) | (with_reducible refine Below.setCell ?_ ?_ _) | with_reducible exact Nat.le_refl _ | with_reducible exact BB.out.size | with_reducible exact LE.out)))
                (first
                  | (go_at_call 28; (first
                      | ((with_reducible refine (of_from BB.out (by omega) (by omega) (by omega) (by omega)).mono ?_); rintro e wo ⟨vo, rfl, hro, hb0, hbo⟩; have RO := Lib.hid hro; have BB := Lib.hid hb0; clear hro hb0 hbo)
                      | ((with_reducible refine (of_from BX.out (by omega) (by omega) (by omega) (by omega)).mono ?_); rintro e wo ⟨vo, rfl, hro, hb0, hbo⟩; have RO := Lib.hid hro; have PA := Lib.hid (PA1.out.below hbo); have pa0 := PA.out.cell 0; have pa1 := PA.out.cell 1; have paf := PA.out.free; simp at pa0 pa1; have BB := Lib.hid hb0; clear hro hb0 hbo)))
                  | (go_at_call 30; (first
                      | ((with_reducible refine (add_from BB.out (U9.out.below BB.out) RO.out).mono ?_); rintro e wp ⟨m1, r1, p1, m2, r2, p2, rfl, hrp, hb0, hbp⟩; have RP := Lib.hid hrp; (try (have PA := Lib.hid (PA.out.below hbp); have pa0 := PA.out.cell 0; have pa1 := PA.out.cell 1; have paf := PA.out.free; simp at pa0 pa1)); have qa0 := (Blk.new wp 58 #[.slice none 0 0, .slice none 0 0]).cell 0; have qa1 := (Blk.new wp 58 #[.slice none 0 0, .slice none 0 0]).cell 1; have qaf := (Blk.new wp 58 #[.slice none 0 0, .slice none 0 0]).free; simp at qa0 qa1; have BB := Lib.hid hb0; clear hrp hb0 hbp)
                      | ((with_reducible refine (add_from (below_next BB.out (wbox wo (.cells #[.slice none 0 0, .slice none 0 0] 58))) (U9.out.below (below_next BB.out (wbox wo (.cells #[.slice none 0 0, .slice none 0 0] 58)))) (RO.out.below (wbox wo (.cells #[.slice none 0 0, .slice none 0 0] 58)))).mono ?_); rintro e wp ⟨m1, r1, p1, m2, r2, p2, rfl, hrp, hb0, hbp⟩; have RP := Lib.hid hrp; have PA := Lib.hid ((Blk.new wo 58 #[.slice none 0 0, .slice none 0 0]).below hbp); have pa0 := PA.out.cell 0; have pa1 := PA.out.cell 1; have paf := PA.out.free; simp at pa0 pa1; have LE := Lib.hid BB.out.size; have BB := Lib.hid hb0; clear hrp hb0 hbp))))
              all_goals
                go_wp2_with fail
                go_meet
                first
                  | with_reducible exact ⟨w9.heap.size, m1, r1, p1, m2, r2, p2, rfl, PA.out.store _ _, RP.out.store PA.out _ _, Nat.le_refl _, below_store BB.out (Nat.le_refl _)⟩
                  | with_reducible exact ⟨wo.heap.size, m1, r1, p1, m2, r2, p2, rfl, PA.out.store _ _, RP.out.store PA.out _ _, LE.out, below_store BB.out LE.out⟩
                  | with_reducible exact ⟨wp.heap.size, m1, r1, p1, m2, r2, p2, rfl, Blk.new wp _ _, RP.out.below (wbox wp _), BB.out.size, below_next BB.out (wbox wp _)⟩
                  | with_reducible exact ⟨wp.heap.size, m1, r1, p1, m2, r2, p2, rfl, (Blk.new wp _ _).store _ _, (RP.out.below (wbox wp _)).store (Blk.new wp _ _) _ _, BB.out.size, below_store (below_next BB.out (wbox wp _)) BB.out.size⟩
            case rest =>
              obtain ⟨bw, m1, r1, p1, m2, r2, p2, rfl, hbk, hrw, hbw, hbel⟩ := hcut
              rw [Int.one_mul] at hrw
              have X10 := Lib.hid (X9.out.below hbel)
              have Z10 := Lib.hid (Z9.out.below hbel)
              have V10 := Lib.hid (V9.out.below hbel)
              have B10 := Lib.hid (below_next B9.out hbel)
              have K10 := Lib.hid hbk
              have Q10 := Lib.hid hrw
              have gb : g5 < bw := Nat.lt_of_lt_of_le X9.out.lt hbw
              have gz : g8 < bw := Nat.lt_of_lt_of_le Z9.out.lt hbw
              have gw : w.heap.size ≤ bw := Nat.le_trans B9.out.size hbw
              have k0 := hbk.cell 0
              have k1 := hbk.cell 1
              have z0 := Z10.out.cell 0
              have z1 := Z10.out.cell 1
              simp at k0 k1 z0 z1
              clear hbk hrw hbel hbw
              go_wp2_with fail
              clear k0 k1 z0 z1
              refine (rcmp_any _ _ _ _ 1 1 0 0 22 1 _ Q10.out V10.out (by omega)).mono ?_
              rintro e w11 ⟨rfl, hb11⟩
              rw [Int.mul_one, Int.one_mul]
              have X11 := Lib.hid (X10.out.below hb11)
              have Z11 := Lib.hid (Z10.out.below hb11)
              have V11 := Lib.hid (V10.out.below hb11)
              have K11 := Lib.hid (K10.out.below hb11)
              have Q11 := Lib.hid (Q10.out.below hb11)
              have B11 := Lib.hid (below_next B10.out hb11)
              clear hb11
              have k0 := K11.out.cell 0
              have k1 := K11.out.cell 1
              have kf := K11.out.free
              have z0 := Z11.out.cell 0
              have z1 := Z11.out.cell 1
              have y0 := X11.out.cell 0
              have y1 := X11.out.cell 1
              simp at k0 k1 z0 z1 y0 y1
              by_cases hbig : D * l0 < N * l0 + D
              · have t6 := cmp_yes hbig
                obtain ⟨W13, hW13⟩ : ∃ W, (w11.setCell ⟨bw, 0, none⟩ (.slice x3 y3 z3)).setCell ⟨bw, 1, none⟩ (.slice x4 y4 z4) = W := ⟨_, rfl⟩
                have X13 := Lib.hid (show Blk W13 32 g5 #[.int .i64 E, .int .i64 P] by rw [← hW13]; exact (X11.out.other _ _ (Nat.ne_of_lt gb)).other _ _ (Nat.ne_of_lt gb))
                have K13 := Lib.hid (show Blk W13 58 bw #[.slice x3 y3 z3, .slice x4 y4 z4] by rw [← hW13]; exact K11.out.store _ _)
                have Q13 := Lib.hid (show Rat W13 0 22 (.agg #[.slice x3 y3 z3, .slice x4 y4 z4]) 1 1 by rw [← hW13]; exact (V11.out.mono (Nat.le_refl _) (by omega)).store K11.out _ _)
                have B13 := Lib.hid (show Below w.heap.size w W13 by rw [← hW13]; exact below_store B11.out gw)
                have EQ := Lib.hid (show E * 1 = 1 * P by have := UU.out.one rfl hbig; omega)
                have w0 := X13.out.cell 0
                have w1' := X13.out.cell 1
                simp at w0 w1'
                clear hbig
                go_wp2_with fail
                clear hW13 w0 w1' k0 k1 kf z0 z1 y0 y1
                refine (r4check_yes E P _ ⟨e1, e2, e3⟩).mono ?_
                rintro e w14 ⟨rfl, hb14⟩
                have X14 := Lib.hid (X13.out.below hb14)
                have K14 := Lib.hid (K13.out.below hb14)
                have Q14 := Lib.hid (Q13.out.below hb14)
                have B14 := Lib.hid (below_next B13.out hb14)
                clear hb14
                go_upto_region 22 with fail
                have SA := Lib.hid (show ∀ W, Below w14.heap.size w14 W → W.cell? ⟨g5, 0, none⟩ = some (.int .i64 E) ∧ W.cell? ⟨g5, 1, none⟩ = some (.int .i64 P) ∧ W.cell? ⟨bw, 0, none⟩ = some (.slice x3 y3 z3) ∧ W.cell? ⟨bw, 1, none⟩ = some (.slice x4 y4 z4) from fun W hb => ⟨(X14.out.below hb).cell 0, (X14.out.below hb).cell 1, (K14.out.below hb).cell 0, (K14.out.below hb).cell 1⟩)
                have BL := Lib.hid (show Below w14.heap.size w14 w14.drew from (Below.refl _ _).drew)
                go_region_held3 (fun W => W.cell? ⟨g5, 0, none⟩ = some (.int .i64 E) ∧ W.cell? ⟨g5, 1, none⟩ = some (.int .i64 P) ∧ W.cell? ⟨bw, 0, none⟩ = some (.slice x3 y3 z3) ∧ W.cell? ⟨bw, 1, none⟩ = some (.slice x4 y4 z4))
                  (exact SA.out _ BL.out)
                  (first
                    | (go_at_call 28; ((with_reducible refine (of_from BL.out (by omega) (by omega) (by omega) (by omega)).mono ?_)); rintro e wo ⟨vo, rfl, hro, hb0, _⟩; have RO := Lib.hid hro; have BL := Lib.hid hb0; clear hro hb0)
                    | (go_at_call 29; ((with_reducible refine (rcmp_any vo _ E P 1 1 0 0 1 22 _ RO.out (Q14.out.below BL.out) (by omega)).mono ?_)); rintro e wc ⟨rfl, hb⟩; have BL := Lib.hid (below_next BL.out hb); clear hb; rw [cmpI_eq EQ.out]))
                all_goals
                  go_wp2
                  go_ret
                  exact ⟨rfl, below_next B14.out BL.out⟩
              · have t6 := cmp_no hbig
                have X13 := X11
                have K13 := K11
                have Q13 := Q11
                have B13 := B11
                have EQ := Lib.hid (show E * (D * l0) = (N * l0 + D) * P from UU.out.more rfl hbig)
                clear hbig
                go_wp2_with fail
                clear k0 k1 kf z0 z1 y0 y1
                refine (r4check_yes E P _ ⟨e1, e2, e3⟩).mono ?_
                rintro e w14 ⟨rfl, hb14⟩
                have X14 := Lib.hid (X13.out.below hb14)
                have K14 := Lib.hid (K13.out.below hb14)
                have Q14 := Lib.hid (Q13.out.below hb14)
                have B14 := Lib.hid (below_next B13.out hb14)
                clear hb14
                go_upto_region 22 with fail
                have SA := Lib.hid (show ∀ W, Below w14.heap.size w14 W → W.cell? ⟨g5, 0, none⟩ = some (.int .i64 E) ∧ W.cell? ⟨g5, 1, none⟩ = some (.int .i64 P) ∧ W.cell? ⟨bw, 0, none⟩ = some (.slice m1 r1 p1) ∧ W.cell? ⟨bw, 1, none⟩ = some (.slice m2 r2 p2) from fun W hb => ⟨(X14.out.below hb).cell 0, (X14.out.below hb).cell 1, (K14.out.below hb).cell 0, (K14.out.below hb).cell 1⟩)
                have BL := Lib.hid (show Below w14.heap.size w14 w14.drew from (Below.refl _ _).drew)
                go_region_held3 (fun W => W.cell? ⟨g5, 0, none⟩ = some (.int .i64 E) ∧ W.cell? ⟨g5, 1, none⟩ = some (.int .i64 P) ∧ W.cell? ⟨bw, 0, none⟩ = some (.slice m1 r1 p1) ∧ W.cell? ⟨bw, 1, none⟩ = some (.slice m2 r2 p2))
                  (exact SA.out _ BL.out)
                  (first
                    | (go_at_call 28; ((with_reducible refine (of_from BL.out (by omega) (by omega) (by omega) (by omega)).mono ?_)); rintro e wo ⟨vo, rfl, hro, hb0, _⟩; have RO := Lib.hid hro; have BL := Lib.hid hb0; clear hro hb0)
                    | (go_at_call 29; ((with_reducible refine (rcmp_any vo _ E P (N * l0 + D) (D * l0) 0 0 1 22 _ RO.out (Q14.out.below BL.out) (by omega)).mono ?_)); rintro e wc ⟨rfl, hb⟩; have BL := Lib.hid (below_next BL.out hb); clear hb; rw [cmpI_eq EQ.out]))
                all_goals
                  go_wp2
                  go_ret
                  exact ⟨rfl, below_next B14.out BL.out⟩
      · have t4 : (er != 0) = true := by simpa using he
        have t5 : er = 16 := U.out.bad hov he
        subst t5
        go_wp2
        go_ret
        exact ⟨rfl, B9.out⟩
end Go.Proofs.Ytnlgophgglgneaa
