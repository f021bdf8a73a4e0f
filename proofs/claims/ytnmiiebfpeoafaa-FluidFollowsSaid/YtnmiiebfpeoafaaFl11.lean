/-
  The law's own tells: package fluid answers as the document does, of one weight: contract.
-/
import Derived.Test.YtnmiiebfpeoafaaFl10
import Derived.Deep.DeepCutAuto
namespace Go.Proofs.Ytnmiiebfpeoafaa
open Go.RowKit

theorem lowV_nonneg (E P t : Int) : 0 ≤ lowV E P t := by
  by_cases h : MayBe E P ∧ Sl t
  · exact (lowV_fit h.1 h.2).1
  · rw [lowV_no h]; omega
theorem lowV_out {E P t : Int} (h : ¬ Sl t) : lowV E P t = 0 := lowV_no (fun g => h g.2)
theorem lowV_zero (E P : Int) : lowV E P 0 = 0 := by
  by_cases h : MayBe E P ∧ Sl 0
  · rw [lowV_yes h, Int.mul_zero, Int.zero_ediv]
  · exact lowV_no h
theorem due_neg {E P s : Int} (s0 : -9223372036854775808 ≤ s) (h : s < 0) : dueB E P s = false := by
  unfold dueB
  rw [IntWalk.i64_in _ (by omega), lowV_out (t := s) (fun g => by have := g.1; omega)]
  by_cases g : s = -1
  · subst g; rw [show (-1 : Int) + 1 = 0 by omega, lowV_zero]; rfl
  · rw [lowV_out (fun g => by have := g.1; omega)]; rfl
theorem due_in {E P s : Int} (s0 : 0 ≤ s) (h : s < 1099511627776) : dueB E P s = decide (lowV E P s < lowV E P (s + 1)) := by
  unfold dueB
  rw [IntWalk.i64_in _ (by omega)]
theorem due_out {E P s : Int} (h : 1099511627776 ≤ s) (s1 : s ≤ 9223372036854775807) : dueB E P s = false := by
  unfold dueB
  have h0 := lowV_nonneg E P s
  rw [lowV_out (t := IntKind.i64.wrap (s + 1))]
  · exact decide_eq_false (by omega)
  · by_cases g : s = 9223372036854775807
    · subst g
      rw [show IntKind.i64.wrap (9223372036854775807 + 1) = -9223372036854775808 by decide]
      exact fun h => by have := h.1; omega
    · rw [IntWalk.i64_in _ (by omega)]
      exact fun h => by have := h.2; omega

section
variable {P : Program} {ops : Array Oper} {Q : Exit → Act → World → Prop} {md : Region.Mode} {S : World → Prop}
/-- take number i first: it is wanted -/
theorem takeY {i : Nat} {oi : Oper} {v : Value} {fuel : Nat} {listed : Array Bool} {a : Act} {w : World} (hi : ops[i]? = some oi)
    (hs : Region.noSelect ops = true) (hf : Region.free md ops listed i = true) (hr : (Region.ready md ops listed).contains i = true)
    (hQ : ∀ c a w, Q (.panic c) (a.put oi.dst v) w → Q (.panic c) a w) (hw : Region.wanted oi (yielded ops a.tmps) = true) (hy : ∀ w, S w → (execOp a.eval oi).run P w = .ok (.value v) w) (hS : S w)
    (h : wpAnyH P md ops Q S fuel (listed.setIfInBounds i true) (a.put oi.dst v) w) : wpAnyH P md ops Q S (fuel + 1) listed a w :=
  wpAnyH_take hi hs hf hr hQ (.inl ⟨hw, hy⟩) hS h
/-- .. it is not wanted -/
theorem takeN {i : Nat} {oi : Oper} {fuel : Nat} {listed : Array Bool} {a : Act} {w : World} (hi : ops[i]? = some oi)
    (hs : Region.noSelect ops = true) (hf : Region.free md ops listed i = true) (hr : (Region.ready md ops listed).contains i = true)
    (hQ : ∀ c a w, Q (.panic c) (a.put oi.dst undef) w → Q (.panic c) a w) (hw : Region.wanted oi (yielded ops a.tmps) = false) (hS : S w)
    (h : wpAnyH P md ops Q S fuel (listed.setIfInBounds i true) (a.put oi.dst undef) w) : wpAnyH P md ops Q S (fuel + 1) listed a w :=
  wpAnyH_take hi hs hf hr hQ (.inr ⟨hw, rfl⟩) hS h
end
theorem fruns_at (a : Option Addr) (len cap : Nat) (bs : List Bool) (hlen : len ≤ 4611686018427387904) (w : World) (hR : RowB w a len cap bs) (v : Int) (hv : runsI bs = v) :
    Calls Try.prog 19 #[.slice a len cap] w fun e w' => e = .returned (.int .i64 v) ∧ Below w.heap.size w w' := by
  subst hv; exact fruns_any a len cap bs hlen w hR
set_option maxRecDepth 20000 in
set_option maxHeartbeats 16000000 in
theorem tells_any (E P s q : Int) (a : Option Addr) (len cap : Nat) (bs : List Bool) (w : World) (s0 : -9223372036854775808 ≤ s) (s1 : s ≤ 9223372036854775807) (hR : RowB w a len cap bs) :
    Calls Try.prog 10 #[.agg #[.int .i64 E, .int .i64 P], .agg #[.int .i64 s, .int .i64 q, .slice a len cap]] w fun e w' => e = .returned (.bool true) ∧ Below w.heap.size w w' := by
  have R := Lib.hid hR
  have ⟨cl, cu⟩ := hR.cap_le
  clear hR
  have K1 := Lib.hid ((Blk.new w 24 #[Value.int .i64 E, Value.int .i64 P]).alloc (.cells #[Value.int .i64 s, Value.int .i64 q, Value.slice a len cap] 27))
  have K2 := Lib.hid (Blk.new2 w (.cells #[Value.int .i64 E, Value.int .i64 P] 24) 27 #[Value.int .i64 s, Value.int .i64 q, Value.slice a len cap])
  have B := Lib.hid (wbox2 w (.cells #[Value.int .i64 E, Value.int .i64 P] 24) (.cells #[Value.int .i64 s, Value.int .i64 q, Value.slice a len cap] 27))
  obtain ⟨W0, hW0⟩ : ∃ W0, (w.alloc (.cells #[Value.int .i64 E, Value.int .i64 P] 24)).alloc (.cells #[Value.int .i64 s, Value.int .i64 q, Value.slice a len cap] 27) = W0 := ⟨_, rfl⟩
  rw [hW0] at K1 K2 B
  go_enter Try.func10, Try.ntmps10
  have x2 := K2.out.cell 2
  simp at x2
  go_upto_if 15 with fail
  go_cut [5] (fun l wx => ∃ (l' c' : Nat) (bs' : List Bool), l = .slice a l' c' ∧ l' ≤ 60 ∧ RowB w a l' c' bs' ∧ wx = W0)
  case first =>
    by_cases h : 60 < len
    · have d : decide ((60 : Int) < (len : Int)) = true := by simp; omega
      have dc : (60 : Int) ≤ (cap : Int) := by omega
      have d60 : 60 ≤ cap := by omega
      go_wp2
      go_meet
      case rel => exact ⟨60, cap, bs.take 60, rfl, by omega, R.out.take (by omega), by first | exact hW0 | rfl⟩
    · have d : decide ((60 : Int) < (len : Int)) = false := by simp; omega
      go_wp2
      go_meet
      case rel => exact ⟨len, cap, bs, rfl, by omega, R.out, by first | exact hW0 | rfl⟩
  case rest => as_aux_lemma =>
    obtain ⟨l', c', bs', rfl, hl', hr, hwc⟩ := hcut
    obtain rfl : W0 = wc := hwc.symm
    have R := Lib.hid hr
    have HL := Lib.hid hl'
    have B0 := Lib.hid B.out
    clear hr hwc hW0 x2 hl'
    obtain ⟨A, hA⟩ : ∃ v, lagV E P s q = v := ⟨_, rfl⟩
    obtain ⟨C, hC⟩ : ∃ v, lagE E P s q = v := ⟨_, rfl⟩
    obtain ⟨F, hF⟩ : ∃ v, fairB E P s q = v := ⟨_, rfl⟩
    obtain ⟨U, hU⟩ : ∃ v, lowV E P s = v := ⟨_, rfl⟩
    obtain ⟨V, hV⟩ : ∃ v, lowV E P (s + 1) = v := ⟨_, rfl⟩
    obtain ⟨X, hX⟩ : ∃ v, highV E P s = v := ⟨_, rfl⟩
    obtain ⟨N, hN⟩ : ∃ v, runsI bs' = v := ⟨_, rfl⟩
    obtain ⟨G, hG⟩ : ∃ v, followsB E P bs' = v := ⟨_, rfl⟩
    obtain ⟨b, hb⟩ : ∃ v, dueB E P s = v := ⟨_, rfl⟩
    have HA := Lib.hid hA; have HC := Lib.hid hC; have HF := Lib.hid hF; have HU := Lib.hid hU; have HV := Lib.hid hV; have HX := Lib.hid hX; have HN := Lib.hid hN; have HG := Lib.hid hG; have HB := Lib.hid hb
    have I1 := fun h0 h1 => (due_in (E := E) (P := P) (s := s) h0 h1).symm.trans hb
    rw [hU, hV] at I1
    have I0 := fun h0 => hb.symm.trans (due_neg (E := E) (P := P) s0 h0)
    have I2 := fun h0 => hb.symm.trans (due_out (E := E) (P := P) h0 s1)
    clear hA hC hF hU hV hX hN hG hb
    have y0 := K1.out.cell 0; have y1 := K1.out.cell 1; have x0 := K2.out.cell 0; have x1 := K2.out.cell 1
    simp at y0 y1 x0 x1
    go_wp2_with fail
    refine (flag_any E P s q _).mono ?_
    rintro e w2 ⟨rfl, hb⟩
    rw [HA.out, HC.out]
    have B := Lib.hid (below_next B.out hb)
    have K1 := Lib.hid (K1.out.below hb)
    have K2 := Lib.hid (K2.out.below hb)
    have R := Lib.hid (R.out.below (below_next B0.out hb))
    clear hb y0 y1 x0 x1
    have y0 := K1.out.cell 0; have y1 := K1.out.cell 1; have x0 := K2.out.cell 0; have x1 := K2.out.cell 1
    simp at y0 y1 x0 x1
    go_wp2_with fail
    refine (r9lag_any E P s q _).mono ?_
    rintro e w3 ⟨rfl, hb⟩
    rw [HA.out, HC.out]
    have B := Lib.hid (below_next B.out hb)
    have K1 := Lib.hid (K1.out.below hb)
    have K2 := Lib.hid (K2.out.below hb)
    have R := Lib.hid (R.out.below hb)
    clear hb y0 y1 x0 x1
    go_upto_region 6 with fail
    have KEPT := Lib.hid (show ∀ w' : World, Below w3.heap.size w3 w' → w'.cell? ⟨w.heap.size, 0, none⟩ = some (.int .i64 E) ∧ w'.cell? ⟨w.heap.size, 1, none⟩ = some (.int .i64 P) ∧ w'.cell? ⟨w.heap.size + 1, 0, none⟩ = some (.int .i64 s) ∧ w'.cell? ⟨w.heap.size + 1, 1, none⟩ = some (.int .i64 q) from fun w' h => ⟨(K1.out.below h).cell 0, (K1.out.below h).cell 1, (K2.out.below h).cell 0, (K2.out.below h).cell 1⟩)
    have BL := Lib.hid ((Below.refl w3.heap.size w3).drew)
    go_cut [10] (fun v wx => v = .bool b ∧ Below w3.heap.size w3 wx)
    case first => as_aux_lemma =>
      by_cases g0 : 0 ≤ s
      · have d0 : decide (0 ≤ s) = true := by simp; omega
        by_cases g1 : s < 1099511627776
        · have d1 : decide (s < 1099511627776) = true := by simp; omega
          have d2 := I1 g0 g1
          have w1 : IntKind.i64.wrap (s + 1) = s + 1 := IntWalk.i64_in _ (by omega)
          clear I0 I1 I2 g0 g1
          go_region_held3 (fun w' => w'.cell? ⟨w.heap.size, 0, none⟩ = some (.int .i64 E) ∧ w'.cell? ⟨w.heap.size, 1, none⟩ = some (.int .i64 P) ∧ w'.cell? ⟨w.heap.size + 1, 0, none⟩ = some (.int .i64 s) ∧ w'.cell? ⟨w.heap.size + 1, 1, none⟩ = some (.int .i64 q)) (exact KEPT.out _ BL.out)
            (first
              | (go_at_call 23; (first | with_reducible refine (r9low_any E P s U _ HU.out).mono ?_ | with_reducible refine (r9low_any E P (s + 1) V _ HV.out).mono ?_); rintro e wa ⟨rfl, hb⟩; have BL := Lib.hid (below_next BL.out hb); clear hb))
          all_goals
            go_wp2
            go_meet
            case rel => exact ⟨by first | rfl | rw [d2], BL.out⟩
        · have d1 : decide (s < 1099511627776) = false := by simp; omega
          obtain rfl : b = false := I2 (by omega)
          clear I0 I1 I2 g0 g1
          refine wp_region_noPanic ?_
          refine wp_region_held_drew (S := fun w' => w'.cell? ⟨w.heap.size, 0, none⟩ = some (.int .i64 E) ∧ w'.cell? ⟨w.heap.size, 1, none⟩ = some (.int .i64 P) ∧ w'.cell? ⟨w.heap.size + 1, 0, none⟩ = some (.int .i64 s) ∧ w'.cell? ⟨w.heap.size + 1, 1, none⟩ = some (.int .i64 q)) (by kernel_rfl) (KEPT.out _ BL.out) (fun hHeld => ?_)
          refine' takeY (i := 0) (oi := _) (v := _) ?hia0 (by kernel_rfl) (by kernel_rfl) (by kernel_rfl) (fun _ _ _ h => h) ?hwa0 ?hya0 hHeld ?resta0
          case hia0 => (simp only [List.getElem?_toArray, List.getElem?_cons_zero]; rfl)
          case hwa0 => rfl
          case hya0 => (intro w hSw; (try dsimp only at hSw); go_simp; try with_reducible rfl)
          try simp only [Act.put, List.setIfInBounds_toArray, List.set_cons_zero, List.set_cons_succ]
          refine' takeY (i := 1) (oi := _) (v := _) ?hia1 (by kernel_rfl) (by kernel_rfl) (by kernel_rfl) (fun _ _ _ h => h) ?hwa1 ?hya1 hHeld ?resta1
          case hia1 => (simp only [List.getElem?_toArray, List.getElem?_cons_succ, List.getElem?_cons_zero]; rfl)
          case hwa1 => rfl
          case hya1 => (intro w hSw; (try dsimp only at hSw); go_simp; try with_reducible rfl)
          try simp only [Act.put, List.setIfInBounds_toArray, List.set_cons_zero, List.set_cons_succ]
          refine' takeY (i := 2) (oi := _) (v := _) ?hia2 (by kernel_rfl) (by kernel_rfl) (by kernel_rfl) (fun _ _ _ h => h) ?hwa2 ?hya2 hHeld ?resta2
          case hia2 => (simp only [List.getElem?_toArray, List.getElem?_cons_succ, List.getElem?_cons_zero]; rfl)
          case hwa2 => rfl
          case hya2 => (intro w hSw; (try dsimp only at hSw); go_simp; try with_reducible rfl)
          try simp only [Act.put, List.setIfInBounds_toArray, List.set_cons_zero, List.set_cons_succ]
          refine' takeY (i := 3) (oi := _) (v := _) ?hia3 (by kernel_rfl) (by kernel_rfl) (by kernel_rfl) (fun _ _ _ h => h) ?hwa3 ?hya3 hHeld ?resta3
          case hia3 => (simp only [List.getElem?_toArray, List.getElem?_cons_succ, List.getElem?_cons_zero]; rfl)
          case hwa3 => rfl
          case hya3 => (intro w hSw; (try dsimp only at hSw); go_simp; try with_reducible rfl)
          try simp only [Act.put, List.setIfInBounds_toArray, List.set_cons_zero, List.set_cons_succ]
          refine' takeY (i := 4) (oi := _) (v := _) ?hia4 (by kernel_rfl) (by kernel_rfl) (by kernel_rfl) (fun _ _ _ h => h) ?hwa4 ?hya4 hHeld ?resta4
          case hia4 => (simp only [List.getElem?_toArray, List.getElem?_cons_succ, List.getElem?_cons_zero]; rfl)
          case hwa4 => rfl
          case hya4 => (intro w hSw; (try dsimp only at hSw); go_simp; try with_reducible rfl)
          try simp only [Act.put, List.setIfInBounds_toArray, List.set_cons_zero, List.set_cons_succ]
          refine' takeY (i := 5) (oi := _) (v := _) ?hia5 (by kernel_rfl) (by kernel_rfl) (by kernel_rfl) (fun _ _ _ h => h) ?hwa5 ?hya5 hHeld ?resta5
          case hia5 => (simp only [List.getElem?_toArray, List.getElem?_cons_succ, List.getElem?_cons_zero]; rfl)
          case hwa5 => rfl
          case hya5 => (intro w hSw; (try dsimp only at hSw); go_simp; try with_reducible rfl)
          try simp only [Act.put, List.setIfInBounds_toArray, List.set_cons_zero, List.set_cons_succ]
          refine' takeY (i := 6) (oi := _) (v := _) ?hia6 (by kernel_rfl) (by kernel_rfl) (by kernel_rfl) (fun _ _ _ h => h) ?hwa6 ?hya6 hHeld ?resta6
          case hia6 => (simp only [List.getElem?_toArray, List.getElem?_cons_succ, List.getElem?_cons_zero]; rfl)
          case hwa6 => rfl
          case hya6 => (intro w hSw; (try dsimp only at hSw); go_simp; try with_reducible rfl)
          try simp only [Act.put, List.setIfInBounds_toArray, List.set_cons_zero, List.set_cons_succ]
          refine' takeY (i := 7) (oi := _) (v := _) ?hia7 (by kernel_rfl) (by kernel_rfl) (by kernel_rfl) (fun _ _ _ h => h) ?hwa7 ?hya7 hHeld ?resta7
          case hia7 => (simp only [List.getElem?_toArray, List.getElem?_cons_succ, List.getElem?_cons_zero]; rfl)
          case hwa7 => rfl
          case hya7 => (intro w hSw; (try dsimp only at hSw); go_simp; try with_reducible rfl)
          try simp only [Act.put, List.setIfInBounds_toArray, List.set_cons_zero, List.set_cons_succ]
          refine' takeY (i := 8) (oi := _) (v := _) ?hia8 (by kernel_rfl) (by kernel_rfl) (by kernel_rfl) (fun _ _ _ h => h) ?hwa8 ?hya8 hHeld ?resta8
          case hia8 => (simp only [List.getElem?_toArray, List.getElem?_cons_succ, List.getElem?_cons_zero]; rfl)
          case hwa8 => rfl
          case hya8 => (intro w hSw; (try dsimp only at hSw); go_simp; try with_reducible rfl)
          try simp only [Act.put, List.setIfInBounds_toArray, List.set_cons_zero, List.set_cons_succ]
          refine' takeN (i := 9) (oi := _) ?hia9 (by kernel_rfl) (by kernel_rfl) (by kernel_rfl) (fun _ _ _ h => h) ?hwa9 hHeld ?resta9
          case hia9 => (simp only [List.getElem?_toArray, List.getElem?_cons_succ, List.getElem?_cons_zero]; rfl)
          case hwa9 => rfl
          try simp only [Act.put, List.setIfInBounds_toArray, List.set_cons_zero, List.set_cons_succ]
          refine' takeN (i := 10) (oi := _) ?hia10 (by kernel_rfl) (by kernel_rfl) (by kernel_rfl) (fun _ _ _ h => h) ?hwa10 hHeld ?resta10
          case hia10 => (simp only [List.getElem?_toArray, List.getElem?_cons_succ, List.getElem?_cons_zero]; rfl)
          case hwa10 => rfl
          try simp only [Act.put, List.setIfInBounds_toArray, List.set_cons_zero, List.set_cons_succ]
          refine' takeN (i := 11) (oi := _) ?hia11 (by kernel_rfl) (by kernel_rfl) (by kernel_rfl) (fun _ _ _ h => h) ?hwa11 hHeld ?resta11
          case hia11 => (simp only [List.getElem?_toArray, List.getElem?_cons_succ, List.getElem?_cons_zero]; rfl)
          case hwa11 => rfl
          try simp only [Act.put, List.setIfInBounds_toArray, List.set_cons_zero, List.set_cons_succ]
          refine' takeN (i := 12) (oi := _) ?hia12 (by kernel_rfl) (by kernel_rfl) (by kernel_rfl) (fun _ _ _ h => h) ?hwa12 hHeld ?resta12
          case hia12 => (simp only [List.getElem?_toArray, List.getElem?_cons_succ, List.getElem?_cons_zero]; rfl)
          case hwa12 => rfl
          try simp only [Act.put, List.setIfInBounds_toArray, List.set_cons_zero, List.set_cons_succ]
          refine' takeN (i := 13) (oi := _) ?hia13 (by kernel_rfl) (by kernel_rfl) (by kernel_rfl) (fun _ _ _ h => h) ?hwa13 hHeld ?resta13
          case hia13 => (simp only [List.getElem?_toArray, List.getElem?_cons_succ, List.getElem?_cons_zero]; rfl)
          case hwa13 => rfl
          try simp only [Act.put, List.setIfInBounds_toArray, List.set_cons_zero, List.set_cons_succ]
          refine' takeN (i := 14) (oi := _) ?hia14 (by kernel_rfl) (by kernel_rfl) (by kernel_rfl) (fun _ _ _ h => h) ?hwa14 hHeld ?resta14
          case hia14 => (simp only [List.getElem?_toArray, List.getElem?_cons_succ, List.getElem?_cons_zero]; rfl)
          case hwa14 => rfl
          try simp only [Act.put, List.setIfInBounds_toArray, List.set_cons_zero, List.set_cons_succ]
          refine' takeN (i := 15) (oi := _) ?hia15 (by kernel_rfl) (by kernel_rfl) (by kernel_rfl) (fun _ _ _ h => h) ?hwa15 hHeld ?resta15
          case hia15 => (simp only [List.getElem?_toArray, List.getElem?_cons_succ, List.getElem?_cons_zero]; rfl)
          case hwa15 => rfl
          try simp only [Act.put, List.setIfInBounds_toArray, List.set_cons_zero, List.set_cons_succ]
          refine' takeN (i := 16) (oi := _) ?hia16 (by kernel_rfl) (by kernel_rfl) (by kernel_rfl) (fun _ _ _ h => h) ?hwa16 hHeld ?resta16
          case hia16 => (simp only [List.getElem?_toArray, List.getElem?_cons_succ, List.getElem?_cons_zero]; rfl)
          case hwa16 => rfl
          try simp only [Act.put, List.setIfInBounds_toArray, List.set_cons_zero, List.set_cons_succ]
          refine' takeN (i := 17) (oi := _) ?hia17 (by kernel_rfl) (by kernel_rfl) (by kernel_rfl) (fun _ _ _ h => h) ?hwa17 hHeld ?resta17
          case hia17 => (simp only [List.getElem?_toArray, List.getElem?_cons_succ, List.getElem?_cons_zero]; rfl)
          case hwa17 => rfl
          try simp only [Act.put, List.setIfInBounds_toArray, List.set_cons_zero, List.set_cons_succ]
          refine' takeN (i := 18) (oi := _) ?hia18 (by kernel_rfl) (by kernel_rfl) (by kernel_rfl) (fun _ _ _ h => h) ?hwa18 hHeld ?resta18
          case hia18 => (simp only [List.getElem?_toArray, List.getElem?_cons_succ, List.getElem?_cons_zero]; rfl)
          case hwa18 => rfl
          try simp only [Act.put, List.setIfInBounds_toArray, List.set_cons_zero, List.set_cons_succ]
          refine' takeY (i := 19) (oi := _) (v := _) ?hia19 (by kernel_rfl) (by kernel_rfl) (by kernel_rfl) (fun _ _ _ h => h) ?hwa19 ?hya19 hHeld ?resta19
          case hia19 => (simp only [List.getElem?_toArray, List.getElem?_cons_succ, List.getElem?_cons_zero]; rfl)
          case hwa19 => rfl
          case hya19 => (intro w hSw; (try dsimp only at hSw); go_simp; try with_reducible rfl)
          try simp only [Act.put, List.setIfInBounds_toArray, List.set_cons_zero, List.set_cons_succ]
          refine' takeY (i := 20) (oi := _) (v := _) ?hia20 (by kernel_rfl) (by kernel_rfl) (by kernel_rfl) (fun _ _ _ h => h) ?hwa20 ?hya20 hHeld ?resta20
          case hia20 => (simp only [List.getElem?_toArray, List.getElem?_cons_succ, List.getElem?_cons_zero]; rfl)
          case hwa20 => rfl
          case hya20 => (intro w hSw; (try dsimp only at hSw); go_simp; try with_reducible rfl)
          try simp only [Act.put, List.setIfInBounds_toArray, List.set_cons_zero, List.set_cons_succ]
          refine wpAnyH_done (by kernel_rfl) ?_ _
          refine NoPanic.normal ?_
          go_wp2
          go_meet
          case rel => exact ⟨rfl, BL.out⟩
      · have d0 : decide (0 ≤ s) = false := by simp; omega
        obtain rfl : b = false := I0 (by omega)
        clear I0 I1 I2 g0
        refine wp_region_noPanic ?_
        refine wp_region_held_drew (S := fun w' => w'.cell? ⟨w.heap.size, 0, none⟩ = some (.int .i64 E) ∧ w'.cell? ⟨w.heap.size, 1, none⟩ = some (.int .i64 P) ∧ w'.cell? ⟨w.heap.size + 1, 0, none⟩ = some (.int .i64 s) ∧ w'.cell? ⟨w.heap.size + 1, 1, none⟩ = some (.int .i64 q)) (by kernel_rfl) (KEPT.out _ BL.out) (fun hHeld => ?_)
        refine' takeY (i := 0) (oi := _) (v := _) ?hib0 (by kernel_rfl) (by kernel_rfl) (by kernel_rfl) (fun _ _ _ h => h) ?hwb0 ?hyb0 hHeld ?restb0
        case hib0 => (simp only [List.getElem?_toArray, List.getElem?_cons_zero]; rfl)
        case hwb0 => rfl
        case hyb0 => (intro w hSw; (try dsimp only at hSw); go_simp; try with_reducible rfl)
        try simp only [Act.put, List.setIfInBounds_toArray, List.set_cons_zero, List.set_cons_succ]
        refine' takeY (i := 1) (oi := _) (v := _) ?hib1 (by kernel_rfl) (by kernel_rfl) (by kernel_rfl) (fun _ _ _ h => h) ?hwb1 ?hyb1 hHeld ?restb1
        case hib1 => (simp only [List.getElem?_toArray, List.getElem?_cons_succ, List.getElem?_cons_zero]; rfl)
        case hwb1 => rfl
        case hyb1 => (intro w hSw; (try dsimp only at hSw); go_simp; try with_reducible rfl)
        try simp only [Act.put, List.setIfInBounds_toArray, List.set_cons_zero, List.set_cons_succ]
        refine' takeY (i := 2) (oi := _) (v := _) ?hib2 (by kernel_rfl) (by kernel_rfl) (by kernel_rfl) (fun _ _ _ h => h) ?hwb2 ?hyb2 hHeld ?restb2
        case hib2 => (simp only [List.getElem?_toArray, List.getElem?_cons_succ, List.getElem?_cons_zero]; rfl)
        case hwb2 => rfl
        case hyb2 => (intro w hSw; (try dsimp only at hSw); go_simp; try with_reducible rfl)
        try simp only [Act.put, List.setIfInBounds_toArray, List.set_cons_zero, List.set_cons_succ]
        refine' takeY (i := 3) (oi := _) (v := _) ?hib3 (by kernel_rfl) (by kernel_rfl) (by kernel_rfl) (fun _ _ _ h => h) ?hwb3 ?hyb3 hHeld ?restb3
        case hib3 => (simp only [List.getElem?_toArray, List.getElem?_cons_succ, List.getElem?_cons_zero]; rfl)
        case hwb3 => rfl
        case hyb3 => (intro w hSw; (try dsimp only at hSw); go_simp; try with_reducible rfl)
        try simp only [Act.put, List.setIfInBounds_toArray, List.set_cons_zero, List.set_cons_succ]
        refine' takeN (i := 4) (oi := _) ?hib4 (by kernel_rfl) (by kernel_rfl) (by kernel_rfl) (fun _ _ _ h => h) ?hwb4 hHeld ?restb4
        case hib4 => (simp only [List.getElem?_toArray, List.getElem?_cons_succ, List.getElem?_cons_zero]; rfl)
        case hwb4 => rfl
        try simp only [Act.put, List.setIfInBounds_toArray, List.set_cons_zero, List.set_cons_succ]
        refine' takeN (i := 5) (oi := _) ?hib5 (by kernel_rfl) (by kernel_rfl) (by kernel_rfl) (fun _ _ _ h => h) ?hwb5 hHeld ?restb5
        case hib5 => (simp only [List.getElem?_toArray, List.getElem?_cons_succ, List.getElem?_cons_zero]; rfl)
        case hwb5 => rfl
        try simp only [Act.put, List.setIfInBounds_toArray, List.set_cons_zero, List.set_cons_succ]
        refine' takeN (i := 6) (oi := _) ?hib6 (by kernel_rfl) (by kernel_rfl) (by kernel_rfl) (fun _ _ _ h => h) ?hwb6 hHeld ?restb6
        case hib6 => (simp only [List.getElem?_toArray, List.getElem?_cons_succ, List.getElem?_cons_zero]; rfl)
        case hwb6 => rfl
        try simp only [Act.put, List.setIfInBounds_toArray, List.set_cons_zero, List.set_cons_succ]
        refine' takeY (i := 7) (oi := _) (v := _) ?hib7 (by kernel_rfl) (by kernel_rfl) (by kernel_rfl) (fun _ _ _ h => h) ?hwb7 ?hyb7 hHeld ?restb7
        case hib7 => (simp only [List.getElem?_toArray, List.getElem?_cons_succ, List.getElem?_cons_zero]; rfl)
        case hwb7 => rfl
        case hyb7 => (intro w hSw; (try dsimp only at hSw); go_simp; try with_reducible rfl)
        try simp only [Act.put, List.setIfInBounds_toArray, List.set_cons_zero, List.set_cons_succ]
        refine' takeY (i := 8) (oi := _) (v := _) ?hib8 (by kernel_rfl) (by kernel_rfl) (by kernel_rfl) (fun _ _ _ h => h) ?hwb8 ?hyb8 hHeld ?restb8
        case hib8 => (simp only [List.getElem?_toArray, List.getElem?_cons_succ, List.getElem?_cons_zero]; rfl)
        case hwb8 => rfl
        case hyb8 => (intro w hSw; (try dsimp only at hSw); go_simp; try with_reducible rfl)
        try simp only [Act.put, List.setIfInBounds_toArray, List.set_cons_zero, List.set_cons_succ]
        refine' takeN (i := 9) (oi := _) ?hib9 (by kernel_rfl) (by kernel_rfl) (by kernel_rfl) (fun _ _ _ h => h) ?hwb9 hHeld ?restb9
        case hib9 => (simp only [List.getElem?_toArray, List.getElem?_cons_succ, List.getElem?_cons_zero]; rfl)
        case hwb9 => rfl
        try simp only [Act.put, List.setIfInBounds_toArray, List.set_cons_zero, List.set_cons_succ]
        refine' takeN (i := 10) (oi := _) ?hib10 (by kernel_rfl) (by kernel_rfl) (by kernel_rfl) (fun _ _ _ h => h) ?hwb10 hHeld ?restb10
        case hib10 => (simp only [List.getElem?_toArray, List.getElem?_cons_succ, List.getElem?_cons_zero]; rfl)
        case hwb10 => rfl
        try simp only [Act.put, List.setIfInBounds_toArray, List.set_cons_zero, List.set_cons_succ]
        refine' takeN (i := 11) (oi := _) ?hib11 (by kernel_rfl) (by kernel_rfl) (by kernel_rfl) (fun _ _ _ h => h) ?hwb11 hHeld ?restb11
        case hib11 => (simp only [List.getElem?_toArray, List.getElem?_cons_succ, List.getElem?_cons_zero]; rfl)
        case hwb11 => rfl
        try simp only [Act.put, List.setIfInBounds_toArray, List.set_cons_zero, List.set_cons_succ]
        refine' takeN (i := 12) (oi := _) ?hib12 (by kernel_rfl) (by kernel_rfl) (by kernel_rfl) (fun _ _ _ h => h) ?hwb12 hHeld ?restb12
        case hib12 => (simp only [List.getElem?_toArray, List.getElem?_cons_succ, List.getElem?_cons_zero]; rfl)
        case hwb12 => rfl
        try simp only [Act.put, List.setIfInBounds_toArray, List.set_cons_zero, List.set_cons_succ]
        refine' takeN (i := 13) (oi := _) ?hib13 (by kernel_rfl) (by kernel_rfl) (by kernel_rfl) (fun _ _ _ h => h) ?hwb13 hHeld ?restb13
        case hib13 => (simp only [List.getElem?_toArray, List.getElem?_cons_succ, List.getElem?_cons_zero]; rfl)
        case hwb13 => rfl
        try simp only [Act.put, List.setIfInBounds_toArray, List.set_cons_zero, List.set_cons_succ]
        refine' takeN (i := 14) (oi := _) ?hib14 (by kernel_rfl) (by kernel_rfl) (by kernel_rfl) (fun _ _ _ h => h) ?hwb14 hHeld ?restb14
        case hib14 => (simp only [List.getElem?_toArray, List.getElem?_cons_succ, List.getElem?_cons_zero]; rfl)
        case hwb14 => rfl
        try simp only [Act.put, List.setIfInBounds_toArray, List.set_cons_zero, List.set_cons_succ]
        refine' takeN (i := 15) (oi := _) ?hib15 (by kernel_rfl) (by kernel_rfl) (by kernel_rfl) (fun _ _ _ h => h) ?hwb15 hHeld ?restb15
        case hib15 => (simp only [List.getElem?_toArray, List.getElem?_cons_succ, List.getElem?_cons_zero]; rfl)
        case hwb15 => rfl
        try simp only [Act.put, List.setIfInBounds_toArray, List.set_cons_zero, List.set_cons_succ]
        refine' takeN (i := 16) (oi := _) ?hib16 (by kernel_rfl) (by kernel_rfl) (by kernel_rfl) (fun _ _ _ h => h) ?hwb16 hHeld ?restb16
        case hib16 => (simp only [List.getElem?_toArray, List.getElem?_cons_succ, List.getElem?_cons_zero]; rfl)
        case hwb16 => rfl
        try simp only [Act.put, List.setIfInBounds_toArray, List.set_cons_zero, List.set_cons_succ]
        refine' takeN (i := 17) (oi := _) ?hib17 (by kernel_rfl) (by kernel_rfl) (by kernel_rfl) (fun _ _ _ h => h) ?hwb17 hHeld ?restb17
        case hib17 => (simp only [List.getElem?_toArray, List.getElem?_cons_succ, List.getElem?_cons_zero]; rfl)
        case hwb17 => rfl
        try simp only [Act.put, List.setIfInBounds_toArray, List.set_cons_zero, List.set_cons_succ]
        refine' takeN (i := 18) (oi := _) ?hib18 (by kernel_rfl) (by kernel_rfl) (by kernel_rfl) (fun _ _ _ h => h) ?hwb18 hHeld ?restb18
        case hib18 => (simp only [List.getElem?_toArray, List.getElem?_cons_succ, List.getElem?_cons_zero]; rfl)
        case hwb18 => rfl
        try simp only [Act.put, List.setIfInBounds_toArray, List.set_cons_zero, List.set_cons_succ]
        refine' takeY (i := 19) (oi := _) (v := _) ?hib19 (by kernel_rfl) (by kernel_rfl) (by kernel_rfl) (fun _ _ _ h => h) ?hwb19 ?hyb19 hHeld ?restb19
        case hib19 => (simp only [List.getElem?_toArray, List.getElem?_cons_succ, List.getElem?_cons_zero]; rfl)
        case hwb19 => rfl
        case hyb19 => (intro w hSw; (try dsimp only at hSw); go_simp; try with_reducible rfl)
        try simp only [Act.put, List.setIfInBounds_toArray, List.set_cons_zero, List.set_cons_succ]
        refine' takeY (i := 20) (oi := _) (v := _) ?hib20 (by kernel_rfl) (by kernel_rfl) (by kernel_rfl) (fun _ _ _ h => h) ?hwb20 ?hyb20 hHeld ?restb20
        case hib20 => (simp only [List.getElem?_toArray, List.getElem?_cons_succ, List.getElem?_cons_zero]; rfl)
        case hwb20 => rfl
        case hyb20 => (intro w hSw; (try dsimp only at hSw); go_simp; try with_reducible rfl)
        try simp only [Act.put, List.setIfInBounds_toArray, List.set_cons_zero, List.set_cons_succ]
        refine wpAnyH_done (by kernel_rfl) ?_ _
        refine NoPanic.normal ?_
        go_wp2
        go_meet
        case rel => exact ⟨rfl, BL.out⟩
    case rest => as_aux_lemma =>
      obtain ⟨rfl, hb⟩ := hcut
      clear I0 I1 I2 KEPT BL
      have B := Lib.hid (below_next B.out hb)
      have K1 := Lib.hid (K1.out.below hb)
      have K2 := Lib.hid (K2.out.below hb)
      have R := Lib.hid (R.out.below hb)
      clear hb
      have KEPT := Lib.hid (show ∀ w' : World, Below wc.heap.size wc w' → w'.cell? ⟨w.heap.size, 0, none⟩ = some (.int .i64 E) ∧ w'.cell? ⟨w.heap.size, 1, none⟩ = some (.int .i64 P) ∧ w'.cell? ⟨w.heap.size + 1, 0, none⟩ = some (.int .i64 s) ∧ w'.cell? ⟨w.heap.size + 1, 1, none⟩ = some (.int .i64 q) from fun w' h => ⟨(K1.out.below h).cell 0, (K1.out.below h).cell 1, (K2.out.below h).cell 0, (K2.out.below h).cell 1⟩)
      have BL := Lib.hid ((Below.refl wc.heap.size wc).drew)
      go_upto_region 7 with fail
      simp only [List.append]
      go_region_held3 (fun w' => w'.cell? ⟨w.heap.size, 0, none⟩ = some (.int .i64 E) ∧ w'.cell? ⟨w.heap.size, 1, none⟩ = some (.int .i64 P) ∧ w'.cell? ⟨w.heap.size + 1, 0, none⟩ = some (.int .i64 s) ∧ w'.cell? ⟨w.heap.size + 1, 1, none⟩ = some (.int .i64 q)) (exact KEPT.out _ BL.out)
        (first
          | (go_at_call 14; (with_reducible refine (ffair_any E P s q _ F HF.out).mono ?_); rintro e wa ⟨rfl, hb⟩; have BL := Lib.hid (below_next BL.out hb); clear hb)
          | (go_at_call 24; (with_reducible refine (r9fair_any E P s q _ F HF.out).mono ?_); rintro e wa ⟨rfl, hb⟩; have BL := Lib.hid (below_next BL.out hb); clear hb)
          | (go_at_call 12; (with_reducible refine (flow_any E P s U _ HU.out).mono ?_); rintro e wa ⟨rfl, hb⟩; have BL := Lib.hid (below_next BL.out hb); clear hb)
          | (go_at_call 23; (with_reducible refine (r9low_any E P s U _ HU.out).mono ?_); rintro e wa ⟨rfl, hb⟩; have BL := Lib.hid (below_next BL.out hb); clear hb)
          | (go_at_call 13; (with_reducible refine (fhigh_any E P s X _ HX.out).mono ?_); rintro e wa ⟨rfl, hb⟩; have BL := Lib.hid (below_next BL.out hb); clear hb)
          | (go_at_call 25; (with_reducible refine (r9high_any E P s X _ HX.out).mono ?_); rintro e wa ⟨rfl, hb⟩; have BL := Lib.hid (below_next BL.out hb); clear hb)
          | (go_at_call 19; (with_reducible refine (fruns_at a l' c' bs' (by have := HL.out; omega) _ (R.out.below BL.out) N HN.out).mono ?_); rintro e wa ⟨rfl, hb⟩; have BL := Lib.hid (below_next BL.out hb); clear hb)
          | (go_at_call 26; (with_reducible refine (r9runs_any a l' c' bs' (by have := HL.out; omega) _ (R.out.below BL.out) N HN.out).mono ?_); rintro e wa ⟨rfl, rfl⟩)
          | (go_at_call 18; (with_reducible refine (ffollows_any E P a l' c' bs' (by have := HL.out; omega) _ (R.out.below BL.out) G HG.out).mono ?_); rintro e wa ⟨rfl, hb⟩; have BL := Lib.hid (below_next BL.out hb); clear hb)
          | (go_at_call 27; (with_reducible refine (r9follows_any E P a l' c' bs' (by have := HL.out; omega) _ (R.out.below BL.out) G HG.out).mono ?_); rintro e wa ⟨rfl, hb⟩; have BL := Lib.hid (below_next BL.out hb); clear hb)
          | (go_at_call 20; (with_reducible refine (fdue_any E P s _ b HB.out).mono ?_); rintro e wa ⟨rfl, hb⟩; have BL := Lib.hid (below_next BL.out hb); clear hb))
      all_goals
        go_wp2
        go_ret
        exact ⟨rfl, below_next B.out BL.out⟩
end Go.Proofs.Ytnmiiebfpeoafaa
