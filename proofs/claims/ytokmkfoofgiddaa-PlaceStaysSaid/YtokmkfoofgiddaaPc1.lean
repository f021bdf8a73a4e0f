/-
  The walk of the law PlaceOrder.
-/
import Derived.Test.YtokmkfoofgiddaaPc0
namespace Go.Proofs.Ytokmkfoofgiddaa
open Go.RowKit

/-- append of a whole row of runners to what is owned -/
theorem app_rows {w : World} {ops : Array Oper} {rest : List Oper} {o : Oper} {act : Act} {Q : Exit → Act → World → Prop} (hgd : o.guard = none) (s x : Operand)
    (ho : o.op = .call { callee := .builtin .append, args := #[s, x], argTypes := #[22, 22] }) (base : Nat)
    (v : Value) (ns : List Rn) (hs : act.eval s = v) (hown : w.ownsRow base 39 3 v ns.length (ns.map Rn.cs).flatten) (A : Option Addr) (m c : Nat) (zs : List Rn) (hx : act.eval x = .slice A m c)
    (hr : RowR w A m c zs) (hb : base ≤ w.heap.size) (hsm : ns.length + m ≤ 100000)
    (h : ∀ v' w', w'.ownsRow base 39 3 v' (ns ++ zs).length ((ns ++ zs).map Rn.cs).flatten → w.grownBy w' v.ownBlock → wpList Try.prog ops Q rest (act.put o.dst v') w') : wpList Try.prog ops Q (o :: rest) act w := by
  obtain ⟨i0, hi, hz0, hz1, hz2⟩ := info_parts Try.infoR
  have hl := hr.len
  refine wpList_append_rowF hgd s x _ ho base _ i0 _ 3 24 Try.underlying22 hi hz0 hz1 hz2 rfl (by decide) (by decide) v (ns.map Rn.cs) ns.length hs hown A m c (zs.map Rn.cs) hx hr (wideR zs) (oneR zs) hb hsm ?_
  intro v2 w2 ho2 hg2
  refine h v2 w2 ?_ hg2
  rw [List.length_append, List.map_append, hl]
  exact ho2
set_option maxRecDepth 100000 in
set_option maxHeartbeats 4000000 in
theorem porder_walk (a : Option Addr) (len cap : Nat) (ps : List (Int × Int)) (m : Int) (w : World) (h : RowQ w a len cap ps) :
    Calls Try.prog 7 #[.slice a len cap, .int .i64 m] w fun e w' => e = .returned (.bool true) ∧ Below w.heap.size w w' := by
  have H := Lib.hid h
  clear h
  obtain ⟨t0, t1, t2, t3⟩ := tmod2 m 19 (by omega)
  obtain ⟨A, hA⟩ : ∃ A, m.tmod 19 = A := ⟨_, rfl⟩
  rw [hA] at t0 t1 t2 t3
  obtain ⟨K, hK⟩ : ∃ K, (A + 19).tmod 19 = K := ⟨_, rfl⟩
  have hK2 : (A + 19) % 19 = K := by rw [← hK]; exact (Int.tmod_eq_emod_of_nonneg (by omega)).symm
  rw [hK] at t0 t1
  obtain ⟨n, hN⟩ : ∃ n : Nat, 2 + K = (n : Int) := ⟨(2 + K).toNat, by omega⟩
  have n1 : 2 ≤ n := by omega
  have n4 : n ≤ 20 := by omega
  go_enter Try.func7, Try.ntmps7
  go_wp2_with fail
  refine (awake15_any _).mono ?_
  rintro e w1 ⟨rfl, hb⟩
  have B1 := Lib.hid hb
  clear hb
  go_wp2_with fail
  refine (made15_any a len cap ps n w1 (H.out.below B1.out) (by omega) (by omega)).mono ?_
  rintro e w2 ⟨am, lm, cm, rs, rfl, hr, hmay, hb⟩
  have R := Lib.hid hr
  have MY := Lib.hid hmay
  have B := Lib.hid (below_next B1.out hb)
  have LR := Lib.hid hr.len
  have ln : lm ≤ n := by have h1 := hmay.few; rw [hr.len] at h1; omega
  have AY := Lib.hid (asg_yes hmay)
  clear hr hmay hb hK hN t0 t1 t2 t3 hA hK2
  go_wp2_with fail
  refine (passign_any am lm cm rs n w2 R.out).mono ?_
  rintro e w3 ⟨ao, lo, co, rfl, hr, hb⟩
  rw [AY.out.2]
  have O := Lib.hid hr
  rw [AY.out.1] at O
  have B := Lib.hid (below_next B.out hb)
  have R := Lib.hid (R.out.below hb)
  clear hr hb
  have E0 := Lib.hid (World.ownsRow_lit (base := w3.heap.size) (e := 39) (size := 3) w3 #[] 0 (Nat.le_refl _) (by unfold maxLen; omega) rfl)
  have B0 := Lib.hid (wbox w3 (.cells #[] 39))
  go_wp2_with (at_builtin; refine app_rows rfl _ _ rfl w3.heap.size (.slice (some ⟨w3.heap.size, 0, none⟩) 0 0) [] rfl E0.out am lm cm rs rfl (R.out.below B0.out) B0.out.size (by simp; omega) ?_; intro v4 w4 hown hgrow; rw [List.nil_append, LR.out] at hown; obtain ⟨as', cs', hv4, _, _⟩ := rowR_of_owns hown LR.out; have O4 := Lib.hid hown; have B4 := Lib.hid (B0.out.grown hgrow B0.out.size (fun g hg => (E0.out.lt g hg).1)); clear hown hgrow; subst hv4)
  clear E0 B0
  go_loopw [11] (fun u wr => ∃ (i : Nat) (ls : List Rn), u = .int .i64 i ∧ i ≤ lm ∧ ReS rs i ls ∧ wr.ownsRow w3.heap.size 39 3 (.slice as' lm cs') lm (ls.map Rn.cs).flatten ∧ Below w3.heap.size w3 wr) (fun u _ => lm - (intOf u).toNat)
  case atStart => exact ⟨0, rs, rfl, by omega, re_zero _, O4.out, B4.out⟩
  case round =>
    obtain ⟨i, ls, rfl, i1, hre, hown, hb⟩ := hrel
    have RE := Lib.hid hre
    have OW := Lib.hid hown
    have BW := Lib.hid hb
    clear hre hown hb O4 B4
    by_cases go : i < lm
    · have b1 : decide ((i : Int) < (lm : Int)) = true := by simp; omega
      have b1' : decide (i < lm) = true := by simp; omega
      obtain ⟨r, hr, -⟩ := getR (l := rs) (i := i) (by rw [LR.out]; exact go)
      have RN := Lib.hid (re_next RE.out hr)
      have HX := Lib.hid (show ls[i]? = some r by have h1 := RE.out.at_ i r hr; rwa [if_neg (by omega)] at h1)
      clear hr
      have hl := OW.out
      rcases hl.2 with ⟨h', hn⟩ | ⟨g, cap', cur, h', hb', hg, h1, h2, h3, h4⟩
      · omega
      · simp only [Value.slice.injEq] at h'
        obtain ⟨rfl, -, rfl⟩ := h'
        have yf := frozen_of_row wr g (i * 3) cur 39 hg
        have LS := Lib.hid (show ls.length = lm by rw [RE.out.len, LR.out])
        obtain ⟨b9, c9, hv9, hrow, _⟩ := rowR_of_owns OW.out LS.out
        simp only [Value.slice.injEq] at hv9
        obtain ⟨rfl, -, rfl⟩ := hv9
        obtain ⟨b8, o8, e8, hat⟩ := hrow.at HX.out
        cases e8
        have y0 := hat.c0
        rw [Nat.zero_add] at y0
        have ST := Lib.hid (show (wr.setCell ⟨g, i * 3, none⟩ (.int .i64 (1000 - 7 * (i : Int)))).ownsRow w3.heap.size 39 3 (.slice (some ⟨g, 0, none⟩) lm cs') lm ((ls.set i ⟨1000 - 7 * (i : Int), r.pin, r.last⟩).map Rn.cs).flatten by
          have h9 := (OW.out.stored (i * 3) (.int .i64 (1000 - 7 * (i : Int)))).1
          rw [flat_setR ls i r _ HX.out] at h9
          exact h9)
        have BS := Lib.hid (show Below w3.heap.size w3 (wr.setCell ⟨g, i * 3, none⟩ (.int .i64 (1000 - 7 * (i : Int)))) from BW.out.setCell (by show w3.heap.size ≤ g; exact hb') _)
        have i3 : (i : Int) < (lm : Int) := by omega
        have i0 : 0 ≤ (i : Int) := by omega
        clear hrow hat h1 h2 h3 h4 hg hl hb'
        go_wp2
        go_roundw
        case rel => exact ⟨i + 1, _, by go_num, by omega, RN.out, ST.out, BS.out⟩
        case measure => simp [intOf]; omega
    · have b1 : decide ((i : Int) < (lm : Int)) = false := by simp; omega
      have b1' : decide (i < lm) = false := by simp; omega
      have ie : i = rs.length := by rw [LR.out]; omega
      have RE := Lib.hid (show ReS rs rs.length ls by rw [← ie]; exact RE.out)
      have LS := Lib.hid (show ls.length = lm by rw [RE.out.len, LR.out])
      obtain ⟨b9, c9, hv9, hrow, _⟩ := rowR_of_owns OW.out LS.out
      simp only [Value.slice.injEq] at hv9
      obtain ⟨rfl, -, rfl⟩ := hv9
      have S := Lib.hid hrow
      have M2 := Lib.hid (re_may RE.out MY.out)
      have AY2 := Lib.hid (asg_yes M2.out)
      have AS := Lib.hid (assign_same (re_pl RE.out) n)
      have RW := Lib.hid (R.out.below BW.out)
      have OO := Lib.hid (O.out.below BW.out)
      clear hrow ie
      go_wp2_with fail
      refine (passign_any as' lm cs' ls n wr S.out).mono ?_
      rintro e w5 ⟨a5, l5, c5, rfl, hr, hb⟩
      rw [AY2.out.2]
      have O5 := Lib.hid hr
      rw [AY2.out.1, AS.out] at O5
      have OO := Lib.hid (OO.out.below hb)
      have RW := Lib.hid (RW.out.below hb)
      have OW := Lib.hid (owns_below OW.out hb)
      have BW := Lib.hid (below_next BW.out hb)
      clear hr hb
      go_wp2_with fail
      refine (r15same_any ao lo co _ a5 l5 c5 _ w5 OO.out O5.out true (by simp)).mono ?_
      rintro e w6 ⟨rfl, hb⟩
      have RW := Lib.hid (RW.out.below hb)
      have OW := Lib.hid (owns_below OW.out hb)
      have BW := Lib.hid (below_next BW.out hb)
      clear hb
      by_cases q : lm = n
      · have b5 : ((lm : Int) == (n : Int)) = true := by simp [q]
        clear q
        go_wp2
        go_ret
        exact ⟨rfl, below_next B.out BW.out⟩
      · have b5 : ((lm : Int) == (n : Int)) = false := by simp; omega
        have M3 := Lib.hid (new_may RE.out MY.out (by rw [LR.out]; omega) (by omega))
        have AY3 := Lib.hid (asg_yes M3.out)
        have NM := Lib.hid (show movesR (ls ++ [rNew]) (asgL (ls ++ [rNew]) n) = movesR rs (asgL rs n) by
          rw [AY3.out.1, AY.out.1, new_moves, moves_same _ (re_pl RE.out), AS.out])
        clear q
        have OW := Lib.hid (show w6.ownsRow w3.heap.size 39 3 (.slice as' lm cs') ls.length (ls.map Rn.cs).flatten by rw [LS.out]; exact OW.out)
        have LN7 := Lib.hid (show (ls ++ [rNew]).length = lm + 1 by rw [List.length_append, LS.out]; rfl)
        go_wp2_with (at_builtin; refine app_run rfl _ _ rfl w3.heap.size (.slice as' lm cs') ls rfl (OW.out.alloc _) w6.heap.size rNew rfl (heap_alloc_new w6 _) (Nat.le_trans BW.out.size (wbox _ _).size) (by rw [LS.out]; omega) ?_; intro v7 w7 hown2 hgrow2 _; rw [LN7.out] at hown2; obtain ⟨a7, c7, hv7, hr7, _⟩ := rowR_of_owns hown2 LN7.out; have S7 := Lib.hid hr7; have B7 := Lib.hid ((BW.out.alloc BW.out.size _).grown hgrow2 (Nat.le_trans BW.out.size (wbox _ _).size) (fun g hg => (OW.out.lt g hg).1)); clear hown2 hgrow2 hr7; subst hv7)
        ((with_reducible refine (pleast_any a7 (lm + 1) c7 (ls ++ [rNew]) n w7 S7.out).mono ?_))
        rintro e w8 ⟨rfl, hb⟩
        rw [NM.out]
        have B8 := Lib.hid (below_next B7.out hb)
        clear hb
        go_wp2_with fail
        refine (pleast_any am lm cm rs n w8 (R.out.below B8.out)).mono ?_
        rintro e w9 ⟨rfl, hb⟩
        have B9 := Lib.hid (below_next B8.out hb)
        clear hb
        go_wp2
        go_ret
        exact ⟨rfl, below_next B.out B9.out⟩
end Go.Proofs.Ytokmkfoofgiddaa
