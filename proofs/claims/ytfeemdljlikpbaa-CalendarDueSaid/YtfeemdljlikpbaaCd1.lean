/-
  The walk of the law CalendarDue, for a package calendar that is as P8.1 and P8.2 say.
-/
import Derived.Test.YtfeemdljlikpbaaCd0
namespace Go.Proofs.Ytfeemdljlikpbaa
open Go.RowKit

set_option maxRecDepth 20000 in
set_option maxHeartbeats 8000000 in
theorem cdue_walk {Hp : World → Nat → (Nat → Prop) → List Ev → Prop} (ok : CalOk Hp) (a : Option Addr) (len cap : Nat) (l : List Ev) (t : Int) (w : World) (h : RowV w a len cap l) : Calls Try.prog 4 #[.slice a len cap, .int .i64 t] w fun e w' => e = .returned (.bool true) ∧ Below w.heap.size w w' := by
  have OK := Lib.hid ok
  have Z := Lib.hid h
  have LN := Lib.hid h.len
  have zc := h.cap_le
  obtain ⟨T, hT⟩ : ∃ T, bits .and .i64 t 15 = T := ⟨_, rfl⟩
  have TB := Lib.hid (show 0 ≤ T ∧ T ≤ 15 by rw [← hT]; exact and_bd t 15 (by omega) (by omega))
  clear h ok
  go_enter Try.func4, Try.ntmps4
  go_wp2_with fail
  refine (l8awake OK.out _).mono ?_
  rintro e w1 ⟨rfl, hb⟩
  have B := Lib.hid hb
  clear hb
  go_wp2_with fail
  refine (m8new OK.out _ B.out).mono ?_
  rintro e w2 ⟨g, rfl, hm⟩
  have M := Lib.hid (hm.less OK.out (G' := fun k => (Value.slice none 0 0).ownBlock = some k) (fun k q => by simp [Value.ownBlock] at q))
  clear hm B
  go_wp2
  go_loopw [7, 8] (fun v u wr => ∃ (i : Nat) (pl : List Ev), u = .int .i64 i ∧ i ≤ len ∧ i ≤ 30 ∧ pl.Perm (putsV l i) ∧ wr.ownsRow w.heap.size 31 3 v pl.length (pl.map Ev.cs).flatten ∧ Mine8 Hp w (fun k => v.ownBlock = some k) g (putsV l i) wr) (fun _ u _ => len - (intOf u).toNat)
  case atStart => exact ⟨0, [], rfl, by omega, by omega, List.Perm.refl _, World.ownsRow_nil _ _ _ _, M.out⟩
  case round =>
    obtain ⟨i, pl, rfl, il, i30, hperm, hrow, hm⟩ := hrel
    clear M
    have M := Lib.hid hm
    have PM := Lib.hid hperm
    have R := Lib.hid hrow
    have plen := putsV_len l i
    clear hm hperm hrow
    by_cases d1 : i < len ∧ i < 30
    · have b1 : decide (i < len) = true := by simp; omega
      have b2 : decide ((i : Int) < (len : Int)) = true := by simp; omega
      have b3 : decide ((i : Int) < 30) = true := by simp; omega
      have b3n : decide (i < 30) = true := by simp; omega
      obtain ⟨x, hx⟩ := getV (es := l) (i := i) (by rw [LN.out]; omega)
      have PN := Lib.hid (putsV_next hx)
      obtain ⟨bl, ol, rfl, hat⟩ := (Z.out.below M.out.below).at hx
      have x0 := hat.c0; have x1 := hat.c1; have x2 := hat.c2
      have i1 : (i : Int) < (len : Int) := by omega
      have i2 : 0 ≤ (i : Int) := by omega
      obtain ⟨y, hy⟩ : ∃ y, nearE x = y := ⟨_, rfl⟩
      have EV := Lib.hid (fun w => l8event_any 0 true x w)
      simp only [if_true, hy] at EV
      rw [hy] at PN
      have YG := Lib.hid (hy ▸ near_good x)
      have d2 : i < 30 := d1.2
      clear hx hat hy d1
      go_wp2_with fail
      refine (EV.out _).mono ?_
      rintro e w3 ⟨rfl, hb⟩
      have B3 := Lib.hid (below_next (wbox wr _) hb)
      have M3 := Lib.hid (M.out.next OK.out B3.out)
      have R3 := Lib.hid (owns_keeps R.out (Keeps.of (F := fun _ => False) B3.out) (fun _ _ q => q))
      clear hb
      obtain ⟨W4, hW4⟩ : ∃ W4, w3.alloc (.cells #[.int .i64 y.d, .int .i64 y.i, .int .i64 y.k] 31) = W4 := ⟨_, rfl⟩
      have M4 := Lib.hid (hW4 ▸ M3.out.own1 OK.out _)
      have R4 := Lib.hid (show W4.ownsRow w.heap.size 31 3 u7 pl.length (pl.map Ev.cs).flatten by rw [← hW4]; exact R3.out.alloc _)
      have E4 := Lib.hid (show Blk W4 31 w3.heap.size #[.int .i64 y.d, .int .i64 y.i, .int .i64 y.k] by rw [← hW4]; exact Blk.new _ _ _)
      have e0 := E4.out.cell 0; have e1 := E4.out.cell 1; have e2 := E4.out.cell 2
      simp only [List.getElem?_toArray, List.getElem?_cons_zero, List.getElem?_cons_succ] at e0 e1 e2
      go_wp2_with fail
      clear hW4 e0 e1 e2
      refine (m8put OK.out g (putsV l i) y M4.out (by omega)).mono ?_
      rintro e w5 (⟨h, _, _⟩ | ⟨_, hp, rfl, hm, hh⟩ | ⟨_, hp, rfl, hm, hh⟩)
      · exact absurd h YG.out
      · have PT : putsV l (i + 1) = putsV l i := by rw [PN.out]; unfold putV; rw [if_neg (by omega)]
        have M5 := Lib.hid (show Mine8 Hp w (fun k => u7.ownBlock = some k) g (putsV l (i + 1)) w5 by rw [PT]; exact hm.less OK.out (fun k q => .inl q))
        have R5 := Lib.hid (hh.owns R4.out (fun k q => .inl q))
        have P5 := Lib.hid (show pl.Perm (putsV l (i + 1)) by rw [PT]; exact PM.out)
        clear hm hh PT hp
        go_wp2
        go_roundw
        case rel => exact ⟨i + 1, pl, by go_num, by omega, by omega, P5.out, R5.out, M5.out⟩
        case measure => simp [intOf]; omega
      · have PT : putsV l (i + 1) = insV y (putsV l i) := by rw [PN.out]; unfold putV; rw [if_pos hp]
        have M5 := Lib.hid (show Mine8 Hp w (fun k => u7.ownBlock = some k ∨ k = w3.heap.size) g (putsV l (i + 1)) w5 by rw [PT]; exact hm)
        have R5 := Lib.hid (hh.owns R4.out (fun k q => .inl q))
        have E5 := Lib.hid (hh.blk E4.out (.inr rfl))
        have P5 := Lib.hid (show (pl ++ [y]).Perm (putsV l (i + 1)) by rw [PT]; exact ((PM.out.append (List.Perm.refl [y])).trans List.perm_append_comm).trans (insV_perm y _).symm)
        have LP := Lib.hid (show pl.length ≤ 100000 by rw [PM.out.length_eq]; omega)
        have VB := Lib.hid (show w.heap.size ≤ w5.heap.size from M5.out.below.size)
        clear hm hh PT hp
        have e0 := E5.out.cell 0; have e1 := E5.out.cell 1; have e2 := E5.out.cell 2
        simp only [List.getElem?_toArray, List.getElem?_cons_zero, List.getElem?_cons_succ] at e0 e1 e2
        go_wp2_with (at_builtin; refine app_eventL rfl _ _ rfl w.heap.size _ pl rfl (R5.out.alloc _) w5.heap.size y rfl (heap_alloc_new w5 _) (by have := VB.out; simp; omega) LP.out ?_; intro v2 w8 hown2 hgrow2 hform; have HO2 := Lib.hid hown2; have HG2 := Lib.hid hgrow2; have HFM := Lib.hid hform; clear hown2 hgrow2 hform)
        obtain ⟨g2, cap2, hv2, hor⟩ := HFM.out
        have HOR := Lib.hid (show u7.ownBlock = some g2 ∨ w5.heap.size ≤ g2 from hor.imp id (fun q => by rw [q]; simp))
        subst hv2
        have R8 := Lib.hid (show w8.ownsRow w.heap.size 31 3 (.slice (some ⟨g2, 0, none⟩) (pl.length + 1) cap2) (pl ++ [y]).length ((pl ++ [y]).map Ev.cs).flatten by rw [List.length_append, List.length_singleton]; exact HO2.out)
        have M8 := Lib.hid (M5.out.wrote OK.out (G' := fun k => (Value.slice (some ⟨g2, 0, none⟩) (pl.length + 1) cap2).ownBlock = some k) ((Keeps.of (F := fun k => u7.ownBlock = some k ∨ k = w3.heap.size) (wbox w5 _)).grown HG2.out (fun k e => .inl (.inl e))) (fun k q => by
          rw [own_slice] at q
          simp at q
          subst q
          exact HOR.out.imp .inl id) (fun k q => (R8.out.lt k q).2))
        clear hor HFM HO2 HG2 e0 e1 e2
        go_roundw
        case rel => exact ⟨i + 1, pl ++ [y], by go_num, by omega, by omega, P5.out, R8.out, M8.out⟩
        case measure => simp [intOf]; omega
    · have hend : (decide (i < len) = false ∧ decide ((i : Int) < (len : Int)) = false) ∨ (decide (i < len) = true ∧ decide ((i : Int) < (len : Int)) = true ∧ decide (i < 30) = false ∧ decide ((i : Int) < 30) = false) := by
        rcases Nat.lt_or_ge i len with q | q
        · exact .inr ⟨by simp; omega, by simp; omega, by simp; omega, by simp; omega⟩
        · exact .inl ⟨by simp; omega, by simp; omega⟩
      have NB := Lib.hid (fun z (hz : z ∈ putsV l i) => putsV_near z hz)
      obtain ⟨L, hL⟩ : ∃ L, putsV l i = L := ⟨_, rfl⟩
      rw [hL] at M NB PM plen
      have OW := Lib.hid (M.out.own OK.out)
      have LD := Lib.hid (show ∀ z ∈ L, z.d ≤ 99 from fun z hz => by
        obtain ⟨x, rfl⟩ := NB.out z hz
        have := (near_bd x).1
        omega)
      obtain ⟨ap, cp, rfl, hrp, _⟩ := rowV_of_owns R.out rfl
      have PLN := Lib.hid PM.out.length_eq
      obtain ⟨n0, hn0⟩ : ∃ n0, L.length = n0 := ⟨_, rfl⟩
      have N0 := Lib.hid hn0
      rw [hn0] at plen PLN
      obtain ⟨pn, hpn⟩ : ∃ pn, pl.length = pn := ⟨_, rfl⟩
      rw [hpn] at PLN
      obtain rfl : pn = n0 := PLN.out
      rw [hpn] at hrp M ⊢
      have RP := Lib.hid hrp
      obtain ⟨d, hd⟩ : ∃ d, dueN L T = d := ⟨_, rfl⟩
      have DN := Lib.hid hd
      have dl : d ≤ pn := by have := dueN_le L T; omega
      obtain ⟨m, hm0⟩ : ∃ m, pn - d = m := ⟨_, rfl⟩
      have dm : d + m = pn := by omega
      have D2 := Lib.hid (show dueN (L.drop d) T = 0 by rw [← hd]; exact dueN_rest OW.out.sorted T)
      have LL := Lib.hid (show (L.drop d).length = m by rw [List.length_drop, hn0, hm0])
      have D3 := Lib.hid (show dueN (L.drop d) 99 = m by rw [← LL.out]; exact dueN_whole (fun x hx => LD.out x (List.mem_of_mem_drop hx)))
      have i3 : pn ≤ 30 := by omega
      have L5 := Lib.hid (show L.length ≤ 500 by omega)
      have z1 : ((d : Int) + (m : Int) != (pn : Int)) = false := by simp; omega
      have PC := RP.out.cap_le
      clear d1 hL hrp hn0 hpn hd hm0 R
      rcases hend with ⟨b1, b2⟩ | ⟨b1, b2, b3, b4⟩
      all_goals
        go_wp2_with fail
        clear b1 b2
        (try clear b3 b4)
        refine (m8due OK.out g L T M.out L5.out).mono ?_
        rintro e wa ⟨aa, ca, rfl, hra, _, _, hm, hh⟩
        rw [DN.out] at hra hm ⊢
        have Ma := Lib.hid hm
        have RPa := Lib.hid (hh.row RP.out (fun ad e => by rw [e, own_slice]))
        have RAa := Lib.hid hra
        clear hm hh hra
        go_wp2_with fail
        refine (m8due OK.out g (L.drop d) T Ma.out (by rw [LL.out]; omega)).mono ?_
        rintro e wb ⟨a2, c2, rfl, _, _, _, hm, hh⟩
        rw [D2.out] at hm ⊢
        rw [List.drop_zero] at hm
        have Mb := Lib.hid (hm.less OK.out (G' := fun k => (Value.slice ap pn cp).ownBlock = some k ∨ ∃ ad : Addr, aa = some ad ∧ ad.block = k) (fun k q => .inl q))
        have RPb := Lib.hid (hh.row RPa.out (fun ad e => by rw [e, own_slice]; exact .inl rfl))
        have RAb := Lib.hid (hh.row RAa.out (fun ad e => .inr ⟨ad, e, rfl⟩))
        clear hm hh
        go_wp2_with fail
        refine (m8due OK.out g (L.drop d) 99 Mb.out (by rw [LL.out]; omega)).mono ?_
        rintro e wc ⟨ab, cb, rfl, hrb, _, _, hm, hh⟩
        rw [D3.out] at hm hrb ⊢
        rw [List.take_of_length_le (by rw [LL.out]; exact Nat.le_refl _)] at hrb
        rw [List.drop_eq_nil_of_le (by rw [LL.out]; exact Nat.le_refl _)] at hm
        have Mc := Lib.hid hm
        have RPc := Lib.hid (hh.row RPb.out (fun ad e => by rw [e, own_slice]; exact .inl rfl))
        have RAc := Lib.hid (hh.row RAb.out (fun ad e => .inr ⟨ad, e, rfl⟩))
        have RBc := Lib.hid hrb
        clear hm hh hrb
        go_wp2_with fail
        refine (m8len OK.out g [] Mc.out (by simp)).mono ?_
        rintro e wd ⟨rfl, hm, hh⟩
        have Bd := Lib.hid hm.below
        have RPd := Lib.hid (hh.row RPc.out (fun ad e => by rw [e, own_slice]; exact .inl (.inl rfl)))
        have RAd := Lib.hid (hh.row RAc.out (fun ad e => .inl (.inr ⟨ad, e, rfl⟩)))
        have RBd := Lib.hid (hh.row RBc.out (fun ad e => .inr ⟨ad, e, rfl⟩))
        clear hm hh
        go_wp2_with (first | (at_builtin; refine app_events rfl _ _ rfl wd.heap.size (.slice (some ⟨wd.heap.size, 0, none⟩) 0 0) [] rfl (World.ownsRow_lit wd #[] 0 (Nat.le_refl _) (by decide) rfl) aa d ca (L.take d) rfl (RAd.out.below (wbox wd _)) (by simp) (by simp; omega) ?_; intro v1 w6 hown hgrow; have H6 := Lib.hid (show w6.ownsRow wd.heap.size 31 3 v1 (L.take d).length ((L.take d).map Ev.cs).flatten from hown); have B6 := Lib.hid ((wbox wd (Obj.cells #[] 31)).grown hgrow (by simp) (fun k e => by rw [own_slice] at e; simp at e; omega)); clear hown hgrow) | (at_builtin; refine app_events rfl _ _ rfl wd.heap.size _ (L.take d) rfl H6.out ab m cb (L.drop d) rfl (RBd.out.below B6.out) B6.out.size (by have := (RAd.out).len; omega) ?_; intro v3 w7 hown hgrow; have H7 := Lib.hid (show w7.ownsRow wd.heap.size 31 3 v3 L.length (L.map Ev.cs).flatten by rw [List.take_append_drop] at hown; exact hown); have B7 := Lib.hid (B6.out.grown hgrow B6.out.size (fun k e => (H6.out.lt k e).1)); clear hown hgrow))
        obtain ⟨aq, cq, rfl, hrq, _⟩ := rowV_of_owns H7.out rfl
        rw [N0.out] at hrq ⊢
        have QC := hrq.cap_le
        have RQ := Lib.hid hrq
        have RP7 := Lib.hid (RPd.out.below B7.out)
        have BW := Lib.hid (below_next Bd.out B7.out)
        clear hrq z1
        go_loopw [16] (fun u wr => ∃ (j : Nat), u = .int .i64 j ∧ j ≤ pn ∧ Below w7.heap.size w7 wr) (fun u _ => pn - (intOf u).toNat)
        case atStart => exact ⟨0, rfl, by omega, Below.refl _ _⟩
        case round =>
          obtain ⟨j, rfl, jl, hbel⟩ := hrel
          have BJ := Lib.hid hbel
          clear hbel
          by_cases go : j < pn
          · have b1 : decide (j < pn) = true := by simp; omega
            have b2 : decide ((j : Int) < (pn : Int)) = true := by simp; omega
            obtain ⟨x, hx⟩ := getV (es := L) (i := j) (by rw [N0.out]; exact go)
            have HX := Lib.hid hx
            have j1 : (j : Int) < (pn : Int) := by omega
            have j2 : 0 ≤ (j : Int) := by omega
            clear hx
            go_wp2
            go_loopw [17, 18] (fun f u wk => ∃ (k : Nat), u = .int .i64 k ∧ f = .bool ((pl.take k).any (eqE x)) ∧ k ≤ pn ∧ Below w7.heap.size w7 wk) (fun _ u _ => pn - (intOf u).toNat)
            case atStart => exact ⟨0, rfl, by simp, by omega, BJ.out⟩
            case round =>
              obtain ⟨k, rfl, rfl, kl, hbel⟩ := hrel
              clear BJ
              have BK := Lib.hid hbel
              clear hbel
              by_cases gk : k < pn
              · have c1 : decide (k < pn) = true := by simp; omega
                have c2 : decide ((k : Int) < (pn : Int)) = true := by simp; omega
                obtain ⟨y, hy⟩ := getV (es := pl) (i := k) (by rw [RP.out.len]; exact gk)
                have AN := Lib.hid (any_take (x := x) hy)
                obtain ⟨bq, oq, rfl, hat⟩ := (RQ.out.below BK.out).at HX.out
                obtain ⟨bp, op, rfl, hbt⟩ := (RP7.out.below BK.out).at hy
                have x0 := hat.c0; have x1 := hat.c1; have x2 := hat.c2
                have y0 := hbt.c0; have y1 := hbt.c1; have y2 := hbt.c2
                have k1 : (k : Int) < (pn : Int) := by omega
                have k2 : 0 ≤ (k : Int) := by omega
                obtain ⟨f, hf⟩ : ∃ f, (pl.take k).any (eqE x) = f := ⟨_, rfl⟩
                rw [hf] at AN ⊢
                clear hy hat hbt hf
                go_upto_region 27 with fail
                cases f with
                | true =>
                  go_quiet (fail)
                  all_goals
                    go_wp2
                    go_roundw
                    case rel => exact ⟨k + 1, by go_num, by rw [AN.out]; rfl, by omega, below_drewNE BK.out _⟩
                    case measure => simp [intOf]; omega
                | false =>
                  have EQ := eqE_run y x
                  go_quiet (fail)
                  all_goals
                    go_wp2
                    go_roundw
                    case rel => exact ⟨k + 1, by go_num, by rw [AN.out]; rfl, by omega, below_drewNE BK.out _⟩
                    case measure => simp [intOf]; omega
              · have c1 : decide (k < pn) = false := by simp; omega
                have c2 : decide ((k : Int) < (pn : Int)) = false := by simp; omega
                have KE := Lib.hid (show pl.take k = pl from List.take_of_length_le (by rw [RP.out.len]; omega))
                have FD := Lib.hid (any_eqE (PM.out.mem_iff.mpr (List.mem_of_getElem? HX.out)))
                rw [KE.out, FD.out]
                clear gk
                go_wp2_with fail
                go_upto_region 28 with fail
                obtain ⟨bb, hbb⟩ : ∃ bb, decide (j < d) = bb := ⟨_, rfl⟩
                have h1 : decide ((j : Int) < (d : Int)) = bb := by rw [← hbb]; simp
                have h2 : decide (x.d ≤ T) = bb := by
                  rw [← hbb, decide_eq_decide, ← DN.out]
                  exact (dueN_iff OW.out.sorted T HX.out).symm
                obtain ⟨bq, oq, rfl, hat⟩ := (RQ.out.below BK.out).at HX.out
                have x0 := hat.c0
                rcases Nat.eq_zero_or_pos j with q | q
                · have u0 : decide (0 < j) = false := by simp; omega
                  have u1 : decide ((0 : Int) < (j : Int)) = false := by simp; omega
                  clear hat q c1 c2
                  go_quiet (fail)
                  all_goals
                    go_wp2
                    go_roundw
                    case rel => exact ⟨j + 1, by go_num, by omega, below_drewNE BK.out _⟩
                    case measure => simp [intOf]; omega
                · obtain ⟨jj, hjj⟩ : ∃ jj, j = jj + 1 := ⟨j - 1, by omega⟩
                  have u0 : decide (0 < j) = true := by simp; omega
                  have u1 : decide ((0 : Int) < (j : Int)) = true := by simp; omega
                  have u2 : (j : Int) - 1 = (jj : Int) := by omega
                  obtain ⟨xp, hxp⟩ := getV (es := L) (i := jj) (by rw [N0.out]; omega)
                  have u3 : decide (x.d < xp.d) = false := by
                    have := sorted_le OW.out.sorted (show jj ≤ j by omega) hxp HX.out
                    simp; omega
                  obtain ⟨bq', oq', hz, hat'⟩ := (RQ.out.below BK.out).at hxp
                  cases hz
                  have xp0 := hat'.c0
                  have v1 : (jj : Int) < (pn : Int) := by omega
                  have v2 : 0 ≤ (jj : Int) := by omega
                  clear hat hat' hxp q hjj c1 c2
                  go_quiet (fail)
                  all_goals
                    go_wp2
                    go_roundw
                    case rel => exact ⟨j + 1, by go_num, by omega, below_drewNE BK.out _⟩
                    case measure => simp [intOf]; omega
          · have b1 : decide (j < pn) = false := by simp; omega
            have b2 : decide ((j : Int) < (pn : Int)) = false := by simp; omega
            go_wp2
            go_ret
            exact ⟨rfl, below_next BW.out BJ.out⟩
end Go.Proofs.Ytfeemdljlikpbaa
