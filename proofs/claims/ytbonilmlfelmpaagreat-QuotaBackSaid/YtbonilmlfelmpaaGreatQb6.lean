/-
  The document's own tree (regattaref13): fits: contract.
-/
import Derived.Test.YtbonilmlfelmpaaGreatQbA
namespace Go.Proofs.YtbonilmlfelmpaaGreat
open Go.RowKit

theorem cmpI_gtN {m n : Int} : decide (0 < cmpI m n) = !decide (m ≤ n) := by
  unfold cmpI
  by_cases h1 : m < n
  · simp [h1]; omega
  · by_cases h2 : n < m
    · simp [h1, h2]
    · simp [h1, h2]; omega
theorem listAt_good {S : List Sv} {x : Int} {hs : List Hq} (g : ∀ q ∈ hs, GoodH q.h) : ∀ h ∈ listAt S x hs, GoodH h := fun h hh => by
  obtain ⟨q, hq, rfl⟩ := listAt_sub S x hs h hh
  exact g q hq
set_option maxRecDepth 20000 in
set_option maxHeartbeats 8000000 in
theorem r13fits_any (r : Nat) (F : Nat → Prop) (v : Value) (sa : Option Addr) (n sc : Nat) (S : List Sv) (ls : List Hq) (N D : Int) (L b : Nat) (a : Option Addr) (len cap : Nat) (hs : List Hq) (s : Int) (w : World) (h : RQ w r F v (.slice sa n sc) ls) (hv : Rat w b L v N D) (hS : RowS w sa n sc S) (g : GoodSv S) (hr : RowQ w a len cap hs) (gd : ∀ q ∈ hs, GoodH q.h) (hsv : ∀ q ∈ hs, hasB S q.srv = true) (hl : len ≤ 20) (hL : L ≤ 9) (hs0 : hasB S s = true) :
    Calls Tryz.prog 43 #[.pointer (some ⟨r, 0, none⟩), .int .i64 s, .slice a len cap] w fun e w' => e = .returned (.bool (fitsP S N D s hs)) ∧ Below w.heap.size w w' := by
  have H := Lib.hid h
  have V := Lib.hid hv
  have RS := Lib.hid hS
  have GS := Lib.hid g
  have R := Lib.hid hr
  have G := Lib.hid gd
  have SV := Lib.hid hsv
  have HL := Lib.hid hl
  have LL := Lib.hid hL
  have HS0 := Lib.hid (has_is.mp hs0)
  have LN := Lib.hid hS.len
  have ⟨cl1, cl2⟩ := RowF.cap_le hS
  obtain ⟨an, ln, cn, ad, ld, cd, sa', sl', sc', u, hve, hsv', hb, _, _, _⟩ := _root_.id h
  cases hsv'
  have BK := Lib.hid hb
  obtain ⟨fb, hfb⟩ : ∃ fb, fitsP S N D s hs = fb := ⟨_, rfl⟩
  have FT := Lib.hid (show (∀ y ∈ pathV S s, fitAt S N D y hs = true) → fb = true from fun q => by rw [← hfb]; exact List.all_eq_true.mpr q)
  have FN := Lib.hid (show ∀ y ∈ pathV S s, fitAt S N D y hs = false → fb = false from fun y hy q => by
    cases fb with
    | false => rfl
    | true => rw [fitsP_at hfb hy] at q; cases q)
  rw [hfb]
  subst hve
  clear h hv hS g hr gd hsv hl hL hs0 hb hfb
  go_enter Tryz.func43, Tryz.ntmps43
  go_wp2_with fail
  refine (r13path_any r F _ sa n sc S ls s _ H.out RS.out GS.out).mono ?_
  rintro e w1 ⟨pa, plen, pcap, rfl, hr, hfr, hb⟩
  rw [pathT_yes HS0.out] at hr
  have PR := Lib.hid hr
  have B1 := Lib.hid hb
  have LP := Lib.hid hr.len
  have ⟨cp1, cp2⟩ := hr.cap_le
  clear hb hr hfr
  go_wp2
  go_loopw [8] (fun u wr => ∃ i : Nat, u = .int .i64 i ∧ i ≤ plen ∧ (∀ y ∈ (pathV S s).take i, fitAt S N D y hs = true) ∧ Below w1.heap.size w1 wr) (fun u _ => plen - (intOf u).toNat)
  case atStart => exact ⟨0, rfl, by omega, (fun y hy => by simp at hy), Below.refl _ _⟩
  case round =>
    obtain ⟨i, rfl, il, hne, hbel⟩ := hrel
    have NE := Lib.hid hne
    have HW := Lib.hid hbel
    have BW := Lib.hid (below_next B1.out hbel)
    clear hne hbel
    by_cases go : i < plen
    · have t1 : decide (i < plen) = true := decide_eq_true go
      have t2 : decide ((i : Int) < (plen : Int)) = true := decide_eq_true (by omega)
      obtain ⟨bp, op, rfl, hat⟩ := (PR.out.below HW.out).cell go
      have hpi : (pathV S s)[i]? = some ((pathV S s).getD i 0) := by
        have hi : i < (pathV S s).length := by rw [LP.out]; exact go
        rw [List.getD_eq_getElem?_getD, List.getElem?_eq_getElem hi]
        rfl
      obtain ⟨y, hy⟩ : ∃ y, (pathV S s).getD i 0 = y := ⟨_, rfl⟩
      rw [hy] at hat hpi
      have PI := Lib.hid hpi
      have YM := Lib.hid (List.mem_of_getElem? hpi)
      have YB := Lib.hid (path_bd GS.out s HS0.out.1 HS0.out.2 y YM.out)
      have j1 : (i : Int) < (plen : Int) := by omega
      have j2 : 0 ≤ (i : Int) := by omega
      have wi : IntKind.i64.wrap ((i : Int) + 1) = (i : Int) + 1 := IntWalk.i64_in _ (by omega)
      have e0 := (BK.out.below BW.out).cell 0
      have e1 := (BK.out.below BW.out).cell 1
      simp at e0 e1
      have ATY := Lib.hid hat
      obtain ⟨W2, hW2⟩ : ∃ W2, wr.alloc (.cells #[.slice an ln cn, .slice ad ld cd] 35) = W2 := ⟨_, rfl⟩
      have B2 := Lib.hid (show Below wr.heap.size wr W2 by rw [← hW2]; exact wbox _ _)
      have Z2 := Lib.hid (show Blk W2 35 wr.heap.size #[.slice an ln cn, .slice ad ld cd] by rw [← hW2]; exact Blk.new _ _ _)
      have BW2 := Lib.hid (below_next BW.out B2.out)
      have hat2 := hb_cell B2.out hat
      have FITD := Lib.hid (show ∀ (most : Int × Int), most = (qN S N y, qD S D y) → decide (0 < cmpI ((sumH (listAt S y hs)).1 * most.2) (most.1 * (sumH (listAt S y hs)).2)) = !fitAt S N D y hs from fun most e => by rw [e, cmpI_gtN]; rfl)
      have N2 := Lib.hid (show fitAt S N D y hs = true → ∀ z ∈ (pathV S s).take (i + 1), fitAt S N D z hs = true from fun hf z hz => by
        rw [List.take_add_one, PI.out] at hz
        rcases List.mem_append.mp hz with q | q
        · exact NE.out z q
        · simp at q; subst q; exact hf)
      clear hy hpi hat
      by_cases hy0 : 0 ≤ y
      · have d : decide (0 ≤ y) = true := decide_eq_true hy0
        obtain ⟨sv, hsv⟩ : ∃ sv, S[y.toNat]? = some sv := ⟨_, List.getElem?_eq_getElem (by have := YB.out; omega)⟩
        obtain ⟨k, hk⟩ : ∃ k : Nat, y.toNat = k := ⟨_, rfl⟩
        obtain rfl : y = (k : Int) := by omega
        simp only [Int.toNat_natCast] at hk hsv
        have SVB := Lib.hid (GS.out.each k sv hsv)
        have QQ := Lib.hid (show ((sv.E, sv.P) : Int × Int) = (qN S N (k : Int), qD S D (k : Int)) by rw [qN_at N (by omega) (by simpa using hsv), qD_at D (by omega) (by simpa using hsv)])
        obtain ⟨bs, os, rfl, hsat⟩ := (RS.out.below BW.out).at hsv
        have s1 := hsat.c1
        have s2 := hsat.c2
        have S1 := Lib.hid s1
        have S2 := Lib.hid s2
        have j3 : (k : Int) < (n : Int) := by have := YB.out; have := LN.out; omega
        have j4 : 0 ≤ (k : Int) := by omega
        have E0 := Lib.hid (show 0 ≤ sv.E by have := SVB.out; omega)
        have E1 := Lib.hid (show sv.E < 4294967296 by have := SVB.out; omega)
        have P0 := Lib.hid (show 0 ≤ sv.P by have := SVB.out; omega)
        have P1 := Lib.hid (show sv.P < 4294967296 by have := SVB.out; omega)
        have KEPT := Lib.hid (show ∀ w' : World, Below wr.heap.size wr w' → w'.cell? ⟨r, 2, none⟩ = some (.slice (some ⟨bs, os, none⟩) n sc) ∧ w'.cell? ⟨bp, op + i, none⟩ = some (.int .i64 (k : Int)) ∧ w'.cell? ⟨bs, os + k * 3 + 1, none⟩ = some (.int .i64 sv.E) ∧ w'.cell? ⟨bs, os + k * 3 + 2, none⟩ = some (.int .i64 sv.P) from fun w' h => ⟨by have := (BK.out.below (BW.out.trans (h.mono BW.out.size))).cell 2; simpa using this, hb_cell h ATY.out, hb_cell h S1.out, hb_cell h S2.out⟩)
        have BB := Lib.hid (show Below wr.heap.size wr W2.drew from B2.out.drew)
        clear hsv hsat hk
        have f0 := Z2.out.free 0
        have f1 := Z2.out.free 1
        go_upto_region 7 with fail
        try rw [hW2]
        clear hW2 e0 e1 hat2 go hy0 s1 s2
        go_region_held3 (fun w' => w'.cell? ⟨r, 2, none⟩ = some (.slice (some ⟨bs, os, none⟩) n sc) ∧ w'.cell? ⟨bp, op + i, none⟩ = some (.int .i64 (k : Int)) ∧ w'.cell? ⟨bs, os + k * 3 + 1, none⟩ = some (.int .i64 sv.E) ∧ w'.cell? ⟨bs, os + k * 3 + 2, none⟩ = some (.int .i64 sv.P))
          (first | with_reducible exact KEPT.out _ BB.out | with_reducible exact KEPT.out _ ((BB.out.setCell (Nat.le_refl _) _).setCell (Nat.le_refl _) _))
          (first | (go_at_call 27; (with_reducible refine (rof_any sv.E sv.P _ E0.out E1.out P0.out P1.out).mono ?_); rintro e w3 ⟨vv, rfl, hr3, hb3⟩; obtain ⟨x1, l1, c1, z1, x2, l2, c2, z2, rfl, q1, q2, q3, q4, q5, q6, q7, q8⟩ := hr3; have VR := Lib.hid (show Rat w3 W2.drew.heap.size 1 (.agg #[.slice x1 l1 c1, .slice x2 l2 c2]) sv.E sv.P from ⟨x1, l1, c1, z1, x2, l2, c2, z2, rfl, q1, q2, q3, q4, q5, q6, q7, q8⟩); have Z3 := Lib.hid (Z2.out.drew.below hb3); have BB := Lib.hid (below_next BB.out hb3); have z0 := Z3.out.cell 0; have z1' := Z3.out.cell 1; have g0 := Z3.out.free 0; have g1 := Z3.out.free 1; simp at z0 z1'; clear q1 q2 q3 q4 q5 q6 q7 q8 hb3))
        all_goals
          have Z4 := Lib.hid (show Blk ((w3.setCell ⟨wr.heap.size, 0, none⟩ (.slice x1 l1 c1)).setCell ⟨wr.heap.size, 1, none⟩ (.slice x2 l2 c2)) 35 wr.heap.size #[.slice x1 l1 c1, .slice x2 l2 c2] from two_set Z3.out)
          have B4 := Lib.hid (show Below wr.heap.size wr ((w3.setCell ⟨wr.heap.size, 0, none⟩ (.slice x1 l1 c1)).setCell ⟨wr.heap.size, 1, none⟩ (.slice x2 l2 c2)) from (BB.out.setCell (Nat.le_refl _) _).setCell (Nat.le_refl _) _)
          have SZ3 := Lib.hid (show wr.heap.size < W2.drew.heap.size from Z2.out.drew.lt)
          have V4 := Lib.hid (show Rat ((w3.setCell ⟨wr.heap.size, 0, none⟩ (.slice x1 l1 c1)).setCell ⟨wr.heap.size, 1, none⟩ (.slice x2 l2 c2)) W2.drew.heap.size 1 (.agg #[.slice x1 l1 c1, .slice x2 l2 c2]) sv.E sv.P by
            obtain ⟨_, _, _, _, _, _, _, _, he, q1, q2, q3, q4, q5, q6, q7, q8⟩ := VR.out
            cases he
            have hne : ∀ ad' : Addr, x1 = some ad' → ad'.block ≠ wr.heap.size := fun ad' e => by have h1 := q7 ad' e; have := SZ3.out; omega
            have hne2 : ∀ ad' : Addr, x2 = some ad' → ad'.block ≠ wr.heap.size := fun ad' e => by have h1 := q8 ad' e; have := SZ3.out; omega
            exact ⟨_, _, _, _, _, _, _, _, rfl, (q1.setCell _ _ hne).setCell _ _ hne, q2, (q3.setCell _ _ hne2).setCell _ _ hne2, q4, q5, q6, q7, q8⟩)
          obtain ⟨W4, hW4⟩ : ∃ W4, (w3.setCell ⟨wr.heap.size, 0, none⟩ (.slice x1 l1 c1)).setCell ⟨wr.heap.size, 1, none⟩ (.slice x2 l2 c2) = W4 := ⟨_, rfl⟩
          rw [hW4] at Z4 B4 V4
          have BW8 := Lib.hid (below_next BW.out B4.out)
          have A8 := Lib.hid (show W4.cell? ⟨bp, op + i, none⟩ = some (.int .i64 (k : Int)) from hb_cell B4.out ATY.out)
          have H8 := Lib.hid (H.out.below BW8.out)
          have RS8 := Lib.hid (RS.out.below BW8.out)
          have R8 := Lib.hid (R.out.below BW8.out)
          have Z8 := Lib.hid Z4.out
          have V8 := Lib.hid V4.out
          have HW8 := Lib.hid (below_next HW.out B4.out)
          have LL8 := Lib.hid (show 2 * len + 1 + 1 ≤ 50 by have := HL.out; omega)
          have FD8 := Lib.hid (FITD.out _ QQ.out)
          clear VR Z3 BB z0 z1' g0 g1 f0 f1
          go_upto_region 8 with fail
          try rw [hW4]
          clear hW4
          have KP8 := Lib.hid (show ∀ w' : World, Below W4.heap.size W4 w' → w'.cell? ⟨bp, op + i, none⟩ = some (.int .i64 (k : Int)) ∧ w'.cell? ⟨wr.heap.size, 0, none⟩ = some (.slice x1 l1 c1) ∧ w'.cell? ⟨wr.heap.size, 1, none⟩ = some (.slice x2 l2 c2) from fun w' h => ⟨hb_cell h A8.out, by have := (Z8.out.below h).cell 0; simpa using this, by have := (Z8.out.below h).cell 1; simpa using this⟩)
          have B8 := Lib.hid (show Below W4.heap.size W4 W4.drew from (Below.refl W4.heap.size W4).drew)
          go_region_held3 (fun w' => w'.cell? ⟨bp, op + i, none⟩ = some (.int .i64 (k : Int)) ∧ w'.cell? ⟨wr.heap.size, 0, none⟩ = some (.slice x1 l1 c1) ∧ w'.cell? ⟨wr.heap.size, 1, none⟩ = some (.slice x2 l2 c2))
            (with_reducible exact KP8.out _ B8.out)
            (first
              | (go_at_call 58; (with_reducible refine (r13held_any r F _ (some ⟨bs, os, none⟩) n sc S ls a len cap hs (k : Int) _ (H8.out.below B8.out) (RS8.out.below B8.out) GS.out (R8.out.below B8.out) G.out SV.out HL.out).mono ?_); rintro e w4 ⟨vv, rfl, hr4, hb4⟩; have RH := Lib.hid hr4; have B8 := Lib.hid (below_next B8.out hb4); clear hr4 hb4)
              | (go_at_call 24; (with_reducible refine (rcmp_any _ _ (sumH (listAt S (k : Int) hs)).1 (sumH (listAt S (k : Int) hs)).2 _ _ _ _ (2 * len + 1) _ _ RH.out (V8.out.below B8.out) LL8.out).mono ?_); rintro e w5 ⟨rfl, hb5⟩; have B8 := Lib.hid (below_next B8.out hb5); clear hb5))
          all_goals
            rw [FD8.out]
            cases hft : fitAt S N D (k : Int) hs with
            | false =>
              have FF := Lib.hid (FN.out _ YM.out hft)
              clear hft
              go_wp2
              go_ret
              exact ⟨by rw [FF.out]; rfl, below_next BW8.out B8.out⟩
            | true =>
              have N3 := Lib.hid (N2.out hft)
              clear hft
              go_wp2
              go_roundw
              case rel => exact ⟨i + 1, by go_num, by omega, N3.out, below_next HW8.out B8.out⟩
              case measure => simp [intOf]; omega
      · have d : decide (0 ≤ y) = false := decide_eq_false hy0
        have QQ := Lib.hid (show ((N, D) : Int × Int) = (qN S N y, qD S D y) by rw [qN_neg S N (by omega), qD_neg S D (by omega)])
        have A8 := Lib.hid (show W2.cell? ⟨bp, op + i, none⟩ = some (.int .i64 y) from hat2)
        have H8 := Lib.hid (H.out.below BW2.out)
        have RS8 := Lib.hid (RS.out.below BW2.out)
        have R8 := Lib.hid (R.out.below BW2.out)
        have Z8 := Lib.hid Z2.out
        have V8 := Lib.hid (V.out.below BW2.out)
        have BW8 := Lib.hid BW2.out
        have HW8 := Lib.hid (below_next HW.out B2.out)
        have LL8 := Lib.hid (show 2 * len + 1 + L ≤ 50 by have := HL.out; have := LL.out; omega)
        have FD8 := Lib.hid (FITD.out _ QQ.out)
        go_upto_region 8 with fail
        try rw [hW2]
        clear hW2 e0 e1 hat2 go hy0
        have KP8 := Lib.hid (show ∀ w' : World, Below W2.heap.size W2 w' → w'.cell? ⟨bp, op + i, none⟩ = some (.int .i64 y) ∧ w'.cell? ⟨wr.heap.size, 0, none⟩ = some (.slice an ln cn) ∧ w'.cell? ⟨wr.heap.size, 1, none⟩ = some (.slice ad ld cd) from fun w' h => ⟨hb_cell h A8.out, by have := (Z8.out.below h).cell 0; simpa using this, by have := (Z8.out.below h).cell 1; simpa using this⟩)
        have B8 := Lib.hid (show Below W2.heap.size W2 W2.drew from (Below.refl W2.heap.size W2).drew)
        go_region_held3 (fun w' => w'.cell? ⟨bp, op + i, none⟩ = some (.int .i64 y) ∧ w'.cell? ⟨wr.heap.size, 0, none⟩ = some (.slice an ln cn) ∧ w'.cell? ⟨wr.heap.size, 1, none⟩ = some (.slice ad ld cd))
          (with_reducible exact KP8.out _ B8.out)
          (first
            | (go_at_call 58; (with_reducible refine (r13held_any r F _ sa n sc S ls a len cap hs y _ (H8.out.below B8.out) (RS8.out.below B8.out) GS.out (R8.out.below B8.out) G.out SV.out HL.out).mono ?_); rintro e w4 ⟨vv, rfl, hr4, hb4⟩; have RH := Lib.hid hr4; have B8 := Lib.hid (below_next B8.out hb4); clear hr4 hb4)
            | (go_at_call 24; (with_reducible refine (rcmp_any _ _ (sumH (listAt S y hs)).1 (sumH (listAt S y hs)).2 _ _ _ _ (2 * len + 1) _ _ RH.out (V8.out.below B8.out) LL8.out).mono ?_); rintro e w5 ⟨rfl, hb5⟩; have B8 := Lib.hid (below_next B8.out hb5); clear hb5))
        all_goals
          rw [FD8.out]
          cases hft : fitAt S N D y hs with
          | false =>
            have FF := Lib.hid (FN.out _ YM.out hft)
            clear hft
            go_wp2
            go_ret
            exact ⟨by rw [FF.out]; rfl, below_next BW8.out B8.out⟩
          | true =>
            have N3 := Lib.hid (N2.out hft)
            clear hft
            go_wp2
            go_roundw
            case rel => exact ⟨i + 1, by go_num, by omega, N3.out, below_next HW8.out B8.out⟩
            case measure => simp [intOf]; omega
    · have t1 : decide (i < plen) = false := decide_eq_false go
      have t2 : decide ((i : Int) < (plen : Int)) = false := decide_eq_false (by omega)
      have EL := Lib.hid (show (pathV S s).take i = pathV S s by rw [List.take_of_length_le (by rw [LP.out]; omega)])
      have TT := Lib.hid (FT.out (by have := NE.out; rw [EL.out] at this; exact this))
      go_wp2
      go_ret
      exact ⟨by rw [TT.out]; rfl, BW.out⟩
end Go.Proofs.YtbonilmlfelmpaaGreat
