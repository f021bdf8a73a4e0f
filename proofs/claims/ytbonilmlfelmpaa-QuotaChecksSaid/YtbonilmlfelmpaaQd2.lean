/-
  The document's own Check of servers (regattaref13); the walk of QuotaChecks.
-/
import Derived.Test.YtbonilmlfelmpaaQc2
namespace Go.Proofs.Ytbonilmlfelmpaa
open Go.RowKit

set_option maxRecDepth 20000 in
set_option maxHeartbeats 4000000 in
theorem r13check_any (a : Option Addr) (len cap : Nat) (S : List Sv) (w : World) (hr : RowS w a len cap S) (b : Bool) (hb : b = true ↔ GoodSv S) :
    Calls Try.prog 15 #[.slice a len cap] w fun e w' => e = .returned (.bool b) ∧ Below w.heap.size w w' := by
  have R := Lib.hid hr
  have LN := Lib.hid hr.len
  have HB := Lib.hid hb
  have ⟨c1, c2⟩ := RowF.cap_le hr
  clear hr hb
  go_enter Try.func15, Try.ntmps15
  go_wp2
  go_loopw [3] (fun u wr => ∃ i : Nat, u = .int .i64 i ∧ i ≤ len ∧ (∀ j v, j < i → S[j]? = some v → svB j v) ∧ Below w.heap.size w wr) (fun u _ => len - (intOf u).toNat)
  case atStart => exact ⟨0, rfl, by omega, (fun j v h => by omega), Below.refl _ _⟩
  case round =>
    obtain ⟨i, rfl, il, hok, hbel⟩ := hrel
    have OK := Lib.hid hok
    have HW := Lib.hid hbel
    clear hok hbel
    by_cases go : i < len
    · have t1 : decide (i < len) = true := decide_eq_true go
      have t2 : decide ((i : Int) < (len : Int)) = true := decide_eq_true (by omega)
      obtain ⟨x, hx⟩ : ∃ x, S[i]? = some x := ⟨_, List.getElem?_eq_getElem (by rw [LN.out]; exact go)⟩
      obtain ⟨ba, oa, rfl, hat⟩ := (R.out.below HW.out).at hx
      have HX := Lib.hid hx
      obtain ⟨par, E, P⟩ := x
      obtain ⟨W2, hW2⟩ : ∃ W2, wr.alloc (.cells #[.int .i64 E, .int .i64 P] 26) = W2 := ⟨_, rfl⟩
      have k1 := hat.c1; have k2 := hat.c2
      simp only at k1 k2
      have K0 := Lib.hid (show W2.cell? ⟨ba, oa + i * 3, none⟩ = some (.int .i64 par) by rw [← hW2]; exact hb_cell (wbox wr _) hat.c0)
      have k0 := K0.out
      have B2 := Lib.hid (show Below w.heap.size w W2 by rw [← hW2]; exact HW.out.alloc HW.out.size _)
      have X2 := Lib.hid (show Blk W2 26 wr.heap.size #[.int .i64 E, .int .i64 P] by rw [← hW2]; exact Blk.new _ _ _)
      have x0 := X2.out.cell 0; have x1 := X2.out.cell 1
      simp at x0 x1
      have j1 : (i : Int) < (len : Int) := by omega
      have j2 : 0 ≤ (i : Int) := by omega
      have wi : IntKind.i64.wrap ((i : Int) + 1) = (i : Int) + 1 := IntWalk.i64_in _ (by omega)
      have NO := Lib.hid (show ¬ svB i ⟨par, E, P⟩ → b = false from fun q => by
        cases b with
        | false => rfl
        | true => exact absurd (good_at (HB.out.mp rfl) HX.out) q)
      clear hx hat
      go_upto_region 5 with fail
      try rw [hW2]
      clear hW2 k1 k2
      by_cases h0 : par < -1
      · have d0 : decide (par < -1) = true := decide_eq_true h0
        have FB := Lib.hid (NO.out (fun q => by have := q.1; simp only at this; omega))
        clear  h0
        go_wp2
        go_ret
        exact ⟨by rw [FB.out]; rfl, B2.out⟩
      have d0 : decide (par < -1) = false := decide_eq_false h0
      by_cases h1 : (i : Int) ≤ par
      · have d1 : decide ((i : Int) ≤ par) = true := decide_eq_true h1
        have FB := Lib.hid (NO.out (fun q => by have := q.2.1; simp only at this; omega))
        clear  h0 h1
        go_wp2
        go_ret
        exact ⟨by rw [FB.out]; rfl, B2.out⟩
      have d1 : decide ((i : Int) ≤ par) = false := decide_eq_false h1
      by_cases h2 : E < 0
      · have d2 : decide (E < 0) = true := decide_eq_true h2
        have FB := Lib.hid (NO.out (fun q => by have := of_decide_eq_true (p := 0 ≤ E ∧ E ≤ 1073741824 ∧ 1 ≤ P ∧ P ≤ 1048576) q.2.2; omega))
        clear  h0 h1 h2
        go_wp2
        go_ret
        exact ⟨by rw [FB.out]; rfl, B2.out⟩
      have d2 : decide (E < 0) = false := decide_eq_false h2
      by_cases h3 : 1073741824 < E
      · have d3 : decide (1073741824 < E) = true := decide_eq_true h3
        have FB := Lib.hid (NO.out (fun q => by have := of_decide_eq_true (p := 0 ≤ E ∧ E ≤ 1073741824 ∧ 1 ≤ P ∧ P ≤ 1048576) q.2.2; omega))
        clear  h0 h1 h2 h3
        go_wp2
        go_ret
        exact ⟨by rw [FB.out]; rfl, B2.out⟩
      have d3 : decide (1073741824 < E) = false := decide_eq_false h3
      by_cases h4 : P < 1
      · have d4 : decide (P < 1) = true := decide_eq_true h4
        have FB := Lib.hid (NO.out (fun q => by have := of_decide_eq_true (p := 0 ≤ E ∧ E ≤ 1073741824 ∧ 1 ≤ P ∧ P ≤ 1048576) q.2.2; omega))
        clear  h0 h1 h2 h3 h4
        go_wp2
        go_ret
        exact ⟨by rw [FB.out]; rfl, B2.out⟩
      have d4 : decide (P < 1) = false := decide_eq_false h4
      by_cases h5 : 1048576 < P
      · have d5 : decide (1048576 < P) = true := decide_eq_true h5
        have FB := Lib.hid (NO.out (fun q => by have := of_decide_eq_true (p := 0 ≤ E ∧ E ≤ 1073741824 ∧ 1 ≤ P ∧ P ≤ 1048576) q.2.2; omega))
        clear  h0 h1 h2 h3 h4 h5
        go_wp2
        go_ret
        exact ⟨by rw [FB.out]; rfl, B2.out⟩
      have d5 : decide (1048576 < P) = false := decide_eq_false h5
      have OK2 := Lib.hid (show ∀ j v, j < i + 1 → S[j]? = some v → svB j v from fun j v hj hv => by
        rcases Nat.lt_or_ge j i with k | k
        · exact OK.out j v k hv
        · obtain rfl : j = i := by omega
          have := HX.out
          rw [this] at hv
          cases hv
          exact ⟨by simp only; omega, by simp only; omega, decide_eq_true (p := 0 ≤ E ∧ E ≤ 1073741824 ∧ 1 ≤ P ∧ P ≤ 1048576) ⟨by omega, by omega, by omega, by omega⟩⟩)
      clear h0 h1 h2 h3 h4 h5
      go_wp2
      go_roundw
      case rel => exact ⟨i + 1, by go_num, by omega, OK2.out, B2.out⟩
      case measure => simp [intOf]; omega
    · have t1 : decide (i < len) = false := decide_eq_false go
      have t2 : decide ((i : Int) < (len : Int)) = false := decide_eq_false (by omega)
      have ALL := Lib.hid (show ∀ j v, S[j]? = some v → svB j v from fun j v hv => OK.out j v (by
        have : j < S.length := by
          rcases Nat.lt_or_ge j S.length with k | k
          · exact k
          · rw [List.getElem?_eq_none k] at hv; cases hv
        have := LN.out
        omega) hv)
      by_cases h16 : (len : Int) ≤ 16
      · have t3 : decide ((len : Int) ≤ 16) = true := decide_eq_true h16
        have TB := Lib.hid (HB.out.mpr (good_of (by rw [LN.out]; omega) ALL.out))
        clear h16
        go_wp2
        go_ret
        exact ⟨by rw [TB.out]; rfl, HW.out⟩
      · have t3 : decide ((len : Int) ≤ 16) = false := decide_eq_false h16
        have FB := Lib.hid (show b = false by
          cases b with
          | false => rfl
          | true => have := (HB.out.mp rfl).len; have := LN.out; omega)
        clear h16
        go_wp2
        go_ret
        exact ⟨by rw [FB.out]; rfl, HW.out⟩
theorem RowS.take {W : World} {a : Option Addr} {len cap m : Nat} {S : List Sv} (h : RowS W a len cap S) (hm : m ≤ len) : RowS W a m cap (S.take m) := by
  unfold RowS
  rw [List.map_take]
  exact RowF.take h hm
theorem is_ne {zs : List Int} {n : Int} (h : Is 4294967296 zs n) (hn : n ≠ 0) : zs ≠ [] := fun e => hn (by rw [← h.2.2, e]; rfl)
theorem nil_told13 {w w' : World} {e : Ending} (h : GivesLo w 2 0 1 e w') : ∃ an ln cn ad ld cd d, e = .returned (.agg #[.slice an ln cn, .slice ad ld cd]) ∧ Rat w' 0 2 (.agg #[.slice an ln cn, .slice ad ld cd]) 0 d ∧ ¬ ld = 0 ∧ Below w.heap.size w w' := by
  obtain ⟨v, n, d, rfl, hr, hlo, he, hb⟩ := h
  have n0 : n = 0 := by omega
  subst n0
  obtain ⟨an, ln, cn, zn, ad, ld, cd, zd, rfl, h1, h2, h3, h4, h5⟩ := id hr
  refine ⟨an, ln, cn, ad, ld, cd, d, rfl, hr, fun e => ?_, hb⟩
  exact is_ne h4 (by have := hlo.2.1; omega) (List.length_eq_zero_iff.mp (by rw [h3.len]; exact e))
theorem ratio_run13 (a b : Value) (w : World) : (Instr.field 33 (.agg #[a, b]) 1).run Try.prog w = .ok b w := by kernel_rfl
set_option maxRecDepth 20000 in
set_option maxHeartbeats 8000000 in
theorem qchecks_walk (a : Option Addr) (len0 cap : Nat) (S0 : List Sv) (n : Int) (w : World) (hr0 : RowS w a len0 cap S0) (n0 : 0 ≤ n) (n1 : n < 4294967296) :
    Calls Try.prog 5 #[.slice a len0 cap, .int .u32 n] w fun e w' => e = .returned (.bool true) ∧ Below w.heap.size w w' := by
  have un : IntKind.u64.wrap n = n := IntWalk.u64_in _ (by omega)
  have N0 := Lib.hid n0
  have N1 := Lib.hid n1
  have R0 := Lib.hid hr0
  have ⟨ca, cb⟩ := RowF.cap_le hr0
  have hfr := ratio_run13
  clear n0 n1 hr0
  go_enter Try.func5, Try.ntmps5
  go_upto_if 11 with fail
  go_cut [0] (fun s0 wx => ∃ (l0 : Nat) (S : List Sv), s0 = .slice a l0 cap ∧ RowS wx a l0 cap S ∧ l0 ≤ cap ∧ Below w.heap.size w wx)
  case first =>
    by_cases g : 18 < len0
    · have g1 : decide ((18 : Int) < (len0 : Int)) = true := by simp; omega
      have g2 : decide (18 < len0) = true := by simp; omega
      have g3 : (18 : Int) ≤ (cap : Int) := by omega
      have g4 : 18 ≤ cap := by omega
      go_wp2
      go_meet
      exact ⟨18, _, rfl, R0.out.take (by omega), by omega, Below.refl _ _⟩
    · have g1 : decide ((18 : Int) < (len0 : Int)) = false := by simp; omega
      have g2 : decide (18 < len0) = false := by simp; omega
      go_wp2
      go_meet
      exact ⟨len0, _, rfl, R0.out, by omega, Below.refl _ _⟩
  case rest =>
    obtain ⟨l0, S, rfl, hR, l0c, hbw⟩ := hcut
    have RS := Lib.hid hR
    have BW := Lib.hid hbw
    clear hR hbw
    go_wp2_with fail
    refine (one13_any n 3 _ N0.out N1.out (by omega) (by omega)).mono ?_
    rintro e w2 ⟨v, rfl, hr, hb⟩
    have V := Lib.hid hr
    have B := Lib.hid hb
    clear hr hb
    go_wp2_with fail
    by_cases hT : GoodSv S
    · have HT := Lib.hid hT
      clear hT
      refine (qNew_yes v n 3 1 _ a l0 cap S w2 V.out (by omega) (by omega) (RS.out.below B.out) HT.out).mono ?_
      rintro e w6 ⟨g, F, A, rfl, _, _, _, hb⟩
      have B := Lib.hid (below_next B.out hb)
      clear hb
      go_wp2_with fail
      refine (r13check_any a l0 cap S _ (RS.out.below B.out) true ⟨fun _ => HT.out, fun _ => rfl⟩).mono ?_
      rintro e w7 ⟨rfl, hb⟩
      have B := Lib.hid (below_next B.out hb)
      clear hb
      have K8 := Lib.hid (Blk.new w7 26 #[.int .i64 1, .int .i64 2])
      have B := Lib.hid (below_next B.out (wbox w7 (.cells #[.int .i64 1, .int .i64 2] 26)))
      obtain ⟨w8, hw8⟩ : ∃ w8, w7.alloc (.cells #[.int .i64 1, .int .i64 2] 26) = w8 := ⟨_, rfl⟩
      obtain ⟨g8, hg8⟩ : ∃ g, w7.heap.size = g := ⟨_, rfl⟩
      rw [hw8] at B K8
      rw [hg8] at K8
      have y0 := K8.out.cell 0
      have y1 := K8.out.cell 1
      simp at y0 y1
      go_wp2_with fail
      try rw [hw8]
      try rw [hg8]
      clear hw8 hg8
      refine (qHeld_nil 0 _).mono ?_
      intro e wn hq
      obtain ⟨an, ln, cn, ad, ld, cd, d, rfl, hr, hl0, hb⟩ := nil_told13 hq
      have hl1 : ¬ (ld : Int) = 0 := by omega
      have hl2 : decide (ld = 0) = false := decide_eq_false hl0
      have hl3 : decide ((ld : Int) = 0) = false := decide_eq_false hl1
      have hl4 : ((ld : Int) == 0) = false := by simp; omega
      have hl5 : (ld == 0) = false := by simp; omega
      have B := Lib.hid (below_next B.out hb)
      have K8 := Lib.hid (K8.out.below hb)
      clear hb hq hr y0 y1
      have y0 := K8.out.cell 0
      have y1 := K8.out.cell 1
      simp at y0 y1
      go_wp2_with fail
      refine (awake13_any _).mono ?_
      rintro e wn ⟨rfl, hb⟩
      have B := Lib.hid (below_next B.out hb)
      have K8 := Lib.hid (K8.out.below hb)
      clear hb
      clear y0 y1
      have y0 := K8.out.cell 0
      have y1 := K8.out.cell 1
      simp at y0 y1
      go_wp2_with fail
      refine (qcheckS_any a l0 cap S _ (RS.out.below B.out) true ⟨fun _ => HT.out, fun _ => rfl⟩).mono ?_
      rintro e wn ⟨rfl, hb⟩
      have B := Lib.hid (below_next B.out hb)
      have K8 := Lib.hid (K8.out.below hb)
      clear hb
      clear y0 y1
      have y0 := K8.out.cell 0
      have y1 := K8.out.cell 1
      simp at y0 y1
      go_wp2_with fail
      refine (qJoin_nil 1 (-1) 1 2 _).mono ?_
      rintro e wn ⟨rfl, hb⟩
      have B := Lib.hid (below_next B.out hb)
      have K8 := Lib.hid (K8.out.below hb)
      clear hb
      clear y0 y1
      have y0 := K8.out.cell 0
      have y1 := K8.out.cell 1
      simp at y0 y1
      go_wp2_with fail
      refine (qAsk_nil 1 1 2 _).mono ?_
      rintro e wn ⟨rfl, hb⟩
      have B := Lib.hid (below_next B.out hb)
      have K8 := Lib.hid (K8.out.below hb)
      clear hb
      clear y0 y1
      have y0 := K8.out.cell 0
      have y1 := K8.out.cell 1
      simp at y0 y1
      go_wp2_with fail
      refine (qSettle_nil 1 _).mono ?_
      rintro e wn ⟨rfl, hb⟩
      have B := Lib.hid (below_next B.out hb)
      have K8 := Lib.hid (K8.out.below hb)
      clear hb
      clear y0 y1
      have y0 := K8.out.cell 0
      have y1 := K8.out.cell 1
      simp at y0 y1
      go_wp2_with fail
      refine (qFree_nil 1 _).mono ?_
      rintro e wn ⟨rfl, hb⟩
      have B := Lib.hid (below_next B.out hb)
      have K8 := Lib.hid (K8.out.below hb)
      clear hb
      clear y0 y1
      have y0 := K8.out.cell 0
      have y1 := K8.out.cell 1
      simp at y0 y1
      go_wp2_with fail
      refine (qserver_nil 1 _).mono ?_
      rintro e wn ⟨rfl, rfl⟩
      go_wp2_with fail
      refine (qPath_nil (-1) _).mono ?_
      rintro e wn ⟨rfl, rfl⟩
      go_wp2_with fail
      refine (qHeld_nil (-1) _).mono ?_
      intro e wn hq
      obtain ⟨an, ln, cn, ad, ld, cd, d, rfl, hr, hl0, hb⟩ := nil_told13 hq
      have RN := Lib.hid hr
      clear hr hq hl0
      have B := Lib.hid (below_next B.out hb)
      have K8 := Lib.hid (K8.out.below hb)
      clear hb
      clear y0 y1
      have y0 := K8.out.cell 0
      have y1 := K8.out.cell 1
      simp at y0 y1
      go_wp2_with fail
      refine (one13_any 0 1 _ (by omega) (by omega) (by omega) (by omega)).mono ?_
      rintro e wn ⟨v1, rfl, hr, hb⟩
      have R1_ := Lib.hid hr
      have RN := Lib.hid (RN.out.below hb)
      clear hr
      have B := Lib.hid (below_next B.out hb)
      have K8 := Lib.hid (K8.out.below hb)
      clear hb
      clear y0 y1
      have y0 := K8.out.cell 0
      have y1 := K8.out.cell 1
      simp at y0 y1
      go_wp2_with fail
      refine (rcmp_any _ _ 0 d 0 1 0 _ 2 1 _ RN.out R1_.out (by omega)).mono ?_
      rintro e wn ⟨rfl, hb⟩
      rw [show cmpI (0 * 1) (0 * d) = 0 by unfold cmpI; rw [if_neg (by omega), if_neg (by omega)]]
      have B := Lib.hid (below_next B.out hb)
      have K8 := Lib.hid (K8.out.below hb)
      clear hb
      clear y0 y1
      have y0 := K8.out.cell 0
      have y1 := K8.out.cell 1
      simp at y0 y1
      go_wp2
      go_ret
      exact ⟨rfl, below_next BW.out B.out⟩
    · have HT := Lib.hid hT
      clear hT
      refine (qNew_noS v n 3 1 _ a l0 cap S w2 V.out (by omega) (RS.out.below B.out) HT.out).mono ?_
      rintro e w6 ⟨rfl, hb⟩
      have B := Lib.hid (below_next B.out hb)
      clear hb
      go_wp2_with fail
      refine (r13check_any a l0 cap S _ (RS.out.below B.out) false ⟨(fun h => by cases h), fun h => absurd h HT.out⟩).mono ?_
      rintro e w7 ⟨rfl, hb⟩
      have B := Lib.hid (below_next B.out hb)
      clear hb
      have K8 := Lib.hid (Blk.new w7 26 #[.int .i64 1, .int .i64 2])
      have B := Lib.hid (below_next B.out (wbox w7 (.cells #[.int .i64 1, .int .i64 2] 26)))
      obtain ⟨w8, hw8⟩ : ∃ w8, w7.alloc (.cells #[.int .i64 1, .int .i64 2] 26) = w8 := ⟨_, rfl⟩
      obtain ⟨g8, hg8⟩ : ∃ g, w7.heap.size = g := ⟨_, rfl⟩
      rw [hw8] at B K8
      rw [hg8] at K8
      have y0 := K8.out.cell 0
      have y1 := K8.out.cell 1
      simp at y0 y1
      go_wp2_with fail
      try rw [hw8]
      try rw [hg8]
      clear hw8 hg8
      refine (qHeld_nil 0 _).mono ?_
      intro e wn hq
      obtain ⟨an, ln, cn, ad, ld, cd, d, rfl, hr, hl0, hb⟩ := nil_told13 hq
      have hl1 : ¬ (ld : Int) = 0 := by omega
      have hl2 : decide (ld = 0) = false := decide_eq_false hl0
      have hl3 : decide ((ld : Int) = 0) = false := decide_eq_false hl1
      have hl4 : ((ld : Int) == 0) = false := by simp; omega
      have hl5 : (ld == 0) = false := by simp; omega
      have B := Lib.hid (below_next B.out hb)
      have K8 := Lib.hid (K8.out.below hb)
      clear hb hq hr y0 y1
      have y0 := K8.out.cell 0
      have y1 := K8.out.cell 1
      simp at y0 y1
      go_wp2_with fail
      refine (awake13_any _).mono ?_
      rintro e wn ⟨rfl, hb⟩
      have B := Lib.hid (below_next B.out hb)
      have K8 := Lib.hid (K8.out.below hb)
      clear hb
      clear y0 y1
      have y0 := K8.out.cell 0
      have y1 := K8.out.cell 1
      simp at y0 y1
      go_wp2_with fail
      refine (qcheckS_any a l0 cap S _ (RS.out.below B.out) false ⟨(fun h => by cases h), fun h => absurd h HT.out⟩).mono ?_
      rintro e wn ⟨rfl, hb⟩
      have B := Lib.hid (below_next B.out hb)
      have K8 := Lib.hid (K8.out.below hb)
      clear hb
      clear y0 y1
      have y0 := K8.out.cell 0
      have y1 := K8.out.cell 1
      simp at y0 y1
      go_wp2_with fail
      refine (qJoin_nil 1 (-1) 1 2 _).mono ?_
      rintro e wn ⟨rfl, hb⟩
      have B := Lib.hid (below_next B.out hb)
      have K8 := Lib.hid (K8.out.below hb)
      clear hb
      clear y0 y1
      have y0 := K8.out.cell 0
      have y1 := K8.out.cell 1
      simp at y0 y1
      go_wp2_with fail
      refine (qAsk_nil 1 1 2 _).mono ?_
      rintro e wn ⟨rfl, hb⟩
      have B := Lib.hid (below_next B.out hb)
      have K8 := Lib.hid (K8.out.below hb)
      clear hb
      clear y0 y1
      have y0 := K8.out.cell 0
      have y1 := K8.out.cell 1
      simp at y0 y1
      go_wp2_with fail
      refine (qSettle_nil 1 _).mono ?_
      rintro e wn ⟨rfl, hb⟩
      have B := Lib.hid (below_next B.out hb)
      have K8 := Lib.hid (K8.out.below hb)
      clear hb
      clear y0 y1
      have y0 := K8.out.cell 0
      have y1 := K8.out.cell 1
      simp at y0 y1
      go_wp2_with fail
      refine (qFree_nil 1 _).mono ?_
      rintro e wn ⟨rfl, hb⟩
      have B := Lib.hid (below_next B.out hb)
      have K8 := Lib.hid (K8.out.below hb)
      clear hb
      clear y0 y1
      have y0 := K8.out.cell 0
      have y1 := K8.out.cell 1
      simp at y0 y1
      go_wp2_with fail
      refine (qserver_nil 1 _).mono ?_
      rintro e wn ⟨rfl, rfl⟩
      go_wp2_with fail
      refine (qPath_nil (-1) _).mono ?_
      rintro e wn ⟨rfl, rfl⟩
      go_wp2_with fail
      refine (qHeld_nil (-1) _).mono ?_
      intro e wn hq
      obtain ⟨an, ln, cn, ad, ld, cd, d, rfl, hr, hl0, hb⟩ := nil_told13 hq
      have RN := Lib.hid hr
      clear hr hq hl0
      have B := Lib.hid (below_next B.out hb)
      have K8 := Lib.hid (K8.out.below hb)
      clear hb
      clear y0 y1
      have y0 := K8.out.cell 0
      have y1 := K8.out.cell 1
      simp at y0 y1
      go_wp2_with fail
      refine (one13_any 0 1 _ (by omega) (by omega) (by omega) (by omega)).mono ?_
      rintro e wn ⟨v1, rfl, hr, hb⟩
      have R1_ := Lib.hid hr
      have RN := Lib.hid (RN.out.below hb)
      clear hr
      have B := Lib.hid (below_next B.out hb)
      have K8 := Lib.hid (K8.out.below hb)
      clear hb
      clear y0 y1
      have y0 := K8.out.cell 0
      have y1 := K8.out.cell 1
      simp at y0 y1
      go_wp2_with fail
      refine (rcmp_any _ _ 0 d 0 1 0 _ 2 1 _ RN.out R1_.out (by omega)).mono ?_
      rintro e wn ⟨rfl, hb⟩
      rw [show cmpI (0 * 1) (0 * d) = 0 by unfold cmpI; rw [if_neg (by omega), if_neg (by omega)]]
      have B := Lib.hid (below_next B.out hb)
      have K8 := Lib.hid (K8.out.below hb)
      clear hb
      clear y0 y1
      have y0 := K8.out.cell 0
      have y1 := K8.out.cell 1
      simp at y0 y1
      go_wp2
      go_ret
      exact ⟨rfl, below_next BW.out B.out⟩
end Go.Proofs.Ytbonilmlfelmpaa
