/-
  The walk of HoldJust, for a package hold that is as P12.1 to P12.3 say.
-/
import Derived.Test.YtphlkpkbdnddlaaHm1
namespace Go.Proofs.Ytphlkpkbdnddlaa
open Go.RowKit

/-- shares of one period: so many quanta in all, of holders below i -/
structure Just (per : Int) (hs : List Hd) (S : Int) (i : Int) : Prop where
  each : ∀ x ∈ hs, GoodH x
  sum : (sumH hs).1 * per = S * (sumH hs).2
  ids : ∀ x ∈ hs, x.id < i
  s0 : 0 ≤ S
theorem Just.nil (per : Int) : Just per [] 0 0 := ⟨(fun _ h => by cases h), by show (0 : Int) * per = 0 * 1; omega, (fun _ h => by cases h), by omega⟩
theorem Just.on {per S i : Int} {hs : List Hd} (h : Just per hs S i) : Just per hs S (i + 1) := ⟨h.each, h.sum, fun x hx => by have := h.ids x hx; omega, h.s0⟩
theorem Just.more {per S i e : Int} {hs : List Hd} (h : Just per hs S i) (hM : MayBe e per) : Just per (hs ++ [newH i e per]) (S + e) (i + 1) := by
  refine ⟨fun x hx => ?_, ?_, fun x hx => ?_, by have := h.s0; have := hM.1; omega⟩
  · rcases List.mem_append.mp hx with q | q
    · exact h.each x q
    · simp at q; subst q; exact ⟨hM, fun e => by cases e⟩
  · rw [sumH_snoc, holdsV_new]
    have := h.sum
    simp only
    grind
  · rcases List.mem_append.mp hx with q | q
    · have := h.ids x q; omega
    · simp at q; subst q; show i < i + 1; omega
theorem Just.fit {per S i e c : Int} {hs : List Hd} (h : Just per hs S i) : (fitH c 1 (hs ++ [newH i e per]) = true ↔ S + e ≤ c * per) := by
  rw [fit_le, sumH_snoc, holdsV_new]
  simp only
  have hd := (sumH_frac h.each).2
  have e1 : ((sumH hs).1 * per + e * (sumH hs).2) * 1 = (S + e) * (sumH hs).2 := by have := h.sum; grind
  have e2 : c * ((sumH hs).2 * per) = (c * per) * (sumH hs).2 := by grind
  rw [e1, e2]
  exact ⟨fun q => Int.le_of_mul_le_mul_right q hd, fun q => Int.mul_le_mul_of_nonneg_right q (by omega)⟩
theorem Just.join {per S i e c : Int} {hs : List Hd} (h : Just per hs S i) (hM : MayBe e per) : joinV c 1 hs i e per = if S + e ≤ c * per then (0, hs ++ [newH i e per]) else (18, hs) := by
  unfold joinV
  rw [mayB_yes hM, if_neg (by simp), findH_of (fun x hx => by have := h.ids x hx; omega)]
  show (if fitH c 1 (hs ++ [newH i e per]) = true then ((0 : Int), hs ++ [newH i e per]) else (18, hs)) = _
  by_cases q : S + e ≤ c * per
  · rw [if_pos q, if_pos (h.fit.mpr q)]
  · rw [if_neg q, if_neg (fun k => q (h.fit.mp k))]
section
variable {Hp : World → Nat → (Nat → Prop) → (Nat → Prop) → Int → Int → List Hd → Prop}
set_option maxRecDepth 20000 in
set_option maxHeartbeats 4000000 in
theorem hjust_walk (ok : HoldOk Hp) (p mm : Int) (ad : Option Addr) (len cap : Nat) (zs : List Int) (w : World) (hL : Row .i64 w ad len cap zs) : Calls Try.prog 5 #[.int .i64 p, .int .i64 mm, .slice ad len cap] w fun e w' => e = .returned (.bool true) ∧ Below w.heap.size w w' := by
  have OK := Lib.hid ok
  have ZL := Lib.hid hL
  have ⟨lc1, lc2⟩ := hL.cap_le
  clear ok hL
  have p1 := tmod_bd p 64 (by omega)
  have p2 := rest_bd p 64 (by omega)
  have pw : IntKind.i64.wrap (p.tmod 64 + 64) = p.tmod 64 + 64 := IntWalk.i64_in _ (by omega)
  obtain ⟨pr, hpr⟩ : ∃ k, (p.tmod 64 + 64).tmod 64 = k := ⟨_, rfl⟩
  rw [hpr] at p2
  obtain ⟨per, hper⟩ : ∃ k, 1 + pr = k := ⟨_, rfl⟩
  have pw2 : IntKind.i64.wrap (1 + pr) = per := by rw [IntWalk.i64_in _ (by omega)]; exact hper
  have m1 := tmod_bd mm 4 (by omega)
  have m2 := rest_bd mm 4 (by omega)
  have mw : IntKind.i64.wrap (mm.tmod 4 + 4) = mm.tmod 4 + 4 := IntWalk.i64_in _ (by omega)
  obtain ⟨mr, hmr⟩ : ∃ k, (mm.tmod 4 + 4).tmod 4 = k := ⟨_, rfl⟩
  rw [hmr] at m2
  obtain ⟨c, hc⟩ : ∃ k, 1 + mr = k := ⟨_, rfl⟩
  have mw2 : IntKind.i64.wrap (1 + mr) = c := by rw [IntWalk.i64_in _ (by omega)]; exact hc
  have per0 : 1 ≤ per := by omega
  have per1 : per ≤ 64 := by omega
  have pnz : ¬ per = 0 := by omega
  have c0 : 1 ≤ c := by omega
  have c1 : c ≤ 4 := by omega
  have cu : IntKind.u64.wrap c = c := IntWalk.u64_in _ (by omega)
  have pu : IntKind.u64.wrap per = per := IntWalk.u64_in _ (by omega)
  obtain ⟨q, hq⟩ : ∃ q, c * per = q := ⟨_, rfl⟩
  have qb : 1 ≤ q ∧ q ≤ 256 := by
    have h1 := Int.mul_le_mul c1 per1 (by omega) (by omega)
    have h2 := Int.mul_le_mul c0 per0 (by omega) (by omega)
    omega
  have qw : IntKind.i64.wrap (c * per) = q := by rw [IntWalk.i64_in _ (by omega)]; exact hq
  have HQ := Lib.hid hq
  have PB := Lib.hid (show 1 ≤ per ∧ per ≤ 64 from ⟨per0, per1⟩)
  have CB := Lib.hid (show 1 ≤ c ∧ c ≤ 4 from ⟨c0, c1⟩)
  have QB := Lib.hid qb
  clear hper hc p1 p2 m1 m2 c0 c1 per0 per1 hq qb
  go_enter Try.func5, Try.ntmps5
  go_wp2_with fail
  refine (awake12_any OK.out _).mono ?_
  rintro e w1 ⟨rfl, hb⟩
  have B1 := Lib.hid hb
  clear hb
  go_wp2_with fail
  refine (one_any c 1 _ (by have := CB.out; omega) (by have := CB.out; omega) (by omega) (by omega)).mono ?_
  rintro e w2 ⟨v, rfl, hr, hb⟩
  have B2 := Lib.hid (below_next B1.out hb)
  have R2 := Lib.hid hr
  clear hb hr B1
  go_wp2_with fail
  refine (hnew OK.out v c 1 1 _ _ R2.out (by omega) (by omega)).mono ?_
  rintro e w3 ⟨g, rfl, hm⟩
  have M := Lib.hid hm
  clear hm R2 pw pw2 mw mw2 hpr hmr
  go_wp2
  go_loopw [11, 12] (fun v u wr => ∃ (i : Nat) (S : Int) (hs : List Hd), u = .int .i64 (i : Int) ∧ v = .int .i64 S ∧ i ≤ len ∧ i ≤ 20 ∧ S ≤ q ∧ hs.length ≤ i ∧ Just per hs S (i : Int) ∧ Mine12 Hp w2 G0 g c 1 hs wr) (fun _ u _ => len - (intOf u).toNat)
  case atStart => exact ⟨0, 0, [], rfl, rfl, by omega, by omega, by have := QB.out; omega, by simp, Just.nil per, M.out⟩
  case round =>
    obtain ⟨i, S, hs, rfl, rfl, il, i20, sq, hl, hj, hm⟩ := hrel
    clear M
    have M := Lib.hid hm
    have J := Lib.hid hj
    have HLn := Lib.hid hl
    have SQ := Lib.hid sq
    have s0 := hj.s0
    clear hm hj hl
    by_cases d1 : i < len ∧ i < 20
    · have b1 : decide (i < len) = true := by simp; omega
      have b2 : decide ((i : Int) < (len : Int)) = true := by simp; omega
      have b3 : decide ((i : Int) < 20) = true := by simp; omega
      have b3n : decide (i < 20) = true := by simp; omega
      obtain ⟨bl, ol, rfl, hz⟩ := (ZL.out.below (below_next B2.out M.out.below)).cell (i := i) d1.1
      obtain ⟨z, hzz⟩ : ∃ z, zs.getD i 0 = z := ⟨_, rfl⟩
      rw [hzz] at hz
      have i1 : (i : Int) < (len : Int) := by omega
      have i2 : 0 ≤ (i : Int) := by omega
      have a1 := tmod_bd z per (by have := PB.out; omega)
      have a2 := rest_bd z per (by have := PB.out; omega)
      have zw : IntKind.i64.wrap (z.tmod per + per) = z.tmod per + per := IntWalk.i64_in _ (by have := PB.out; omega)
      obtain ⟨e0, he0⟩ : ∃ k, 1 + (z.tmod per + per).tmod per = k := ⟨_, rfl⟩
      have zw2 : IntKind.i64.wrap (1 + (z.tmod per + per).tmod per) = e0 := by rw [IntWalk.i64_in _ (by have := PB.out; omega)]; exact he0
      have EB := Lib.hid (show 1 ≤ e0 ∧ e0 ≤ per by omega)
      have MAY := Lib.hid (show MayBe e0 per by have := EB.out; have := PB.out; unfold MayBe; omega)
      obtain ⟨t, ht⟩ : ∃ t, S + e0 = t := ⟨_, rfl⟩
      have tw : IntKind.i64.wrap (S + e0) = t := by rw [IntWalk.i64_in _ (by have := EB.out; have := PB.out; have := QB.out; omega)]; exact ht
      have TT := Lib.hid ht
      have JV := Lib.hid (J.out.join (c := c) MAY.out)
      rw [ht, HQ.out] at JV
      have d2 : i < 20 := d1.2
      have d3 : i < len := d1.1
      clear d1 a1 a2 he0 hzz ht
      by_cases fit : t ≤ q
      · have t1 : decide (t ≤ q) = true := decide_eq_true fit
        have J1 := Lib.hid JV.out
        rw [if_pos fit] at J1
        have JM := Lib.hid (J.out.more MAY.out)
        rw [TT.out] at JM
        have FT := Lib.hid fit
        clear fit
        go_wp2_with fail
        refine (hjoin OK.out g hs i e0 per M.out (by have := HLn.out; omega) _ _ J1.out).mono ?_
        rintro e w4 ⟨rfl, hm, _, _⟩
        have M4 := Lib.hid hm
        clear hm
        go_wp2
        go_roundw
        case rel => exact ⟨i + 1, t, _, by go_num, by trivial, by omega, by omega, FT.out, by have := HLn.out; simp; omega, by have := JM.out; simpa using this, M4.out⟩
        case measure => simp [intOf]; omega
      · have t1 : decide (t ≤ q) = false := decide_eq_false fit
        have J1 := Lib.hid JV.out
        rw [if_neg fit] at J1
        clear fit
        go_wp2_with fail
        refine (hjoin OK.out g hs i e0 per M.out (by have := HLn.out; omega) _ _ J1.out).mono ?_
        rintro e w4 ⟨rfl, hm, _, _⟩
        have M4 := Lib.hid hm
        clear hm
        go_wp2
        go_roundw
        case rel => exact ⟨i + 1, S, hs, by go_num, by trivial, by omega, by omega, SQ.out, by have := HLn.out; omega, by have := J.out.on; simpa using this, M4.out⟩
        case measure => simp [intOf]; omega
    · have hend : (decide (i < len) = false ∧ decide ((i : Int) < (len : Int)) = false) ∨ (decide (i < len) = true ∧ decide ((i : Int) < (len : Int)) = true ∧ decide (i < 20) = false ∧ decide ((i : Int) < 20) = false) := by
        rcases Nat.lt_or_ge i len with q | q
        · exact .inr ⟨by simp; omega, by simp; omega, by simp; omega, by simp; omega⟩
        · exact .inl ⟨by simp; omega, by simp; omega⟩
      have su : IntKind.u64.wrap S = S := IntWalk.u64_in _ (by have := QB.out; have := SQ.out; omega)
      have SB := Lib.hid s0
      clear d1 s0
      rcases hend with ⟨b1, b2⟩ | ⟨b1, b2, b3, b4⟩
      all_goals
        go_wp2_with fail
        refine (hheld OK.out g hs M.out (by have := HLn.out; omega)).mono ?_
        intro e w6 hg
        obtain ⟨v6, n6, d6, rfl, hr, hlo, he, hb⟩ := held_tight hg (M.out.good OK.out).each (by have := HLn.out; omega)
        have R6 := Lib.hid hr
        have Z6 := Lib.hid (show cmpI (n6 * per) (S * d6) = 0 by
          have h1 := J.out.sum
          have h2 := (sumH_frac J.out.each).2
          have : n6 * per = S * d6 := by
            refine Int.eq_of_mul_eq_mul_right (show (sumH hs).2 ≠ 0 by omega) ?_
            grind
          unfold cmpI
          rw [if_neg (by omega), if_neg (by omega)])
        have B6 := Lib.hid (below_next B2.out (below_next M.out.below hb))
        clear hg hr hlo he hb b1 b2
        go_wp2_with fail
        refine (one_any S per _ SB.out (by have := QB.out; have := SQ.out; omega) (by have := PB.out; omega) (by have := PB.out; omega)).mono ?_
        rintro e w7 ⟨v7, rfl, hr, hb⟩
        have R7 := Lib.hid hr
        have R6 := Lib.hid (R6.out.below hb)
        have B7 := Lib.hid (below_next B6.out hb)
        clear hr hb
        go_wp2_with fail
        refine (rcmp_any _ _ n6 d6 S per 0 _ 14 1 _ R6.out R7.out (by omega)).mono ?_
        rintro e w8 ⟨rfl, hb⟩
        rw [Z6.out]
        have B8 := Lib.hid (below_next B7.out hb)
        clear hb
        go_wp2
        go_ret
        exact ⟨rfl, B8.out⟩
end
end Go.Proofs.Ytphlkpkbdnddlaa
