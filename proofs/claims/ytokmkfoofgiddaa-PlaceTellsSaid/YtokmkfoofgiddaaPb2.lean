/-
  Package place's Least; the laws' few, awake and tells: contracts.
-/
import Derived.Test.YtokmkfoofgiddaaPa2
import Derived.Test.YtokmkfoofgiddaaPa9
import Derived.Test.YtokmkfoofgiddaaPb1
namespace Go.Proofs.Ytokmkfoofgiddaa
open Go.RowKit

theorem row_unfold {w : World} {a : Option Addr} {len cap : Nat} {xs : List Int} (h : Row .i64 w a len cap xs) : Hid (Row .i64 w a len cap xs) := Lib.hid h
theorem pleast_any (a : Option Addr) (len cap : Nat) (l : List Rn) (m : Int) (w : World) (h : RowR w a len cap l) :
    Calls Try.prog 17 #[.slice a len cap, .int .i64 m] w fun e w' => e = .returned (.int .i64 (movesR l (asgL l m))) ∧ Below w.heap.size w w' := by
  have H := Lib.hid h
  have LN := Lib.hid h.len
  clear h
  go_enter Try.func17, Try.ntmps17
  go_wp2_with fail
  refine (passign_any a len cap l m w H.out).mono ?_
  rintro e w1 ⟨ao, lo, co, rfl, hr, hb⟩
  have R := Lib.hid hr
  have B := Lib.hid hb
  have H1 := Lib.hid (H.out.below hb)
  clear hr hb
  cases hmb : mayB l m with
  | false =>
    have VL := Lib.hid (show asgL l m = [] by unfold asgL; rw [hmb]; rfl)
    have VE := Lib.hid (show asgE l m = 1 by unfold asgE; rw [hmb]; rfl)
    have V := Lib.hid (show movesR l (asgL l m) = 0 by rw [VL.out]; cases l <;> rfl)
    clear hmb
    rw [VE.out]
    go_wp2
    go_ret
    exact ⟨by rw [V.out]; rfl, B.out⟩
  | true =>
    have VE := Lib.hid (show asgE l m = 0 by unfold asgE; rw [hmb]; rfl)
    have l1 : len ≤ 1024 := by have h1 := (mayB_true.mp hmb); have h2 := h1.few; have h3 := h1.m2; rw [LN.out] at h2; omega
    clear hmb
    rw [VE.out]
    go_wp2_with fail
    refine (pmoves_any a len cap l ao lo co (asgL l m) w1 H1.out R.out l1).mono ?_
    rintro e w2 ⟨rfl, hb⟩
    have B2 := Lib.hid (below_next B.out hb)
    clear hb
    go_wp2
    go_ret
    exact ⟨rfl, B2.out⟩
theorem few15_any (a : Option Addr) (len cap : Nat) (l : List Rn) (w : World) (h : RowR w a len cap l) :
    Calls Try.prog 9 #[.slice a len cap] w fun e w' => ∃ n, e = .returned (.slice a n cap) ∧ n ≤ 12 ∧ RowR w a n cap (l.take n) ∧ w = w' := by
  have H := Lib.hid h
  have LN := Lib.hid h.len
  have ⟨c1, c2⟩ := h.cap_le
  clear h
  by_cases q : 12 < len
  · have t1 : decide (12 < len) = true := by simp; omega
    have t2 : decide ((12 : Int) < (len : Int)) = true := by simp; omega
    have d1 : (12 : Int) ≤ (cap : Int) := by omega
    obtain ⟨r, hr, -⟩ := getR (l := l) (i := 0) (by rw [LN.out]; omega)
    obtain ⟨bo, oo, rfl, _⟩ := H.out.at hr
    have n0 : ¬ cap = 0 := by omega
    clear hr
    go_enter Try.func9, Try.ntmps9
    go_wp2
    go_ret
    exact ⟨12, rfl, by omega, H.out.take (by omega), rfl⟩
  · have t1 : decide (12 < len) = false := by simp; omega
    have t2 : decide ((12 : Int) < (len : Int)) = false := by simp; omega
    go_enter Try.func9, Try.ntmps9
    go_wp2
    go_ret
    exact ⟨len, rfl, by omega, by rw [List.take_of_length_le (by rw [LN.out]; omega)]; exact H.out, rfl⟩
set_option maxHeartbeats 2000000 in
theorem tells15_any (a : Option Addr) (len cap : Nat) (l : List Rn) (b : Option Addr) (lb cb : Nat) (cs : List Int) (m : Int) (w : World) (h : RowR w a len cap l) (g : Row .i64 w b lb cb cs) (hl : len ≤ 1024) :
    Calls Try.prog 11 #[.slice a len cap, .slice b lb cb, .int .i64 m] w fun e w' => e = .returned (.bool true) ∧ Below w.heap.size w w' := by
  have H := Lib.hid h
  have G := Lib.hid g
  clear h g
  go_enter Try.func11, Try.ntmps11
  go_wp2_with fail
  refine (passign_any a len cap l m w H.out).mono ?_
  rintro e w1 ⟨ax, lx, cx, rfl, hr, hb⟩
  have X := Lib.hid hr
  have B := Lib.hid hb
  clear hr hb
  go_wp2_with fail
  refine (r15assign_any a len cap l m w1 (H.out.below B.out)).mono ?_
  rintro e w2 ⟨ay, ly, cy, rfl, hr, hb⟩
  have X := Lib.hid (X.out.below hb)
  have Y := Lib.hid hr
  have B := Lib.hid (below_next B.out hb)
  clear hr hb
  go_wp2_with fail
  refine (r15same_any ax lx cx _ ay ly cy _ w2 X.out Y.out true (by simp)).mono ?_
  rintro e w3 ⟨rfl, hb⟩
  have Y := Lib.hid (Y.out.below hb)
  have B := Lib.hid (below_next B.out hb)
  clear hb
  obtain ⟨er, her⟩ : ∃ er, asgE l m = er := ⟨_, rfl⟩
  rw [her]
  clear her
  go_wp2_with fail
  refine (pcheck_any a len cap l m w3 (H.out.below B.out)).mono ?_
  rintro e w4 ⟨rfl, hb⟩
  have Y := Lib.hid (Y.out.below hb)
  have B := Lib.hid (below_next B.out hb)
  clear hb
  go_wp2_with fail
  refine (r15check_any a len cap l m w4 (H.out.below B.out)).mono ?_
  rintro e w5 ⟨rfl, hb⟩
  have Y := Lib.hid (Y.out.below hb)
  have B := Lib.hid (below_next B.out hb)
  clear hb
  go_wp2_with fail
  refine (pholds_any a len cap l b lb cb cs m w5 (H.out.below B.out) (G.out.below B.out)).mono ?_
  rintro e w6 ⟨rfl, hb⟩
  have Y := Lib.hid (Y.out.below hb)
  have B := Lib.hid (below_next B.out hb)
  clear hb
  go_wp2_with fail
  refine (r15holds_any a len cap l b lb cb cs m w6 (H.out.below B.out) (G.out.below B.out)).mono ?_
  rintro e w7 ⟨rfl, hb⟩
  have Y := Lib.hid (Y.out.below hb)
  have B := Lib.hid (below_next B.out hb)
  clear hb
  go_wp2_with fail
  refine (pmoves_any a len cap l b lb cb cs w7 (H.out.below B.out) (G.out.below B.out) hl).mono ?_
  rintro e w8 ⟨rfl, hb⟩
  have Y := Lib.hid (Y.out.below hb)
  have B := Lib.hid (below_next B.out hb)
  clear hb
  go_wp2_with fail
  refine (r15moves_any a len cap l b lb cb cs w8 (H.out.below B.out) (G.out.below B.out) hl).mono ?_
  rintro e w9 ⟨rfl, hb⟩
  have Y := Lib.hid (Y.out.below hb)
  have B := Lib.hid (below_next B.out hb)
  clear hb
  go_wp2_with fail
  refine (pleast_any a len cap l m w9 (H.out.below B.out)).mono ?_
  rintro e w10 ⟨rfl, hb⟩
  have Y := Lib.hid (Y.out.below hb)
  have B := Lib.hid (below_next B.out hb)
  clear hb
  go_wp2_with fail
  refine (r15moves_any a len cap l ay ly cy _ w10 (H.out.below B.out) Y.out hl).mono ?_
  rintro e w11 ⟨rfl, hb⟩
  have B := Lib.hid (below_next B.out hb)
  clear hb
  go_wp2
  go_ret
  exact ⟨rfl, B.out⟩
end Go.Proofs.Ytokmkfoofgiddaa
