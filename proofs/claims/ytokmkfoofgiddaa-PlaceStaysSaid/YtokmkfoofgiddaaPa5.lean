/-
  Which cores hold them, one after the other; the document's Holds (regattaref15): contract.
-/
import Derived.Test.YtokmkfoofgiddaaPa3
namespace Go.Proofs.Ytokmkfoofgiddaa
open Go.RowKit

/-! ### plain -/
/-- the first i cores hold the first i runners -/
structure OnTo (l : List Rn) (cs : List Int) (m : Int) (i : Nat) : Prop where
  each : ∀ c ∈ cs.take i, 0 ≤ c ∧ c < m
  one : (cs.take i).Nodup
  pin : ∀ (j : Nat) (r : Rn) (c : Int), j < i → l[j]? = some r → cs[j]? = some c → 0 ≤ r.pin → c = r.pin
structure OnFine (pre : List Int) (m : Int) (r : Rn) (c : Int) : Prop where
  rng : 0 ≤ c ∧ c < m
  nin : c ∉ pre
  pin : 0 ≤ r.pin → c = r.pin
theorem on_zero (l : List Rn) (cs : List Int) (m : Int) : OnTo l cs m 0 := ⟨by simp, by simp, fun j _ _ h => by omega⟩
theorem take_snoc {cs : List Int} {i : Nat} {c : Int} (h : cs[i]? = some c) : cs.take (i + 1) = cs.take i ++ [c] := by rw [List.take_add_one, h]; rfl
theorem on_step {l : List Rn} {cs : List Int} {m : Int} {i : Nat} {r : Rn} {c : Int} (hr : l[i]? = some r) (hc : cs[i]? = some c) : OnTo l cs m (i + 1) ↔ OnTo l cs m i ∧ OnFine (cs.take i) m r c := by
  have h := take_snoc hc
  constructor
  · rintro ⟨h1, h2, h3⟩
    rw [h] at h1 h2
    rw [List.nodup_append] at h2
    exact ⟨⟨fun x hx => h1 x (List.mem_append_left _ hx), h2.1, fun j r c hj => h3 j r c (by omega)⟩, h1 c (by simp), fun hm => h2.2.2 c hm c (by simp) rfl, h3 i r c (by omega) hr hc⟩
  · rintro ⟨⟨h1, h2, h3⟩, h4, h5, h6⟩
    refine ⟨fun x hx => ?_, ?_, fun j r' c' hj hr' hc' h0 => ?_⟩
    · rw [h] at hx
      rcases List.mem_append.mp hx with q | q
      · exact h1 x q
      · have : x = c := by simpa using q
        rw [this]; exact h4
    · rw [h, List.nodup_append]
      exact ⟨h2, by simp, fun x hx y hy e => by have : y = c := by simpa using hy
                                                rw [e, this] at hx; exact h5 hx⟩
    · by_cases q : j = i
      · subst q
        rw [hr] at hr'; rw [hc] at hc'
        cases hr'; cases hc'
        exact h6 h0
      · exact h3 j r' c' (by omega) hr' hc' h0
theorem on_le {l : List Rn} {cs : List Int} {m : Int} {i j : Nat} (h : OnTo l cs m j) (q : i ≤ j) : OnTo l cs m i := by
  have e : cs.take i = (cs.take j).take i := by rw [List.take_take]; congr 1; omega
  refine ⟨fun r hr => h.each r ?_, ?_, fun k r c hk => h.pin k r c (by omega)⟩
  · rw [e] at hr; exact List.mem_of_mem_take hr
  · rw [e]; exact h.one.sublist (List.take_sublist _ _)
theorem on_iff {l : List Rn} {cs : List Int} {m : Int} : OnR l cs m ↔ cs.length = l.length ∧ OnTo l cs m l.length := by
  constructor
  · rintro ⟨h1, h2, h3, h4⟩
    refine ⟨h1, ⟨by rw [← h1, List.take_length]; exact h2, by rw [← h1, List.take_length]; exact h3, fun j r c hj hr hc h0 => ?_⟩⟩
    refine h4 (r, c) ?_ h0
    obtain ⟨k1, e1⟩ := List.getElem?_eq_some_iff.mp hr
    obtain ⟨k2, e2⟩ := List.getElem?_eq_some_iff.mp hc
    have : (l.zip cs)[j]'(by simp; omega) = (r, c) := by rw [List.getElem_zip, e1, e2]
    rw [← this]
    exact List.getElem_mem _
  · rintro ⟨h1, h2, h3, h4⟩
    rw [← h1, List.take_length] at h2 h3
    refine ⟨h1, h2, h3, fun p hp h0 => ?_⟩
    obtain ⟨i, hi, e⟩ := List.getElem_of_mem hp
    have hi1 : i < l.length := by simp at hi; omega
    have hi2 : i < cs.length := by omega
    rw [List.getElem_zip] at e
    rw [← e] at h0 ⊢
    exact h4 i l[i] cs[i] hi1 (List.getElem?_eq_getElem hi1) (List.getElem?_eq_getElem hi2) h0
open Classical in
noncomputable def holdsB (l : List Rn) (cs : List Int) (m : Int) : Bool := decide (MayR l m ∧ OnR l cs m)
theorem holdsB_yes {l : List Rn} {cs : List Int} {m : Int} (h : mayB l m = true) (g : OnR l cs m) : holdsB l cs m = true := by unfold holdsB; simp [mayB_true.mp h, g]
theorem holdsB_no {l : List Rn} {cs : List Int} {m : Int} (h : ¬ OnR l cs m) : holdsB l cs m = false := by unfold holdsB; simp [h]
theorem holdsB_not {l : List Rn} {cs : List Int} {m : Int} (h : mayB l m = false) : holdsB l cs m = false := by
  unfold holdsB
  simp only [decide_eq_false_iff_not]
  rintro ⟨q, _⟩
  rw [mayB_yes q] at h
  cases h
theorem holds_not {l : List Rn} {cs : List Int} {m : Int} {i : Nat} {r : Rn} {c : Int} (hr : l[i]? = some r) (hc : cs[i]? = some c) (hn : ¬ OnFine (cs.take i) m r c) : holdsB l cs m = false :=
  holdsB_no fun q => hn ((on_step hr hc).mp (on_le (on_iff.mp q).2 (lt_of_get hr))).2

set_option maxRecDepth 20000 in
set_option maxHeartbeats 4000000 in
theorem r15holds_any (a : Option Addr) (len cap : Nat) (l : List Rn) (b : Option Addr) (lb cb : Nat) (cs : List Int) (m : Int) (w : World) (h : RowR w a len cap l) (g : Row .i64 w b lb cb cs) :
    Calls Try.prog 13 #[.slice a len cap, .slice b lb cb, .int .i64 m] w fun e w' => e = .returned (.bool (holdsB l cs m)) ∧ Below w.heap.size w w' := by
  have H := Lib.hid h
  have G := Lib.hid g
  have LN := Lib.hid h.len
  have LC := Lib.hid g.len
  have ⟨c1, c2⟩ := h.cap_le
  clear h g
  go_enter Try.func13, Try.ntmps13
  go_wp2_with fail
  refine (r15check_any a len cap l m w H.out).mono ?_
  rintro e w1 ⟨rfl, hb1⟩
  have B1 := Lib.hid hb1
  have H1 := Lib.hid (H.out.below hb1)
  have G1 := Lib.hid (G.out.below hb1)
  clear hb1
  cases hmb : mayB l m with
  | false =>
    have V := Lib.hid (holdsB_not (cs := cs) hmb)
    clear hmb
    go_wp2
    go_ret
    exact ⟨ret_b V.out.symm, B1.out⟩
  | true =>
    have MB := Lib.hid hmb
    clear hmb
    by_cases q : lb = len
    · subst q
      have b0 : ((lb : Int) != (lb : Int)) = false := by simp
      go_wp2
      go_loopw [8] (fun u wr => ∃ i : Nat, u = .int .i64 i ∧ i ≤ lb ∧ OnTo l cs m i ∧ Below w1.heap.size w1 wr) (fun u _ => lb - (intOf u).toNat)
      case atStart => exact ⟨0, rfl, by omega, on_zero _ _ _, Below.refl _ _⟩
      case round =>
        obtain ⟨i, rfl, i1, ht, hb⟩ := hrel
        have T := Lib.hid ht
        have B := Lib.hid hb
        clear ht hb
        by_cases go : i < lb
        · have b1 : decide ((i : Int) < (lb : Int)) = true := by simp; omega
          have b1' : decide (i < lb) = true := by simp; omega
          obtain ⟨r, hr, _⟩ := getR (l := l) (i := i) (by rw [LN.out]; exact go)
          obtain ⟨c, hc, hcd⟩ := getI (cs := cs) (i := i) (by rw [LC.out]; exact go)
          have NO := Lib.hid (fun (q : ¬ OnFine (cs.take i) m r c) => holds_not hr hc q)
          have ST := Lib.hid (fun (q : OnFine (cs.take i) m r c) => (on_step hr hc).mpr ⟨T.out, q⟩)
          obtain ⟨ba, oa, rfl, hat⟩ := H1.out.at hr
          obtain ⟨bb, ob, rfl, hcell⟩ := G1.out.cell go
          rw [hcd] at hcell
          have x1 := (hat.below B.out).c1
          have y := cell_on B.out hcell
          have HY := Lib.hid hcell
          have HC := Lib.hid hc
          have i3 : (i : Int) < (lb : Int) := by omega
          have i0 : 0 ≤ (i : Int) := by omega
          clear hr hc hat hcell hcd
          obtain ⟨id, pin, z⟩ := r
          replace x1 : wr.cell? ⟨ba, oa + i * 3 + 1, none⟩ = some (.int .i64 pin) := x1
          have EX := Lib.hid (fun (h : ¬ (0 ≤ c ∧ c < m ∧ (0 ≤ pin → c = pin))) => NO.out fun q => h ⟨q.rng.1, q.rng.2, q.pin⟩)
          by_cases p1 : c < 0
          · have b2 : decide (c < 0) = true := by simp; omega
            have V := Lib.hid (EX.out (by omega))
            go_upto_region 7 with fail
            go_quiet (fail)
            go_wp2
            go_ret
            exact ⟨ret_b V.out.symm, below_next B1.out (bdN B.out _)⟩
          · have b2 : decide (c < 0) = false := by simp; omega
            by_cases p2 : m ≤ c
            · have b3 : decide (m ≤ c) = true := by simp; omega
              have V := Lib.hid (EX.out (by omega))
              go_upto_region 7 with fail
              go_quiet (fail)
              go_wp2
              go_ret
              exact ⟨ret_b V.out.symm, below_next B1.out (bdN B.out _)⟩
            · have b3 : decide (m ≤ c) = false := by simp; omega
              by_cases p3 : 0 ≤ pin ∧ c ≠ pin
              · have b4 : decide (0 ≤ pin) = true := by simp; omega
                have b5 : (c != pin) = true := by simp [p3.2]
                have V := Lib.hid (EX.out (fun q => p3.2 (q.2.2 p3.1)))
                clear p3
                go_upto_region 7 with fail
                go_quiet (fail)
                go_wp2
                go_ret
                exact ⟨ret_b V.out.symm, below_next B1.out (bdN B.out _)⟩
              · have PF := Lib.hid (show 0 ≤ pin → c = pin from fun q => by
                  refine Classical.byContradiction fun e => p3 ⟨q, e⟩)
                have RG := Lib.hid (show 0 ≤ c ∧ c < m by omega)
                by_cases p4 : 0 ≤ pin
                · have b4 : decide (0 ≤ pin) = true := by simp; omega
                  have b5 : (c != pin) = false := by simp [PF.out p4]
                  clear p3 p4
                  go_upto_region 7 with fail
                  go_quiet (fail)
                  go_wp2
                  go_loopw [9] (fun u wx => ∃ k : Nat, u = .int .i64 k ∧ k ≤ i ∧ c ∉ cs.take k ∧ Below w1.heap.size w1 wx) (fun u _ => i - (intOf u).toNat)
                  case atStart => exact ⟨0, rfl, by omega, by simp, bdN B.out _⟩
                  case round =>
                    obtain ⟨k, rfl, k1, hk, hb⟩ := hrel
                    have K := Lib.hid hk
                    have BB := Lib.hid hb
                    clear hk hb x1 y
                    by_cases go2 : k < i
                    · have d1 : decide ((k : Int) < (i : Int)) = true := by simp; omega
                      have d1' : decide (k < i) = true := by simp; omega
                      obtain ⟨x, hx, hxd⟩ := getI (cs := cs) (i := k) (by rw [LC.out]; omega)
                      obtain ⟨b', o', e', hcell⟩ := G1.out.cell (i := k) (by omega)
                      cases e'
                      rw [hxd] at hcell
                      have x0 := cell_on BB.out hcell
                      have y := cell_on BB.out HY.out
                      have k3 : (k : Int) < (lb : Int) := by omega
                      have k0 : 0 ≤ (k : Int) := by omega
                      have HX := Lib.hid hx
                      clear hx hxd hcell
                      by_cases e1 : x = c
                      · have b9 : (x == c) = true := by simp [e1]
                        have V := Lib.hid (NO.out fun q => q.nin (List.mem_take_iff_getElem.mpr ⟨k, by have := lt_of_get HX.out; omega, by have h1 := HX.out; rw [List.getElem?_eq_getElem (lt_of_get h1)] at h1; rw [← e1]; simpa using h1⟩))
                        clear e1
                        go_upto_region 12 with fail
                        go_quiet (fail)
                        go_wp2
                        go_ret
                        exact ⟨ret_b V.out.symm, below_next B1.out (bdN BB.out _)⟩
                      · have b9 : (x == c) = false := by simp [e1]
                        have NX := Lib.hid (show c ∉ cs.take (k + 1) by
                          rw [take_snoc HX.out]
                          intro hm
                          rcases List.mem_append.mp hm with q | q
                          · exact K.out q
                          · exact e1 (show x = c from (by simpa using q : c = x).symm))
                        clear e1
                        go_upto_region 12 with fail
                        go_quiet (fail)
                        go_wp2
                        go_roundw
                        case rel => exact ⟨k + 1, by go_num, by omega, NX.out, bdN BB.out _⟩
                        case measure => simp [intOf]; omega
                    · have d1 : decide ((k : Int) < (i : Int)) = false := by simp; omega
                      have d1' : decide (k < i) = false := by simp; omega
                      have TN := Lib.hid (ST.out ⟨RG.out, by rw [show i = k by omega]; exact K.out, PF.out⟩)
                      go_wp2
                      go_roundw
                      case rel => exact ⟨i + 1, by go_num, by omega, TN.out, BB.out⟩
                      case measure => simp [intOf]; omega
                · have b4 : decide (0 ≤ pin) = false := by simp; omega
                  clear p3 p4
                  go_upto_region 7 with fail
                  go_quiet (fail)
                  go_wp2
                  go_loopw [9] (fun u wx => ∃ k : Nat, u = .int .i64 k ∧ k ≤ i ∧ c ∉ cs.take k ∧ Below w1.heap.size w1 wx) (fun u _ => i - (intOf u).toNat)
                  case atStart => exact ⟨0, rfl, by omega, by simp, bdN B.out _⟩
                  case round =>
                    obtain ⟨k, rfl, k1, hk, hb⟩ := hrel
                    have K := Lib.hid hk
                    have BB := Lib.hid hb
                    clear hk hb x1 y
                    by_cases go2 : k < i
                    · have d1 : decide ((k : Int) < (i : Int)) = true := by simp; omega
                      have d1' : decide (k < i) = true := by simp; omega
                      obtain ⟨x, hx, hxd⟩ := getI (cs := cs) (i := k) (by rw [LC.out]; omega)
                      obtain ⟨b', o', e', hcell⟩ := G1.out.cell (i := k) (by omega)
                      cases e'
                      rw [hxd] at hcell
                      have x0 := cell_on BB.out hcell
                      have y := cell_on BB.out HY.out
                      have k3 : (k : Int) < (lb : Int) := by omega
                      have k0 : 0 ≤ (k : Int) := by omega
                      have HX := Lib.hid hx
                      clear hx hxd hcell
                      by_cases e1 : x = c
                      · have b9 : (x == c) = true := by simp [e1]
                        have V := Lib.hid (NO.out fun q => q.nin (List.mem_take_iff_getElem.mpr ⟨k, by have := lt_of_get HX.out; omega, by have h1 := HX.out; rw [List.getElem?_eq_getElem (lt_of_get h1)] at h1; rw [← e1]; simpa using h1⟩))
                        clear e1
                        go_upto_region 12 with fail
                        go_quiet (fail)
                        go_wp2
                        go_ret
                        exact ⟨ret_b V.out.symm, below_next B1.out (bdN BB.out _)⟩
                      · have b9 : (x == c) = false := by simp [e1]
                        have NX := Lib.hid (show c ∉ cs.take (k + 1) by
                          rw [take_snoc HX.out]
                          intro hm
                          rcases List.mem_append.mp hm with q | q
                          · exact K.out q
                          · exact e1 (show x = c from (by simpa using q : c = x).symm))
                        clear e1
                        go_upto_region 12 with fail
                        go_quiet (fail)
                        go_wp2
                        go_roundw
                        case rel => exact ⟨k + 1, by go_num, by omega, NX.out, bdN BB.out _⟩
                        case measure => simp [intOf]; omega
                    · have d1 : decide ((k : Int) < (i : Int)) = false := by simp; omega
                      have d1' : decide (k < i) = false := by simp; omega
                      have TN := Lib.hid (ST.out ⟨RG.out, by rw [show i = k by omega]; exact K.out, PF.out⟩)
                      go_wp2
                      go_roundw
                      case rel => exact ⟨i + 1, by go_num, by omega, TN.out, BB.out⟩
                      case measure => simp [intOf]; omega
        · have b1 : decide ((i : Int) < (lb : Int)) = false := by simp; omega
          have b1' : decide (i < lb) = false := by simp; omega
          have V := Lib.hid (holdsB_yes MB.out (on_iff.mpr ⟨by rw [LC.out, LN.out], by rw [LN.out, show lb = i by omega]; exact T.out⟩))
          go_wp2
          go_ret
          exact ⟨ret_b V.out.symm, below_next B1.out B.out⟩
    · have b0 : ((lb : Int) != (len : Int)) = true := by simp; omega
      have V := Lib.hid (holdsB_no (l := l) (cs := cs) (m := m) (fun g => q (by have := g.len; rwa [LC.out, LN.out] at this)))
      go_wp2
      go_ret
      exact ⟨ret_b V.out.symm, B1.out⟩
end Go.Proofs.Ytokmkfoofgiddaa
