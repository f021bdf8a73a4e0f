/-
  Which runners may be, one after the other; the document's Check (regattaref15): contract.
-/
import Derived.Test.YtokmkfoofgiddaaPa1
namespace Go.Proofs.Ytokmkfoofgiddaa
open Go.RowKit

/-! ### plain -/
/-- the first i of them may be -/
structure ToR (l : List Rn) (m : Int) (i : Nat) : Prop where
  each : ∀ r ∈ l.take i, -1 ≤ r.pin ∧ r.pin < m ∧ -1 ≤ r.last ∧ r.last < m
  ids : (l.take i).Pairwise fun a b => a.id ≠ b.id
  pins : (l.take i).Pairwise fun a b => a.pin = b.pin → a.pin < 0
/-- so may the next one -/
structure FineR (pre : List Rn) (m : Int) (r : Rn) : Prop where
  rng : -1 ≤ r.pin ∧ r.pin < m ∧ -1 ≤ r.last ∧ r.last < m
  id : ∀ x ∈ pre, x.id ≠ r.id
  pin : ∀ x ∈ pre, x.pin = r.pin → x.pin < 0
theorem to_zero (l : List Rn) (m : Int) : ToR l m 0 := ⟨by simp, by simp, by simp⟩
theorem to_step {l : List Rn} {m : Int} {i : Nat} {r : Rn} (h : l.take (i + 1) = l.take i ++ [r]) : ToR l m (i + 1) ↔ ToR l m i ∧ FineR (l.take i) m r := by
  constructor
  · rintro ⟨h1, h2, h3⟩
    rw [h] at h1 h2 h3
    rw [List.pairwise_append] at h2 h3
    exact ⟨⟨fun x hx => h1 x (List.mem_append_left _ hx), h2.1, h3.1⟩, ⟨h1 r (by simp), fun x hx => h2.2.2 x hx r (by simp), fun x hx => h3.2.2 x hx r (by simp)⟩⟩
  · rintro ⟨⟨h1, h2, h3⟩, h4, h5, h6⟩
    refine ⟨fun x hx => ?_, ?_, ?_⟩
    · rw [h] at hx
      rcases List.mem_append.mp hx with q | q
      · exact h1 x q
      · have : x = r := by simpa using q
        rw [this]; exact h4
    · rw [h, List.pairwise_append]
      exact ⟨h2, by simp, fun x hx y hy => by have : y = r := by simpa using hy
                                              rw [this]; exact h5 x hx⟩
    · rw [h, List.pairwise_append]
      exact ⟨h3, by simp, fun x hx y hy => by have : y = r := by simpa using hy
                                              rw [this]; exact h6 x hx⟩
theorem to_le {l : List Rn} {m : Int} {i j : Nat} (h : ToR l m j) (q : i ≤ j) : ToR l m i := by
  have e : l.take i = (l.take j).take i := by rw [List.take_take]; congr 1; omega
  refine ⟨fun r hr => h.each r ?_, ?_, ?_⟩
  · rw [e] at hr; exact List.mem_of_mem_take hr
  · rw [e]; exact h.ids.sublist (List.take_sublist _ _)
  · rw [e]; exact h.pins.sublist (List.take_sublist _ _)
theorem may_iff {l : List Rn} {m : Int} : MayR l m ↔ 1 ≤ m ∧ m ≤ 1024 ∧ (l.length : Int) ≤ m ∧ ToR l m l.length := by
  constructor
  · rintro ⟨h1, h2, h3, h4, h5, h6⟩
    exact ⟨h1, h2, h3, by rw [List.take_length]; exact h4, by rw [List.take_length]; exact h5, by rw [List.take_length]; exact h6⟩
  · rintro ⟨h1, h2, h3, h4, h5, h6⟩
    rw [List.take_length] at h4 h5 h6
    exact ⟨h1, h2, h3, h4, h5, h6⟩
open Classical in
noncomputable def mayB (l : List Rn) (m : Int) : Bool := decide (MayR l m)
theorem mayB_yes {l : List Rn} {m : Int} (h : MayR l m) : mayB l m = true := by unfold mayB; simp [h]
theorem mayB_no {l : List Rn} {m : Int} (h : ¬ MayR l m) : mayB l m = false := by unfold mayB; simp [h]
theorem mayB_true {l : List Rn} {m : Int} : mayB l m = true ↔ MayR l m := by unfold mayB; simp
/-- one that may not be -/
theorem may_not {l : List Rn} {m : Int} {i : Nat} {r : Rn} (hi : i < l.length) (h : l.take (i + 1) = l.take i ++ [r]) (hn : ¬ FineR (l.take i) m r) : mayB l m = false :=
  mayB_no fun q => hn ((to_step h).mp (to_le (may_iff.mp q).2.2.2 (by omega))).2
theorem not_fine {pre : List Rn} {m : Int} {r : Rn} (h : r.pin < -1 ∨ m ≤ r.pin ∨ r.last < -1 ∨ m ≤ r.last) : ¬ FineR pre m r := fun q => by have := q.rng; omega

set_option maxRecDepth 20000 in
set_option maxHeartbeats 4000000 in
theorem r15check_any (a : Option Addr) (len cap : Nat) (l : List Rn) (m : Int) (w : World) (h : RowR w a len cap l) :
    Calls Try.prog 21 #[.slice a len cap, .int .i64 m] w fun e w' => e = .returned (.bool (mayB l m)) ∧ Below w.heap.size w w' := by
  have H := Lib.hid h
  have LN := Lib.hid h.len
  have ⟨c1, c2⟩ := h.cap_le
  clear h
  by_cases m1 : 1 ≤ m
  · have t1 : decide (m < 1) = false := by simp; omega
    by_cases m2 : m ≤ 1024
    · have t2 : decide (1024 < m) = false := by simp; omega
      by_cases m3 : (len : Int) ≤ m
      · have t3 : decide (m < (len : Int)) = false := by simp; omega
        have MB := Lib.hid (show ToR l m len → mayB l m = true from fun q => mayB_yes (may_iff.mpr ⟨m1, m2, by rw [LN.out]; exact m3, by rw [LN.out]; exact q⟩))
        go_enter Try.func21, Try.ntmps21
        go_wp2
        go_loopw [5] (fun u wr => ∃ i : Nat, u = .int .i64 i ∧ i ≤ len ∧ ToR l m i ∧ Below w.heap.size w wr) (fun u _ => len - (intOf u).toNat)
        case atStart => exact ⟨0, rfl, by omega, to_zero _ _, Below.refl _ _⟩
        case round =>
          obtain ⟨i, rfl, i1, ht, hb⟩ := hrel
          have T := Lib.hid ht
          have B := Lib.hid hb
          clear ht hb
          by_cases go : i < len
          · have b1 : decide ((i : Int) < (len : Int)) = true := by simp; omega
            have b1' : decide (i < len) = true := by simp; omega
            have iq : i < l.length := by rw [LN.out]; exact go
            obtain ⟨r, hr, hts⟩ := getR iq
            have TS := Lib.hid hts
            have NO := Lib.hid (fun (q : ¬ FineR (l.take i) m r) => may_not iq hts q)
            have ST := Lib.hid (fun (q : FineR (l.take i) m r) => (to_step hts).mpr ⟨T.out, q⟩)
            obtain ⟨ba, oa, rfl, hat⟩ := H.out.at hr
            have XA := Lib.hid (hat.below B.out)
            have x0 := XA.out.c0; have x1 := XA.out.c1; have x2 := XA.out.c2
            have i3 : (i : Int) < (len : Int) := by omega
            have i0 : 0 ≤ (i : Int) := by omega
            obtain ⟨id, pin, z⟩ := r
            replace x0 : wr.cell? ⟨ba, oa + i * 3, none⟩ = some (.int .i64 id) := x0
            replace x1 : wr.cell? ⟨ba, oa + i * 3 + 1, none⟩ = some (.int .i64 pin) := x1
            replace x2 : wr.cell? ⟨ba, oa + i * 3 + 2, none⟩ = some (.int .i64 z) := x2
            clear hr hts hat XA iq
            by_cases p1 : pin < -1
            · have b2 : decide (pin < -1) = true := by simp; omega
              have V := Lib.hid (NO.out (not_fine (.inl p1)))
              go_wp2
              go_ret
              exact ⟨ret_b V.out.symm, B.out⟩
            · have b2 : decide (pin < -1) = false := by simp; omega
              by_cases p2 : m ≤ pin
              · have b3 : decide (m ≤ pin) = true := by simp; omega
                have V := Lib.hid (NO.out (not_fine (.inr (.inl p2))))
                go_wp2
                go_ret
                exact ⟨ret_b V.out.symm, B.out⟩
              · have b3 : decide (m ≤ pin) = false := by simp; omega
                by_cases p3 : z < -1
                · have b4 : decide (z < -1) = true := by simp; omega
                  have V := Lib.hid (NO.out (not_fine (.inr (.inr (.inl p3)))))
                  go_wp2
                  go_ret
                  exact ⟨ret_b V.out.symm, B.out⟩
                · have b4 : decide (z < -1) = false := by simp; omega
                  by_cases p4 : m ≤ z
                  · have b5 : decide (m ≤ z) = true := by simp; omega
                    have V := Lib.hid (NO.out (not_fine (.inr (.inr (.inr p4)))))
                    go_wp2
                    go_ret
                    exact ⟨ret_b V.out.symm, B.out⟩
                  · have b5 : decide (m ≤ z) = false := by simp; omega
                    have RG := Lib.hid (show -1 ≤ pin ∧ pin < m ∧ -1 ≤ z ∧ z < m by omega)
                    clear p1 p2 p3 p4
                    go_wp2
                    go_loopw [6] (fun u wx => ∃ k : Nat, u = .int .i64 k ∧ k ≤ i ∧ (∀ x ∈ l.take k, x.id ≠ id ∧ (x.pin = pin → x.pin < 0)) ∧ Below w.heap.size w wx) (fun u _ => i - (intOf u).toNat)
                    case atStart => exact ⟨0, rfl, by omega, by simp, B.out⟩
                    case round =>
                      obtain ⟨k, rfl, k1, hk, hb⟩ := hrel
                      have K := Lib.hid hk
                      have BB := Lib.hid hb
                      clear hk hb b2 b3 b4 b5 x0 x1 x2
                      by_cases go2 : k < i
                      · have d1 : decide ((k : Int) < (i : Int)) = true := by simp; omega
                        have d1' : decide (k < i) = true := by simp; omega
                        have kq : k < l.length := by rw [LN.out]; omega
                        obtain ⟨y, hy, hys⟩ := getR kq
                        have YS := Lib.hid hys
                        have YM := Lib.hid (show y ∈ l.take i from List.mem_take_iff_getElem.mpr ⟨k, by omega, by rw [List.getElem?_eq_getElem kq] at hy; simpa using hy⟩)
                        obtain ⟨r', hr', _⟩ := getR (l := l) (i := i) (by rw [LN.out]; exact go)
                        have hri : l.take (i + 1) = l.take i ++ [⟨id, pin, z⟩] := TS.out
                        have hrr : l[i]? = some ⟨id, pin, z⟩ := by
                          have h1 : (l.take (i + 1))[i]? = some ⟨id, pin, z⟩ := by rw [hri, List.getElem?_append_right (by rw [List.length_take]; omega), List.length_take, Nat.min_eq_left (by rw [LN.out]; omega)]; simp
                          rwa [List.getElem?_take_of_lt (by omega)] at h1
                        obtain ⟨b', o', e', hat⟩ := H.out.at hrr
                        cases e'
                        obtain ⟨b', o', e', haty⟩ := H.out.at hy
                        cases e'
                        have XA := Lib.hid (hat.below BB.out)
                        have XY := Lib.hid (haty.below BB.out)
                        have x0 := XA.out.c0; have x1 := XA.out.c1
                        have y0 := XY.out.c0; have y1 := XY.out.c1
                        have k3 : (k : Int) < (len : Int) := by omega
                        have k0 : 0 ≤ (k : Int) := by omega
                        obtain ⟨yid, ypin, yz⟩ := y
                        replace x0 : wr.cell? ⟨ba, oa + i * 3, none⟩ = some (.int .i64 id) := x0
                        replace x1 : wr.cell? ⟨ba, oa + i * 3 + 1, none⟩ = some (.int .i64 pin) := x1
                        replace y0 : wr.cell? ⟨ba, oa + k * 3, none⟩ = some (.int .i64 yid) := y0
                        replace y1 : wr.cell? ⟨ba, oa + k * 3 + 1, none⟩ = some (.int .i64 ypin) := y1
                        clear hy hys hr' hri hrr hat haty XA XY kq
                        by_cases e1 : yid = id
                        · have b2 : (yid == id) = true := by simp [e1]
                          have V := Lib.hid (NO.out fun q => q.id _ YM.out e1)
                          clear e1
                          go_upto_region 11 with fail
                          go_quiet (fail)
                          go_wp2
                          go_ret
                          exact ⟨ret_b V.out.symm, bdN BB.out _⟩
                        · have b2 : (yid == id) = false := by simp [e1]
                          by_cases e2 : ypin = pin
                          · have b3 : (ypin == pin) = true := by simp [e2]
                            by_cases e3 : 0 ≤ pin
                            · have b4 : decide (0 ≤ pin) = true := by simp; omega
                              have V := Lib.hid (NO.out fun q => by have h1 := q.pin _ YM.out e2; have h2 : ypin < 0 := h1; omega)
                              clear e1 e2
                              go_upto_region 11 with fail
                              go_quiet (fail)
                              go_wp2
                              go_ret
                              exact ⟨ret_b V.out.symm, bdN BB.out _⟩
                            · have b4 : decide (0 ≤ pin) = false := by simp; omega
                              have NX := Lib.hid (show ∀ x ∈ l.take (k + 1), x.id ≠ id ∧ (x.pin = pin → x.pin < 0) from fun x hx => by
                                rw [YS.out] at hx
                                rcases List.mem_append.mp hx with q | q
                                · exact K.out x q
                                · have : x = ⟨yid, ypin, yz⟩ := by simpa using q
                                  rw [this]; exact ⟨e1, fun _ => by show ypin < 0; omega⟩)
                              clear e1 e2
                              go_upto_region 11 with fail
                              go_quiet (fail)
                              go_wp2
                              go_roundw
                              case rel => exact ⟨k + 1, by go_num, by omega, NX.out, bdN BB.out _⟩
                              case measure => simp [intOf]; omega
                          · have b3 : (ypin == pin) = false := by simp [e2]
                            have NX := Lib.hid (show ∀ x ∈ l.take (k + 1), x.id ≠ id ∧ (x.pin = pin → x.pin < 0) from fun x hx => by
                                rw [YS.out] at hx
                                rcases List.mem_append.mp hx with q | q
                                · exact K.out x q
                                · have : x = ⟨yid, ypin, yz⟩ := by simpa using q
                                  rw [this]; exact ⟨e1, fun q => absurd q e2⟩)
                            clear e1 e2
                            go_upto_region 11 with fail
                            go_quiet (fail)
                            go_wp2
                            go_roundw
                            case rel => exact ⟨k + 1, by go_num, by omega, NX.out, bdN BB.out _⟩
                            case measure => simp [intOf]; omega
                      · have d1 : decide ((k : Int) < (i : Int)) = false := by simp; omega
                        have d1' : decide (k < i) = false := by simp; omega
                        have TN := Lib.hid (ST.out ⟨RG.out, fun x hx => (K.out x (by rw [show k = i by omega]; exact hx)).1, fun x hx => (K.out x (by rw [show k = i by omega]; exact hx)).2⟩)
                        go_wp2
                        go_roundw
                        case rel => exact ⟨i + 1, by go_num, by omega, TN.out, BB.out⟩
                        case measure => simp [intOf]; omega
          · have b1 : decide ((i : Int) < (len : Int)) = false := by simp; omega
            have b1' : decide (i < len) = false := by simp; omega
            have V := Lib.hid (MB.out (by rw [show len = i by omega]; exact T.out))
            go_wp2
            go_ret
            exact ⟨ret_b V.out.symm, B.out⟩
      · have t3 : decide (m < (len : Int)) = true := by simp; omega
        have V := Lib.hid (show mayB l m = false from mayB_no fun q => by have h1 := q.few; rw [LN.out] at h1; exact m3 h1)
        go_enter Try.func21, Try.ntmps21
        go_wp2
        go_ret
        exact ⟨ret_b V.out.symm, Below.refl _ _⟩
    · have t2 : decide (1024 < m) = true := by simp; omega
      have V := Lib.hid (show mayB l m = false from mayB_no fun q => m2 q.m2)
      go_enter Try.func21, Try.ntmps21
      go_wp2
      go_ret
      exact ⟨ret_b V.out.symm, Below.refl _ _⟩
  · have t1 : decide (m < 1) = true := by simp; omega
    have V := Lib.hid (show mayB l m = false from mayB_no fun q => m1 q.m1)
    go_enter Try.func21, Try.ntmps21
    go_wp2
    go_ret
    exact ⟨ret_b V.out.symm, Below.refl _ _⟩
end Go.Proofs.Ytokmkfoofgiddaa
