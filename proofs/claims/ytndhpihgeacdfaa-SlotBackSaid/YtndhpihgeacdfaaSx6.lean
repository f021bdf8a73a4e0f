/-
  The walk of the law SlotBack.
-/
import Derived.Test.YtndhpihgeacdfaaSx4
import Derived.Test.YtndhpihgeacdfaaSx1
import Derived.Test.YtndhpihgeacdfaaSs7
namespace Go.Proofs.Ytndhpihgeacdfaa
open Go.RowKit

theorem read_more {x : List Sk} (h : RowTo x 1024 x.length) (hx : x.length ≤ 4096) (t : List UInt8) : readM (bytesL x ++ t) = ⟨x, (bytesL x).length, false⟩ := by
  have hh : 0 ≤ headAt x ∧ headAt x ≤ 1099511627776 := by
    cases x with
    | nil => simp [headAt]
    | cons s x => have := (h 0 s (by simp) rfl).1; exact ⟨this.t0, this.t1⟩
  obtain ⟨l, hl⟩ : ∃ l, bytesL x ++ t = l := ⟨_, rfl⟩
  have e : l = [] ++ (numI x.length ++ (numI (headAt x) ++ (slotsB x ++ t))) := by rw [← hl]; unfold bytesL numI; simp
  rw [hl]
  have a1 : headN l = ((x.length : Int), ([] ++ numI x.length).length, false) := next_numI (pre := []) (t := numI (headAt x) ++ (slotsB x ++ t)) (by rw [e]) (by omega) (by omega) (by omega)
  have a2 : headA l = (headAt x, ([] ++ numI x.length ++ numI (headAt x)).length, false) := by
    unfold headA
    rw [a1]
    exact next_numI (t := slotsB x ++ t) (by rw [e]; simp) (by omega) (by omega) (by omega)
  unfold readM
  rw [a1, a2]
  simp only [Int.toNat_natCast]
  rw [slots_read (a := headAt x) x 0 [] ([] ++ numI x.length ++ numI (headAt x)) t (fun s hs => by
    obtain ⟨j, hj, e⟩ := List.getElem_of_mem hs
    exact good_of_may (h j s hj (by rw [List.getElem?_eq_getElem hj, e])).1) (fun j s hs => by rw [row_tm h j s hs]; simp) (by rw [e]; simp)]
  have e2 : bytesL x = [] ++ numI x.length ++ numI (headAt x) ++ slotsB x := by unfold bytesL numI; simp
  rw [e2]
  simp
theorem read_extra {x : List Sk} (h : RowTo x 1024 x.length) (hx : x.length ≤ 4096) (c : UInt8) : readV (bytesL x ++ [c]) = none := by
  cases hv : readV (bytesL x ++ [c]) with
  | none => rfl
  | some y =>
    have h1 := (read_not hv).2.1
    rw [read_more h hx] at h1
    simp at h1
theorem back_len {x : List Sk} (h : RowTo x 1024 x.length) (hx : SmallK x) : (bytesL x).length ≤ 400000000 := by
  have MY := bytes_may h
  have h1 := slotsB_len x 1024 (by omega) fun s hs => ⟨hx.b s hs, MY s hs⟩
  have h2 := hx.a
  have hh : headAt x ≤ 1099511627776 := by
    cases x with
    | nil => simp [headAt]
    | cons s x => exact (MY s List.mem_cons_self).t1
  have h3 := numI_len hh
  have h4 := numI_len (x := (x.length : Int)) (by omega)
  have h5 : (num x.length).length ≤ 6 := by have := h4; unfold numI at this; rwa [Int.toNat_natCast] at this
  unfold bytesL
  rw [List.length_append, List.length_append]
  omega
set_option maxRecDepth 20000 in
set_option maxHeartbeats 4000000 in
theorem sback_walk (at_ : Int) (b : Option Addr) (lb cb : Nat) (zs : List (List Int)) (c : Int) (w : World) (c0 : 0 ≤ c) (c1 : c < 256) (g : RowN w b lb cb zs) (hw : ∀ z ∈ zs, ∀ x ∈ z, (Lit.int .i64 x).wf = true) :
    Calls Try.prog 5 #[.int .i64 at_, .slice b lb cb, .int .u8 c] w fun e w' => e = .returned (.bool true) ∧ Below w.heap.size w w' := by
  have G := Lib.hid g
  have WF := Lib.hid hw
  clear g hw
  have ⟨f0, f1⟩ := and_low at_ 1073741823 (by omega) (by omega)
  go_enter Try.func5, Try.ntmps5
  go_wp2_with fail
  refine (awake16_any w).mono ?_
  rintro e w0 ⟨rfl, hb⟩
  have B0 := Lib.hid hb
  clear hb
  go_wp2_with fail
  refine (made16_any at_ b lb cb zs _ (G.out.below B0.out) WF.out).mono ?_
  rintro e w1 ⟨⟨ba, na, ca, rfl, hr, -⟩, hb⟩
  have B1 := Lib.hid (below_next B0.out hb)
  have R1 := Lib.hid hr
  have MR := Lib.hid (made_row (l := zs) f0 f1 (show 64 ≤ (1024 : Int) by omega) (Int.le_refl _))
  have ⟨ms, ml⟩ := made_small (bits .and .i64 at_ 1073741823) zs
  have MS := Lib.hid ms
  obtain ⟨R, hR⟩ : ∃ R, madeV (bits .and .i64 at_ 1073741823) zs = R := ⟨_, rfl⟩
  rw [hR] at R1 MR MS ml
  have LN := Lib.hid R1.out.len
  have BK := Lib.hid (show bytesK R = bytesL R by unfold bytesK; rw [rowB_yes MR.out, if_pos rfl])
  have BL := Lib.hid (back_len MR.out MS.out)
  have RV := Lib.hid (readV_some MR.out (by omega) rfl)
  have RX := Lib.hid (fun c => read_extra MR.out (by omega) c)
  clear hb hr hR ms f0 f1
  go_wp2_with fail
  refine (pbytes_any ba na ca R w1 R1.out MS.out).mono ?_
  rintro e w2 ⟨rfl, hb⟩
  have B2 := Lib.hid (below_next B1.out hb)
  have R2 := Lib.hid (R1.out.below hb)
  clear hb
  rw [BK.out]
  obtain ⟨L, hL⟩ : ∃ L, bytesL R = L := ⟨_, rfl⟩
  rw [hL] at BL RV RX ⊢
  clear hL
  go_wp2_with fail
  refine (pread_bs L w2 (by have := BL.out; omega)).mono ?_
  rintro e w3 ⟨hc, hb⟩
  have B3 := Lib.hid (below_next B2.out hb)
  have R3 := Lib.hid (R2.out.below hb)
  clear hb
  rcases hc with ⟨x, bx, cx, hx, rfl, hrx⟩ | ⟨hx, rfl⟩
  · rw [RV.out] at hx
    cases hx
    have X3 := Lib.hid hrx
    clear hrx
    have hcv := conv_byte (w := w3.alloc (.cells #[.int .u8 c] 5)) (g := w3.heap.size) c0 c1 (heap_alloc_new _ _)
    have s1 : (BS L).size ≤ 400000000 := by rw [BS_size]; exact BL.out
    have s2 : (BS [bt c]).size ≤ 1 := by rw [BS_size]; simp
    have e1 : (⟨[bt c].toArray⟩ : ByteArray) = BS [bt c] := rfl
    rw [e1] at hcv
    have B4 := Lib.hid (below_next B3.out (wbox w3 (.cells #[.int .u8 c] 5)))
    have R4 := Lib.hid (R3.out.below (wbox w3 (.cells #[.int .u8 c] 5)))
    have X4 := Lib.hid (X3.out.below (wbox w3 (.cells #[.int .u8 c] 5)))
    clear e1
    go_wp2_with fail
    clear hcv s1 s2
    rw [BS_add]
    refine (pread_bs (L ++ [bt c]) _ (by have := BL.out; rw [List.length_append]; simp; omega)).mono ?_
    rintro e w5 ⟨hc, hb⟩
    have B5 := Lib.hid (below_next B4.out hb)
    have R5 := Lib.hid (R4.out.below hb)
    have X5 := Lib.hid (X4.out.below hb)
    clear hb
    rcases hc with ⟨x, bx', cx', hx, rfl, hrx⟩ | ⟨hx, rfl⟩
    · rw [RX.out] at hx
      cases hx
    · clear hx
      have R5' := Lib.hid (show RowK w5 ba R.length ca R by have := R5.out; rwa [← LN.out] at this)
      have HN := Lib.hid LN.out
      obtain rfl : R.length = na := LN.out
      go_wp2_with fail
      refine (r16same_yes bx ba R.length cx ca R w5 X5.out R5'.out).mono ?_
      rintro e w6 ⟨rfl, hb⟩
      have B6 := Lib.hid (below_next B5.out hb)
      have R6 := Lib.hid (R5.out.below hb)
      clear hb
      go_wp2_with fail
      refine (prow_any ba R.length ca R 1024 w6 R6.out).mono ?_
      rintro e w7 ⟨rfl, hb⟩
      rw [rowB_yes MR.out]
      have B7 := Lib.hid (below_next B6.out hb)
      clear hb
      go_wp2
      go_ret
      exact ⟨rfl, B7.out⟩
  · rw [RV.out] at hx
    cases hx
end Go.Proofs.Ytndhpihgeacdfaa
