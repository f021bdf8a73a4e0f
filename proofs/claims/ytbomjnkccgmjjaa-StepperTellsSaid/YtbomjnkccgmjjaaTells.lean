/-
  The walk of the law StepperTells.
-/
import Derived.Test.YtbomjnkccgmjjaaCopy
import Derived.Test.YtbomjnkccgmjjaaFlat2
namespace Go.Proofs.Ytbomjnkccgmjjaa
open Go.RowKit

theorem r5shift_at (E P O I k O' : Int) (b : Bool) (g : Nat) (w : World) (h : Blk w 32 g (stC E P O I)) (O0 : 0 ≤ O) (O1 : O ≤ 2305843009213693952) (hS : ShTo O k O' b) :
    Calls Try.prog 13 #[.pointer (some ⟨g, 0, none⟩), .int .i64 k] w
      fun e w' => e = .returned (.bool b) ∧ Blk w' 32 g (stC E P O' I) ∧ But g w w' := by
  rcases hS with ⟨a1, a2, rfl, rfl⟩ | ⟨a1, rfl, rfl⟩
  · refine (r5shift_yes E P O I k g w h O0 O1 a1 a2).mono ?_
    rintro e w' ⟨rfl, rfl⟩
    exact ⟨rfl, h.set 2 _, (But.refl _ _).set _ _⟩
  · refine (r5shift_no E P O' I k g w h O0 O1 a1).mono ?_
    rintro e w' ⟨rfl, rfl⟩
    exact ⟨rfl, h, But.refl _ _⟩

set_option maxRecDepth 20000 in
set_option maxHeartbeats 4000000 in
theorem tells_walk (qa qb off : Int) (a : Option Addr) (len cap : Nat) (zs : List Int) (w : World) (hZ : Row .i64 w a len cap zs) : Calls Try.prog 3 #[.agg #[.int .i64 qa, .int .i64 qb], .int .i64 off, .slice a len cap] w fun e w' => e = .returned (.bool true) ∧ Below w.heap.size w w' := by
  have Z := Lib.hid hZ
  have zc := hZ.cap_le
  clear hZ
  have Q := Lib.hid (Blk.new w 22 #[Value.int .i64 qa, Value.int .i64 qb])
  go_enter Try.func3, Try.ntmps3
  go_wp2_with fail
  refine (s5awake_any _).mono ?_
  rintro e w1 ⟨rfl, hb⟩
  have B := Lib.hid (below_next (wbox _ _) hb)
  have q0 := (Q.out.below hb).cell 0
  have q1 := (Q.out.below hb).cell 1
  simp at q0 q1
  clear hb
  go_wp2_with fail
  refine (s5made_any qa qb _).mono ?_
  rintro e w2 ⟨E, P, rfl, hM, hb⟩
  have B := Lib.hid (below_next B.out hb)
  have HM := Lib.hid hM
  clear hM hb q0 q1 Q
  have W := Lib.hid (Blk.new w2 26 #[.int .i64 E, .int .i64 P])
  go_wp2_with fail
  obtain ⟨W0, hW0⟩ : ∃ W0, w2.alloc (Obj.cells #[.int .i64 E, .int .i64 P] 26) = W0 := ⟨_, rfl⟩
  have B := Lib.hid (show Below w.heap.size w W0 by rw [← hW0]; exact below_next B.out (wbox _ _))
  rw [hW0] at W
  rw [hW0]
  clear hW0
  by_cases z : off < 0
  · have t1 : decide (off < 0) = true := by simp; omega
    refine (snew_no E P off _ (.inr (.inl z))).mono ?_
    rintro e w3 ⟨rfl, hb⟩
    have B := Lib.hid (below_next B.out hb)
    clear hb
    go_wp2
    go_ret
    exact ⟨rfl, B.out⟩
  by_cases y : 2305843009213693952 < off
  · have t1 : decide (off < 0) = false := by simp; omega
    have t2 : decide (2305843009213693952 < off) = true := by simp; omega
    refine (snew_no E P off _ (.inr (.inr y))).mono ?_
    rintro e w3 ⟨rfl, hb⟩
    have B := Lib.hid (below_next B.out hb)
    clear hb
    go_wp2
    go_ret
    exact ⟨rfl, B.out⟩
  have t1 : decide (off < 0) = false := by simp; omega
  have t2 : decide (2305843009213693952 < off) = false := by simp; omega
  refine (snew_yes E P off _ HM.out (by omega) (by omega)).mono ?_
  rintro e w3 ⟨g, rfl, hg, hs, hb⟩
  have HG := Lib.hid (show w.heap.size ≤ g from Nat.le_trans B.out.size hg)
  have S := Lib.hid hs
  have W := Lib.hid (W.out.below hb)
  have B := Lib.hid (below_next B.out hb)
  clear hg hs hb
  have c0 := W.out.cell 0; have c1 := W.out.cell 1
  simp at c0 c1
  go_wp2
  clear c0 c1 W
  have RR := Lib.hid (Blk.new w3 32 (stC E P off 1))
  have GH := Lib.hid (show g ≠ w3.heap.size from Nat.ne_of_lt S.out.lt)
  have HH := Lib.hid (show w.heap.size ≤ w3.heap.size from B.out.size)
  obtain ⟨h, hh⟩ : ∃ h, w3.heap.size = h := ⟨_, rfl⟩
  rw [hh] at RR GH HH
  rw [hh]
  clear hh
  go_loopw [11] (fun u wr => ∃ (i : Nat) (O : Int), u = .int .i64 i ∧ i ≤ len ∧ i ≤ 40 ∧ 0 ≤ O ∧ O ≤ 2305843009213693952 ∧ Stp wr g E P O i ∧ Blk wr 32 h (stC E P O ((i : Int) + 1)) ∧ Below w.heap.size w wr) (fun u _ => len - (intOf u).toNat)
  case atStart => exact ⟨0, off, rfl, by omega, by omega, by omega, by omega, S.out.alloc _, RR.out, below_next B.out (wbox _ _)⟩
  case round =>
    obtain ⟨i, O, rfl, il, i40, O0, O1, hst, hrr, hbel⟩ := hrel
    clear S RR
    have S := Lib.hid hst
    have RR := Lib.hid hrr
    have BB := Lib.hid hbel
    clear hst hrr hbel
    have NI := Lib.hid (show Nth ((i : Int) + 1) from ⟨by omega, by omega⟩)
    by_cases d1 : i < len
    · have b1 : decide (i < len) = true := by simp; omega
      have b2 : decide ((i : Int) < (len : Int)) = true := by simp; omega
      by_cases d2 : i < 40
      · have b3 : decide ((i : Int) < 40) = true := by simp; omega
        obtain ⟨ba, oa, ha, hca⟩ := Z.out.cell d1
        obtain ⟨k, hk⟩ : ∃ k, zs.getD i 0 = k := ⟨_, rfl⟩
        rw [hk] at hca
        clear hk
        have KEPT := Lib.hid (show ∀ w' : World, Below w.heap.size w w' → w'.cell? ⟨ba, oa + i, none⟩ = some (.int .i64 k) from fun w' h => (h.cell (p := ⟨ba, oa + i, none⟩) (World.block_lt_of_cell? _ _ hca)).trans hca)
        clear hca
        subst ha
        have i1 : (i : Int) < (len : Int) := by omega
        have i2 : 0 ≤ (i : Int) := by omega
        have kc := KEPT.out _ BB.out
        obtain ⟨O', sb, hS, o0, o1⟩ := shTo_ex O k O0 O1
        have HS := Lib.hid hS
        obtain ⟨R, D, T, G, hV⟩ := ahead_names E P O' ((i : Int) + 1)
        have HV := Lib.hid hV
        clear hS hV
        go_upto_region 12 with fail
        have S := Lib.hid S.out.drew
        have RR := Lib.hid RR.out.drew
        have BB := Lib.hid BB.out.drew
        go_region_held3 (fun w' => w'.cell? ⟨ba, oa + i, none⟩ = some (.int .i64 k))
          (exact KEPT.out _ BB.out)
          (first
            | (go_at_call 12; (with_reducible refine (sshift_at E P O i k O' sb g _ S.out HM.out O0 O1 HS.out).mono ?_); rintro e w4 ⟨rfl, hs, hb⟩; have RR := Lib.hid (RR.out.but hb (Ne.symm GH.out)); have S := Lib.hid hs; have BB := Lib.hid (hb.below BB.out HG.out BB.out.size); clear hs hb)
            | (go_at_call 13; (with_reducible refine (r5shift_at E P O ((i : Int) + 1) k O' sb h _ RR.out O0 O1 HS.out).mono ?_); rintro e w4 ⟨rfl, hs, hb⟩; have S := Lib.hid (S.out.but hb GH.out); have RR := Lib.hid hs; have BB := Lib.hid (hb.below BB.out HH.out BB.out.size); clear hs hb)
            | (go_at_call 14; (with_reducible refine (speek_at E P O' i g ((i : Int) + 1) R D T G _ S.out HM.out (by omega) (by omega) o0 o1 HV.out).mono ?_); rintro e w4 ⟨rfl, hb⟩; have S := Lib.hid (S.out.below hb); have RR := Lib.hid (RR.out.below hb); have BB := Lib.hid (below_next BB.out hb); clear hb)
            | (go_at_call 15; (with_reducible refine (r5peek_at E P O' ((i : Int) + 1) h ((i : Int) + 1) R D T G _ RR.out HM.out NI.out o0 o1 HV.out).mono ?_); rintro e w4 ⟨rfl, hb⟩; have S := Lib.hid (S.out.below hb); have RR := Lib.hid (RR.out.below hb); have BB := Lib.hid (below_next BB.out hb); clear hb)
            | (go_at_call 16; (with_reducible refine (snext_at E P O' i g ((i : Int) + 1) R D T G _ S.out HM.out (by omega) (by omega) o0 o1 HV.out).mono ?_); rintro e w4 ⟨rfl, hs, hb⟩; have RR := Lib.hid (RR.out.but hb (Ne.symm GH.out)); have S := Lib.hid hs; have BB := Lib.hid (hb.below BB.out HG.out BB.out.size); clear hs hb)
            | (go_at_call 17; (with_reducible refine (r5next_at E P O' ((i : Int) + 1) h ((i : Int) + 1) R D T G _ RR.out HM.out NI.out o0 o1 HV.out).mono ?_); rintro e w4 ⟨rfl, hs, hb⟩; have S := Lib.hid (S.out.but hb GH.out); have RR := Lib.hid hs; have BB := Lib.hid (hb.below BB.out HH.out BB.out.size); clear hs hb))
        all_goals
          go_wp2
          go_roundw
          case rel => exact ⟨i + 1, O', by go_num, by omega, by omega, o0, o1, S.out, RR.out, BB.out⟩
          case measure => simp [intOf]; omega
      have b3 : decide ((i : Int) < 40) = false := by simp; omega
      obtain ⟨R, D, T, G, hV⟩ := ahead_names E P O ((i : Int) + 1)
      have HV := Lib.hid hV
      clear hV
      go_wp2_with fail
      refine (speek_at E P O i g ((i : Int) + 1) R D T G _ S.out HM.out (by omega) (by omega) O0 O1 HV.out).mono ?_
      rintro e w5 ⟨rfl, hb⟩
      have RR := Lib.hid (RR.out.below hb)
      have BB := Lib.hid (below_next BB.out hb)
      clear hb
      go_wp2_with fail
      refine (r5peek_at E P O ((i : Int) + 1) h ((i : Int) + 1) R D T G _ RR.out HM.out NI.out O0 O1 HV.out).mono ?_
      rintro e w6 ⟨rfl, hb⟩
      have BB := Lib.hid (below_next BB.out hb)
      clear hb
      go_wp2
      go_ret
      exact ⟨rfl, BB.out⟩
    · have b1 : decide (i < len) = false := by simp; omega
      have b2 : decide ((i : Int) < (len : Int)) = false := by simp; omega
      obtain ⟨R, D, T, G, hV⟩ := ahead_names E P O ((i : Int) + 1)
      have HV := Lib.hid hV
      clear hV
      go_wp2_with fail
      refine (speek_at E P O i g ((i : Int) + 1) R D T G _ S.out HM.out (by omega) (by omega) O0 O1 HV.out).mono ?_
      rintro e w5 ⟨rfl, hb⟩
      have RR := Lib.hid (RR.out.below hb)
      have BB := Lib.hid (below_next BB.out hb)
      clear hb
      go_wp2_with fail
      refine (r5peek_at E P O ((i : Int) + 1) h ((i : Int) + 1) R D T G _ RR.out HM.out NI.out O0 O1 HV.out).mono ?_
      rintro e w6 ⟨rfl, hb⟩
      have BB := Lib.hid (below_next BB.out hb)
      clear hb
      go_wp2
      go_ret
      exact ⟨rfl, BB.out⟩
end Go.Proofs.Ytbomjnkccgmjjaa
