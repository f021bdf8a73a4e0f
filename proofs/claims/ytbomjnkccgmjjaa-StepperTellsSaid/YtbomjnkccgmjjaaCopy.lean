/-
  The walk of the law StepperCopy.
-/
import Derived.Test.YtbomjnkccgmjjaaSt8
namespace Go.Proofs.Ytbomjnkccgmjjaa
open Go.RowKit

/-- what a shift leaves, and answers -/
def ShTo (O k O' : Int) (b : Bool) : Prop := (0 ≤ k ∧ O + k ≤ 2305843009213693952 ∧ O' = O + k ∧ b = true) ∨ ((k < 0 ∨ 2305843009213693952 < O + k) ∧ O' = O ∧ b = false)
theorem shTo_ex (O k : Int) (O0 : 0 ≤ O) (O1 : O ≤ 2305843009213693952) : ∃ O' b, ShTo O k O' b ∧ 0 ≤ O' ∧ O' ≤ 2305843009213693952 := by
  by_cases h : 0 ≤ k ∧ O + k ≤ 2305843009213693952
  · exact ⟨O + k, true, .inl ⟨h.1, h.2, rfl, rfl⟩, by omega, by omega⟩
  · exact ⟨O, false, .inr ⟨by omega, rfl, rfl⟩, O0, O1⟩
theorem sshift_at (E P O n k O' : Int) (b : Bool) (g : Nat) (w : World) (h : Stp w g E P O n) (hM : MayBe E P) (O0 : 0 ≤ O) (O1 : O ≤ 2305843009213693952) (hS : ShTo O k O' b) :
    Calls Try.prog 12 #[.pointer (some ⟨g, 0, none⟩), .int .i64 k] w
      fun e w' => e = .returned (.bool b) ∧ Stp w' g E P O' n ∧ But g w w' := by
  refine (sshift_any E P O n k g w h hM O0 O1).mono ?_
  rintro e w' (⟨a1, a2, rfl, hs, hb⟩ | ⟨a1, rfl, rfl⟩)
  · rcases hS with ⟨_, _, rfl, rfl⟩ | ⟨x, _, _⟩
    · exact ⟨rfl, hs, hb⟩
    · omega
  · rcases hS with ⟨_, _, _, _⟩ | ⟨x, rfl, rfl⟩
    · omega
    · exact ⟨rfl, h, But.refl _ _⟩
theorem scopy_ex (E P O n : Int) (g : Nat) (w : World) (h : Stp w g E P O n) :
    Calls Try.prog 19 #[.pointer (some ⟨g, 0, none⟩)] w fun e w' => ∃ c, e = .returned (.pointer (some ⟨c, 0, none⟩)) ∧ w.heap.size ≤ c ∧ Stp w' c E P O n ∧ Below w.heap.size w w' :=
  (scopy_any E P O n g w h).mono fun _ _ ⟨h1, h2, h3⟩ => ⟨_, h1, Nat.le_refl _, h2, h3⟩
theorem Stp.cast {W : World} {g : Nat} {E P O n n' : Int} (h : Stp W g E P O n) (e : n = n') : Stp W g E P O n' := e ▸ h

set_option maxRecDepth 20000 in
set_option maxHeartbeats 4000000 in
theorem copy_walk (qa qb n0 n1 n2 sh : Int) (w : World) : Calls Try.prog 6 #[.agg #[.int .i64 qa, .int .i64 qb], .agg #[.int .i64 n0, .int .i64 n1, .int .i64 n2], .int .i64 sh] w fun e w' => e = .returned (.bool true) ∧ Below w.heap.size w w' := by
  have r1 := Int.lt_tmod_of_pos n0 (show (0:Int) < 101 by omega)
  have r2 := Int.tmod_lt_of_pos n0 (show (0:Int) < 101 by omega)
  obtain ⟨r, hr⟩ : ∃ r, n0.tmod 101 = r := ⟨_, rfl⟩
  rw [hr] at r1 r2
  obtain ⟨m0, hm0⟩ : ∃ m : Nat, (r + 101) % 101 = (m : Int) := ⟨((r + 101) % 101).toNat, by omega⟩
  have m0l : m0 ≤ 100 := by omega
  have s1 := Int.lt_tmod_of_pos n1 (show (0:Int) < 51 by omega)
  have s2 := Int.tmod_lt_of_pos n1 (show (0:Int) < 51 by omega)
  obtain ⟨s, hs⟩ : ∃ r, n1.tmod 51 = r := ⟨_, rfl⟩
  rw [hs] at s1 s2
  obtain ⟨m1, hm1⟩ : ∃ m : Nat, (s + 51) % 51 = (m : Int) := ⟨((s + 51) % 51).toNat, by omega⟩
  have m1l : m1 ≤ 50 := by omega
  obtain ⟨O', sb, hS, o0, o1⟩ := shTo_ex 0 sh (by decide) (by decide)
  have HS := Lib.hid hS
  clear hS
  have Q := Lib.hid ((Blk.new w 22 #[Value.int .i64 qa, Value.int .i64 qb]).alloc (Obj.cells #[Value.int .i64 n0, Value.int .i64 n1, Value.int .i64 n2] 43))
  have N := Lib.hid (Blk.new2 w (Obj.cells #[Value.int .i64 qa, Value.int .i64 qb] 22) 43 #[Value.int .i64 n0, Value.int .i64 n1, Value.int .i64 n2])
  go_enter Try.func6, Try.ntmps6
  go_wp2_with fail
  refine (s5awake_any _).mono ?_
  rintro e w1 ⟨rfl, hb⟩
  have B := Lib.hid (below_next (below_next (wbox _ _) (wbox _ _)) hb)
  have q0 := (Q.out.below hb).cell 0
  have q1 := (Q.out.below hb).cell 1
  simp at q0 q1
  have N := Lib.hid (N.out.below hb)
  clear hb
  go_wp2_with fail
  refine (s5made_any qa qb _).mono ?_
  rintro e w2 ⟨E, P, rfl, hM, hb⟩
  have B := Lib.hid (below_next B.out hb)
  have N := Lib.hid (N.out.below hb)
  have HM := Lib.hid hM
  clear hM hb q0 q1 Q
  have W := Lib.hid (Blk.new w2 26 #[.int .i64 E, .int .i64 P])
  go_wp2_with fail
  obtain ⟨W0, hW0⟩ : ∃ W0, w2.alloc (Obj.cells #[.int .i64 E, .int .i64 P] 26) = W0 := ⟨_, rfl⟩
  have B := Lib.hid (show Below w.heap.size w W0 by rw [← hW0]; exact below_next B.out (wbox _ _))
  have N := Lib.hid (show Blk W0 43 (w.heap.size + 1) #[Value.int .i64 n0, Value.int .i64 n1, Value.int .i64 n2] by rw [← hW0]; exact N.out.alloc _)
  rw [hW0] at W
  rw [hW0]
  clear hW0
  refine (snew_yes E P 0 _ HM.out (by decide) (by decide)).mono ?_
  rintro e w3 ⟨g, rfl, hg, hs', hb⟩
  have HG := Lib.hid (show w.heap.size ≤ g from Nat.le_trans B.out.size hg)
  have NG := Lib.hid (show w.heap.size + 1 ≠ g from Nat.ne_of_lt (Nat.lt_of_lt_of_le N.out.lt hg))
  have S := Lib.hid hs'
  have N := Lib.hid (N.out.below hb)
  have B := Lib.hid (below_next B.out hb)
  clear hg hs' hb W
  go_wp2
  go_loopw [10] (fun u wr => ∃ i : Nat, u = .int .i64 i ∧ i ≤ m0 ∧ Stp wr g E P 0 i ∧ But g w3 wr) (fun u _ => m0 - (intOf u).toNat)
  case atStart => exact ⟨0, rfl, by omega, S.out, But.refl _ _⟩
  case round =>
    obtain ⟨i, rfl, il, hst, hbut⟩ := hrel
    have S := Lib.hid hst
    have N := Lib.hid (N.out.but hbut NG.out)
    have HB := Lib.hid hbut
    have nc0 := N.out.cell 0
    have nc1 := N.out.cell 1
    simp at nc0 nc1
    clear hst hbut
    by_cases go : i < m0
    · have b1 : decide (i < m0) = true := by simp; omega
      have b2 : decide ((i : Int) < (m0 : Int)) = true := by simp; omega
      go_wp2_with fail
      refine (snext_any E P 0 i g _ S.out HM.out (by omega) (by omega) (by decide) (by decide)).mono ?_
      rintro e w4 ⟨rfl, hs', hb⟩
      have S := Lib.hid hs'
      have HB := Lib.hid (HB.out.trans hb)
      clear hs' hb
      go_wp2
      go_roundw
      case rel => exact ⟨i + 1, by go_num, by omega, S.out, HB.out⟩
      case measure => simp [intOf]; omega
    have b1 : decide (i < m0) = false := by simp; omega
    have b2 : decide ((i : Int) < (m0 : Int)) = false := by simp; omega
    have S := Lib.hid (S.out.cast (show (i : Int) = (m0 : Int) by omega))
    have B := Lib.hid (HB.out.below B.out HG.out B.out.size)
    obtain ⟨wa, hwa⟩ : ∃ wa, wa = wr := ⟨_, rfl⟩
    rw [← hwa] at S B N nc0 nc1 ⊢
    clear HB hwa
    go_wp2_with fail
    refine (scopy_ex E P 0 m0 g _ S.out).mono ?_
    rintro e w5 ⟨c, rfl, hc, hs', hb⟩
    have HC := Lib.hid (show w.heap.size ≤ c from Nat.le_trans B.out.size hc)
    have NC := Lib.hid (show w.heap.size + 1 ≠ c from Nat.ne_of_lt (Nat.lt_of_lt_of_le N.out.lt hc))
    have GC := Lib.hid (show g ≠ c from Nat.ne_of_lt (Nat.lt_of_lt_of_le S.out.lt hc))
    have S := Lib.hid (S.out.below hb)
    have C := Lib.hid hs'
    have N := Lib.hid (N.out.below hb)
    have B := Lib.hid (below_next B.out hb)
    clear hc hs' hb nc0 nc1
    obtain ⟨R, D, T, G, hV⟩ := ahead_names E P 0 ((m0 : Int) + 1)
    have HV := Lib.hid hV
    clear hV
    go_wp2_with fail
    refine (speek_at E P 0 m0 g ((m0 : Int) + 1) R D T G _ S.out HM.out (by omega) (by omega) (by decide) (by decide) HV.out).mono ?_
    rintro e w6 ⟨rfl, hb⟩
    have S := Lib.hid (S.out.below hb)
    have C := Lib.hid (C.out.below hb)
    have N := Lib.hid (N.out.below hb)
    have B := Lib.hid (below_next B.out hb)
    clear hb
    obtain ⟨h, hh⟩ : ∃ h, w6.heap.size = h := ⟨_, rfl⟩
    have L := Lib.hid (Blk.new w6 35 #[.int .i64 ((m0 : Int) + 1), .int .i64 R, .int .i64 D, .int .i64 T, .int .i64 G])
    have HL := Lib.hid (show w.heap.size ≤ h by rw [← hh]; exact B.out.size)
    have CL := Lib.hid (show h ≠ c from fun e => Nat.lt_irrefl _ (Nat.lt_of_lt_of_eq (hh ▸ C.out.lt : c < h) e))
    have GL := Lib.hid (show h ≠ g from fun e => Nat.lt_irrefl _ (Nat.lt_of_lt_of_eq (hh ▸ S.out.lt : g < h) e))
    go_wp2
    obtain ⟨W1, hW1⟩ : ∃ W1, w6.alloc (Obj.cells #[.int .i64 ((m0 : Int) + 1), .int .i64 R, .int .i64 D, .int .i64 T, .int .i64 G] 35) = W1 := ⟨_, rfl⟩
    have S := Lib.hid (show Stp W1 g E P 0 m0 by rw [← hW1]; exact S.out.alloc _)
    have C := Lib.hid (show Stp W1 c E P 0 m0 by rw [← hW1]; exact C.out.alloc _)
    have N := Lib.hid (show Blk W1 43 (w.heap.size + 1) #[Value.int .i64 n0, Value.int .i64 n1, Value.int .i64 n2] by rw [← hW1]; exact N.out.alloc _)
    have B := Lib.hid (show Below w.heap.size w W1 by rw [← hW1]; exact below_next B.out (wbox _ _))
    rw [hW1, hh] at L
    rw [hW1]
    clear hW1 hh
    go_loopw [13] (fun u wr => ∃ i : Nat, u = .int .i64 i ∧ i ≤ m1 ∧ Stp wr c E P 0 ((m0 : Int) + i) ∧ But c W1 wr) (fun u _ => m1 - (intOf u).toNat)
    case atStart => exact ⟨0, rfl, by omega, C.out.cast (by omega), But.refl _ _⟩
    case round =>
      obtain ⟨j, rfl, jl, hst, hbut⟩ := hrel
      clear C
      have C := Lib.hid hst
      have N := Lib.hid (N.out.but hbut NC.out)
      have HB := Lib.hid hbut
      have nc0 := N.out.cell 0
      have nc1 := N.out.cell 1
      simp at nc0 nc1
      clear hst hbut
      by_cases go' : j < m1
      · have b3 : decide (j < m1) = true := by simp; omega
        have b4 : decide ((j : Int) < (m1 : Int)) = true := by simp; omega
        go_wp2_with fail
        refine (snext_any E P 0 ((m0 : Int) + j) c _ C.out HM.out (by omega) (by omega) (by decide) (by decide)).mono ?_
        rintro e w7 ⟨rfl, hs', hb⟩
        have C := Lib.hid (hs'.cast (show (m0 : Int) + j + 1 = (m0 : Int) + ((j + 1 : Nat) : Int) by omega))
        have HB := Lib.hid (HB.out.trans hb)
        clear hs' hb
        go_wp2
        go_roundw
        case rel => exact ⟨j + 1, by go_num, by omega, C.out, HB.out⟩
        case measure => simp [intOf]; omega
      have b3 : decide (j < m1) = false := by simp; omega
      have b4 : decide ((j : Int) < (m1 : Int)) = false := by simp; omega
      have C := Lib.hid (C.out.cast (show (m0 : Int) + j = (m0 : Int) + m1 by omega))
      have S := Lib.hid (S.out.but HB.out GC.out)
      have L := Lib.hid (L.out.but HB.out CL.out)
      have B := Lib.hid (HB.out.below B.out HC.out B.out.size)
      obtain ⟨wb, hwb⟩ : ∃ wb, wb = wr := ⟨_, rfl⟩
      rw [← hwb] at S B N C L nc0 nc1 ⊢
      clear HB hwb
      go_wp2_with fail
      refine (sshift_at E P 0 ((m0 : Int) + m1) sh O' sb c _ C.out HM.out (by decide) (by decide) HS.out).mono ?_
      rintro e w8 ⟨rfl, hs', hb⟩
      have C := Lib.hid hs'
      have S := Lib.hid (S.out.but hb GC.out)
      have L := Lib.hid (L.out.but hb CL.out)
      have N := Lib.hid (N.out.but hb NC.out)
      have B := Lib.hid (hb.below B.out HC.out B.out.size)
      clear hs' hb nc0 nc1
      go_upto_region 19 with fail
      have S := Lib.hid S.out.drew
      have C := Lib.hid C.out.drew
      have N := Lib.hid N.out.drew
      have L := Lib.hid L.out.drew
      have B := Lib.hid B.out.drew
      have KEPT := Lib.hid (show ∀ w' : World, Below w8.drew.heap.size w8.drew w' → w'.cell? ⟨h, 0, none⟩ = some (.int .i64 ((m0 : Int) + 1)) ∧ w'.cell? ⟨h, 1, none⟩ = some (.int .i64 R) ∧ w'.cell? ⟨h, 2, none⟩ = some (.int .i64 D) ∧ w'.cell? ⟨h, 3, none⟩ = some (.int .i64 T) ∧ w'.cell? ⟨h, 4, none⟩ = some (.int .i64 G) from fun w' h => ⟨(L.out.below h).cell 0, (L.out.below h).cell 1, (L.out.below h).cell 2, (L.out.below h).cell 3, (L.out.below h).cell 4⟩)
      have BB := Lib.hid (Below.refl w8.drew.heap.size w8.drew)
      go_region_held3 (fun w' => w'.cell? ⟨h, 0, none⟩ = some (.int .i64 ((m0 : Int) + 1)) ∧ w'.cell? ⟨h, 1, none⟩ = some (.int .i64 R) ∧ w'.cell? ⟨h, 2, none⟩ = some (.int .i64 D) ∧ w'.cell? ⟨h, 3, none⟩ = some (.int .i64 T) ∧ w'.cell? ⟨h, 4, none⟩ = some (.int .i64 G))
        (exact KEPT.out _ BB.out)
        (first | (go_at_call 14; (with_reducible refine (speek_at E P 0 m0 g ((m0 : Int) + 1) R D T G _ (S.out.below BB.out) HM.out (by omega) (by omega) (by decide) (by decide) HV.out).mono ?_); rintro e w9 ⟨rfl, hb⟩; have BB := Lib.hid (below_next BB.out hb); clear hb))
      have S := Lib.hid (S.out.below BB.out)
      have C := Lib.hid (C.out.below BB.out)
      have N := Lib.hid (N.out.below BB.out)
      have L := Lib.hid (L.out.below BB.out)
      have B := Lib.hid (below_next B.out BB.out)
      clear BB KEPT
      go_wp2_with fail
      refine (scopy_ex E P 0 m0 g _ S.out).mono ?_
      rintro e w10 ⟨d, rfl, hd, hs', hb⟩
      have GD := Lib.hid (show d ≠ g from Nat.ne_of_gt (Nat.lt_of_lt_of_le S.out.lt hd))
      have S := Lib.hid (S.out.below hb)
      have C := Lib.hid (C.out.below hb)
      have N := Lib.hid (N.out.below hb)
      have L := Lib.hid (L.out.below hb)
      have X := Lib.hid hs'
      have B := Lib.hid (below_next B.out hb)
      clear hd hs' hb
      go_wp2
      go_loopw [15] (fun u wr => ∃ i : Nat, u = .int .i64 i ∧ i ≤ m1 ∧ Stp wr g E P 0 ((m0 : Int) + i) ∧ But g w10 wr) (fun u _ => m1 - (intOf u).toNat)
      case atStart => exact ⟨0, rfl, by omega, S.out.cast (by omega), But.refl _ _⟩
      case round =>
        obtain ⟨l, rfl, ll, hst, hbut⟩ := hrel
        clear S
        have S := Lib.hid hst
        have N := Lib.hid (N.out.but hbut NG.out)
        have HB := Lib.hid hbut
        have nc0 := N.out.cell 0
        have nc1 := N.out.cell 1
        simp at nc0 nc1
        clear hst hbut
        by_cases go'' : l < m1
        · have b5 : decide (l < m1) = true := by simp; omega
          have b6 : decide ((l : Int) < (m1 : Int)) = true := by simp; omega
          go_wp2_with fail
          refine (snext_any E P 0 ((m0 : Int) + l) g _ S.out HM.out (by omega) (by omega) (by decide) (by decide)).mono ?_
          rintro e w11 ⟨rfl, hs', hb⟩
          have S := Lib.hid (hs'.cast (show (m0 : Int) + l + 1 = (m0 : Int) + ((l + 1 : Nat) : Int) by omega))
          have HB := Lib.hid (HB.out.trans hb)
          clear hs' hb
          go_wp2
          go_roundw
          case rel => exact ⟨l + 1, by go_num, by omega, S.out, HB.out⟩
          case measure => simp [intOf]; omega
        have b5 : decide (l < m1) = false := by simp; omega
        have b6 : decide ((l : Int) < (m1 : Int)) = false := by simp; omega
        have S := Lib.hid (S.out.cast (show (m0 : Int) + l = (m0 : Int) + m1 by omega))
        have C := Lib.hid (C.out.but HB.out (Ne.symm GC.out))
        have X := Lib.hid (X.out.but HB.out GD.out)
        have L := Lib.hid (L.out.but HB.out GL.out)
        have B := Lib.hid (HB.out.below B.out HG.out B.out.size)
        obtain ⟨wc, hwc⟩ : ∃ wc, wc = wr := ⟨_, rfl⟩
        rw [← hwc] at S B C X L nc0 nc1 ⊢
        clear HB N hwc
        go_wp2_with fail
        refine (sshift_at E P 0 ((m0 : Int) + m1) sh O' sb g _ S.out HM.out (by decide) (by decide) HS.out).mono ?_
        rintro e w12 ⟨rfl, hs', hb⟩
        have C := Lib.hid (C.out.but hb (Ne.symm GC.out))
        have X := Lib.hid (X.out.but hb GD.out)
        have L := Lib.hid (L.out.but hb GL.out)
        have S := Lib.hid hs'
        have B := Lib.hid (hb.below B.out HG.out B.out.size)
        clear hs' hb nc0 nc1
        obtain ⟨R', D', T', G', hV'⟩ := ahead_names E P O' ((m0 : Int) + m1 + 1)
        have HV' := Lib.hid hV'
        clear hV'
        go_upto_region 27 with fail
        have S := Lib.hid S.out.drew
        have C := Lib.hid C.out.drew
        have X := Lib.hid X.out.drew
        have L := Lib.hid L.out.drew
        have B := Lib.hid B.out.drew
        have KEPT := Lib.hid (show ∀ w' : World, Below w12.drew.heap.size w12.drew w' → w'.cell? ⟨h, 0, none⟩ = some (.int .i64 ((m0 : Int) + 1)) ∧ w'.cell? ⟨h, 1, none⟩ = some (.int .i64 R) ∧ w'.cell? ⟨h, 2, none⟩ = some (.int .i64 D) ∧ w'.cell? ⟨h, 3, none⟩ = some (.int .i64 T) ∧ w'.cell? ⟨h, 4, none⟩ = some (.int .i64 G) from fun w' h => ⟨(L.out.below h).cell 0, (L.out.below h).cell 1, (L.out.below h).cell 2, (L.out.below h).cell 3, (L.out.below h).cell 4⟩)
        have BB := Lib.hid (Below.refl w12.drew.heap.size w12.drew)
        go_region_held3 (fun w' => w'.cell? ⟨h, 0, none⟩ = some (.int .i64 ((m0 : Int) + 1)) ∧ w'.cell? ⟨h, 1, none⟩ = some (.int .i64 R) ∧ w'.cell? ⟨h, 2, none⟩ = some (.int .i64 D) ∧ w'.cell? ⟨h, 3, none⟩ = some (.int .i64 T) ∧ w'.cell? ⟨h, 4, none⟩ = some (.int .i64 G))
          (exact KEPT.out _ BB.out)
          (first
            | (go_at_call 14; (with_reducible refine (speek_at E P O' ((m0 : Int) + m1) g ((m0 : Int) + m1 + 1) R' D' T' G' _ (S.out.below BB.out) HM.out (by omega) (by omega) o0 o1 HV'.out).mono ?_); rintro e w13 ⟨rfl, hb⟩; have BB := Lib.hid (below_next BB.out hb); clear hb)
            | (go_at_call 14; (with_reducible refine (speek_at E P O' ((m0 : Int) + m1) c ((m0 : Int) + m1 + 1) R' D' T' G' _ (C.out.below BB.out) HM.out (by omega) (by omega) o0 o1 HV'.out).mono ?_); rintro e w13 ⟨rfl, hb⟩; have BB := Lib.hid (below_next BB.out hb); clear hb)
            | (go_at_call 14; (with_reducible refine (speek_at E P 0 m0 d ((m0 : Int) + 1) R D T G _ (X.out.below BB.out) HM.out (by omega) (by omega) (by decide) (by decide) HV.out).mono ?_); rintro e w13 ⟨rfl, hb⟩; have BB := Lib.hid (below_next BB.out hb); clear hb))
        all_goals
          go_wp2
          go_ret
          exact ⟨rfl, below_next B.out BB.out⟩
end Go.Proofs.Ytbomjnkccgmjjaa
