/-
  The walk of the law StepperLong.
-/
import Derived.Test.YtbomjnkccgmjjaaSt8
namespace Go.Proofs.Ytbomjnkccgmjjaa
open Go.RowKit

set_option maxHeartbeats 4000000 in
theorem long_walk (qa qb n : Int) (w : World) : Calls Try.prog 4 #[.agg #[.int .i64 qa, .int .i64 qb], .int .i64 n] w fun e w' => e = .returned (.bool true) ∧ Below w.heap.size w w' := by
  have r1 := Int.lt_tmod_of_pos n (show (0:Int) < 4001 by omega)
  have r2 := Int.tmod_lt_of_pos n (show (0:Int) < 4001 by omega)
  obtain ⟨r, hr⟩ : ∃ r, n.tmod 4001 = r := ⟨_, rfl⟩
  rw [hr] at r1 r2
  obtain ⟨k, hk⟩ : ∃ k : Nat, (r + 4001) % 4001 = (k : Int) := ⟨((r + 4001) % 4001).toNat, by omega⟩
  have k1 : k ≤ 4000 := by omega
  have Q := Lib.hid (Blk.new w 22 #[Value.int .i64 qa, Value.int .i64 qb])
  go_enter Try.func4, Try.ntmps4
  go_wp2_with fail
  refine (s5awake_any _).mono ?_
  rintro e w1 ⟨rfl, hb⟩
  have B := Lib.hid (below_next (wbox _ _) hb)
  have q0 := (Q.out.below hb).cell 0
  have q1 := (Q.out.below hb).cell 1
  simp at q0 q1
  clear hb
  go_wp2_with fail
  refine (s5made_any qa qb _).mono ?_
  rintro e w2 ⟨E, P, rfl, hM, hb⟩
  have B := Lib.hid (below_next B.out hb)
  have HM := Lib.hid hM
  clear hM hb q0 q1
  have W := Lib.hid (Blk.new w2 26 #[.int .i64 E, .int .i64 P])
  go_wp2_with fail
  obtain ⟨W0, hW0⟩ : ∃ W0, w2.alloc (Obj.cells #[.int .i64 E, .int .i64 P] 26) = W0 := ⟨_, rfl⟩
  have B := Lib.hid (show Below w.heap.size w W0 by rw [← hW0]; exact below_next B.out (wbox _ _))
  rw [hW0] at W
  rw [hW0]
  clear hW0
  refine (snew_yes E P 0 _ HM.out (by decide) (by decide)).mono ?_
  rintro e w3 ⟨g, rfl, hg, hs, hb⟩
  have HG := Lib.hid (show w.heap.size ≤ g from Nat.le_trans B.out.size hg)
  have GW := Lib.hid (show w2.heap.size ≠ g from Nat.ne_of_lt (Nat.lt_of_lt_of_le W.out.lt hg))
  have S := Lib.hid hs
  have W := Lib.hid (W.out.below hb)
  have B := Lib.hid (below_next B.out hb)
  clear hg hs hb
  go_wp2
  rw [hk]
  clear hk hr r1 r2 Q
  go_loopw [9] (fun u wr => ∃ i : Nat, u = .int .i64 i ∧ i ≤ k ∧ Stp wr g E P 0 i ∧ But g w3 wr) (fun u _ => k - (intOf u).toNat)
  case atStart => exact ⟨0, rfl, by omega, S.out, But.refl _ _⟩
  case round =>
    obtain ⟨i, rfl, il, hst, hbut⟩ := hrel
    have HS := Lib.hid hst
    have HB := Lib.hid hbut
    clear hst hbut
    by_cases go : i < k
    · have b1 : decide (i < k) = true := by simp; omega
      go_wp2_with fail
      refine (snext_any E P 0 i g _ HS.out HM.out (by omega) (by omega) (by decide) (by decide)).mono ?_
      rintro e w4 ⟨rfl, hs, hb⟩
      have HS := Lib.hid hs
      have HB := Lib.hid (HB.out.trans hb)
      clear hs hb
      go_wp2
      go_roundw
      case rel => exact ⟨i + 1, by go_num, by omega, HS.out, HB.out⟩
      case measure => simp [intOf]; omega
    · have b1 : decide (i < k) = false := by simp; omega
      obtain rfl : i = k := by omega
      clear go il S
      have W := Lib.hid (W.out.but HB.out GW.out)
      have B := Lib.hid (HB.out.below B.out HG.out B.out.size)
      have c0 := W.out.cell 0; have c1 := W.out.cell 1
      simp at c0 c1
      have NI := Lib.hid (show Nth ((i : Int) + 1) from ⟨by omega, by omega⟩)
      obtain ⟨R, D, T, G, hV⟩ : ∃ R D T G, aheadV E P 0 ((i : Int) + 1) = subV ((i : Int) + 1) R D T G := ⟨_, _, _, _, rfl⟩
      have HO := Lib.hid (r4of_yes E P ((i : Int) + 1) 0 wr HM.out NI.out (by decide) (by decide) _ rfl)
      rw [show subV ((i : Int) + 1) (wR E P ((i : Int) + 1) + 0) (wD E P ((i : Int) + 1) + 0) (wB E P ((i : Int) + 1)) (if wG E P ((i : Int) + 1) = 0 then 0 else wG E P ((i : Int) + 1) + 0) = aheadV E P 0 ((i : Int) + 1) from rfl, hV] at HO
      have HV := Lib.hid hV
      clear hV
      go_wp2_with fail
      refine HO.out.mono ?_
      rintro e w5 ⟨rfl, hb⟩
      have HS := Lib.hid (HS.out.below hb)
      have B := Lib.hid (below_next B.out hb)
      clear hb HO c0 c1
      unfold subV
      have L := Lib.hid (Blk.new w5 35 #[.int .i64 ((i : Int) + 1), .int .i64 R, .int .i64 D, .int .i64 T, .int .i64 G])
      go_wp2
      obtain ⟨W1, hW1⟩ : ∃ W1, w5.alloc (Obj.cells #[.int .i64 ((i : Int) + 1), .int .i64 R, .int .i64 D, .int .i64 T, .int .i64 G] 35) = W1 := ⟨_, rfl⟩
      have HS := Lib.hid (show Stp W1.drew g E P 0 i by rw [← hW1]; exact (HS.out.alloc _).drew)
      have B := Lib.hid (show Below w.heap.size w W1.drew by rw [← hW1]; exact (below_next B.out (wbox _ _)).drew)
      have KEPT := Lib.hid (show ∀ w' : World, Below W1.drew.heap.size W1.drew w' → w'.cell? ⟨w5.heap.size, 0, none⟩ = some (.int .i64 ((i : Int) + 1)) ∧ w'.cell? ⟨w5.heap.size, 1, none⟩ = some (.int .i64 R) ∧ w'.cell? ⟨w5.heap.size, 2, none⟩ = some (.int .i64 D) ∧ w'.cell? ⟨w5.heap.size, 3, none⟩ = some (.int .i64 T) ∧ w'.cell? ⟨w5.heap.size, 4, none⟩ = some (.int .i64 G) from fun w' h => by
        have K : Blk W1.drew 35 w5.heap.size #[.int .i64 ((i : Int) + 1), .int .i64 R, .int .i64 D, .int .i64 T, .int .i64 G] := by rw [← hW1]; exact L.out.drew
        exact ⟨(K.below h).cell 0, (K.below h).cell 1, (K.below h).cell 2, (K.below h).cell 3, (K.below h).cell 4⟩)
      have BB := Lib.hid (Below.refl W1.drew.heap.size W1.drew)
      rw [hW1]
      clear hW1 L
      go_region_held3 (fun w' => w'.cell? ⟨w5.heap.size, 0, none⟩ = some (.int .i64 ((i : Int) + 1)) ∧ w'.cell? ⟨w5.heap.size, 1, none⟩ = some (.int .i64 R) ∧ w'.cell? ⟨w5.heap.size, 2, none⟩ = some (.int .i64 D) ∧ w'.cell? ⟨w5.heap.size, 3, none⟩ = some (.int .i64 T) ∧ w'.cell? ⟨w5.heap.size, 4, none⟩ = some (.int .i64 G))
        (exact KEPT.out _ BB.out)
        (first | (go_at_call 14; (with_reducible refine (speek_at E P 0 i g ((i : Int) + 1) R D T G _ (HS.out.below BB.out) HM.out (by omega) (by omega) (by decide) (by decide) HV.out).mono ?_); rintro e w6 ⟨rfl, hb⟩; have BB := Lib.hid (below_next BB.out hb); clear hb))
      all_goals
        go_wp2
        go_ret
        exact ⟨rfl, below_next B.out BB.out⟩
end Go.Proofs.Ytbomjnkccgmjjaa
