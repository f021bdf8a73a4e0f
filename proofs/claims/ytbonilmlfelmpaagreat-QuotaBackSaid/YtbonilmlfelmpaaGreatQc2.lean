/-
  awake, of package quota's laws: contract.
-/
import Derived.Test.YtbonilmlfelmpaaGreatQc1
namespace Go.Proofs.YtbonilmlfelmpaaGreat
open Go.RowKit

def awS : List Sv := [⟨-1, 1, 2⟩, ⟨0, 1, 3⟩]
theorem awS_good : GoodSv awS := ⟨by decide, fun i v hv => by
  match i, hv with
  | 0, hv => cases hv; simp
  | 1, hv => cases hv; simp
  | i + 2, hv => simp [awS] at hv⟩
theorem awS_a : joinQ awS 1 1 [] 1 1 1 2 = (18, []) := by rfl
theorem awS_b : joinQ awS 1 1 [] 1 1 1 3 = (0, [newQ 1 1 1 3]) := by rfl
theorem awS_p : pathQ awS 1 = [1, 0, -1] := by rfl
theorem rowS_lit {X : World} {T : TypeId} {g : Nat} (h : Blk X T g #[.int .i64 (-1), .int .i64 1, .int .i64 2, .int .i64 0, .int .i64 1, .int .i64 3]) : RowS X (some ⟨g, 0, none⟩) 2 2 awS := by
  refine ⟨rfl, by omega, by omega, (fun e => by cases e), fun i hi => ⟨g, 0, rfl, fun j hj => ?_⟩⟩
  rw [h.cell]
  match i, hi, j, hj with
  | 0, _, 0, _ => rfl
  | 0, _, 1, _ => rfl
  | 0, _, 2, _ => rfl
  | 1, _, 0, _ => rfl
  | 1, _, 1, _ => rfl
  | 1, _, 2, _ => rfl
theorem rowI_lit {X : World} {T : TypeId} {g : Nat} (h : Blk X T g #[.int .i64 1, .int .i64 0, .int .i64 (-1)]) : Row .i64 X (some ⟨g, 0, none⟩) 3 3 [1, 0, -1] := by
  refine ⟨rfl, by omega, by omega, (fun e => by cases e), fun i hi => ⟨g, 0, rfl, ?_⟩⟩
  rw [h.cell]
  match i, hi with
  | 0, _ => rfl
  | 1, _ => rfl
  | 2, _ => rfl
def G0q : Nat → Prop := fun _ => False
set_option maxHeartbeats 2000000 in
theorem awake13_any (w : World) : Calls Tryz.prog 6 #[] w fun e w' => e = .returned (.bool true) ∧ Below w.heap.size w w' := by
  obtain ⟨W1, hW1⟩ : ∃ W1, w.alloc (.cells #[.int .i64 (-1), .int .i64 1, .int .i64 2, .int .i64 0, .int .i64 1, .int .i64 3] 61) = W1 := ⟨_, rfl⟩
  have B1 := Lib.hid (show Below w.heap.size w W1 by rw [← hW1]; exact wbox _ _)
  have R1 := Lib.hid (show RowS W1 (some ⟨w.heap.size, 0, none⟩) 2 2 awS by rw [← hW1]; exact rowS_lit (Blk.new w 61 _))
  go_enter Tryz.func6, Tryz.ntmps6
  go_wp2_with fail
  (try rw [hW1])
  refine (one13_any 1 1 _ (by omega) (by omega) (by omega) (by omega)).mono ?_
  rintro e w2 ⟨v, rfl, hr, hb⟩
  have V := Lib.hid hr
  have R2 := Lib.hid (R1.out.below hb)
  have B2 := Lib.hid (below_next B1.out hb)
  clear hb hr
  go_wp2_with fail
  refine (m13new (G := G0q) v 1 1 1 _ _ 2 2 awS w w2 B2.out V.out (by omega) (by omega) R2.out awS_good (fun _ q => q.elim) (fun _ q => q.elim)).mono ?_
  rintro e w3 ⟨g, rfl, hm, hb⟩
  have M := Lib.hid hm
  clear hm hb
  go_wp2_with fail
  refine (m13join 1 1 1 2 M.out (by simp) 18 [] awS_a).mono ?_
  rintro e w4 ⟨rfl, hm, _, _⟩
  have M := Lib.hid hm
  clear hm
  go_wp2_with fail
  refine (m13join 1 1 1 3 M.out (by simp) 0 _ awS_b).mono ?_
  rintro e w5 ⟨rfl, hm, _, _⟩
  have M := Lib.hid hm
  clear hm
  go_wp2_with fail
  refine (m13path 1 M.out).mono ?_
  rintro e w6 ⟨a, len, cap, rfl, hr, _, hb⟩
  rw [awS_p] at hr
  obtain rfl : len = 3 := hr.len.symm
  have R6 := Lib.hid hr
  have B6 := Lib.hid (below_next M.out.below hb)
  obtain ⟨W7, hW7⟩ : ∃ W7, w6.alloc (.cells #[.int .i64 1, .int .i64 0, .int .i64 (-1)] 3) = W7 := ⟨_, rfl⟩
  have B7 := Lib.hid (show Below w6.heap.size w6 W7 by rw [← hW7]; exact wbox _ _)
  have R7 := Lib.hid (show Row .i64 W7 (some ⟨w6.heap.size, 0, none⟩) 3 3 [1, 0, -1] by rw [← hW7]; exact rowI_lit (Blk.new w6 3 _))
  clear hb hr
  go_wp2_with fail
  (try rw [hW7])
  refine (r7same_yes a (some ⟨w6.heap.size, 0, none⟩) 3 cap 3 [1, 0, -1] _ (R6.out.below B7.out) R7.out).mono ?_
  rintro e w8 ⟨rfl, hb⟩
  have B8 := Lib.hid (below_next (below_next B6.out B7.out) hb)
  clear hb
  go_wp2
  go_ret
  exact ⟨rfl, B8.out⟩
end Go.Proofs.YtbonilmlfelmpaaGreat
