/-
  The walk of the law WindowNext.
-/
import Derived.Test.YtgfhlllddfdapaaWin7
namespace Go.Proofs.Ytgfhlllddfdapaa
open Go.RowKit

set_option maxHeartbeats 4000000 in
theorem next_walk (qa qb n : Int) (w : World) : Calls Try.prog 3 #[.agg #[.int .i64 qa, .int .i64 qb], .int .i64 n] w fun e w' => e = .returned (.bool true) ∧ Below w.heap.size w w' := by
  obtain ⟨m, hm⟩ : ∃ m, bits .and .i64 n 549755813887 = m := ⟨_, rfl⟩
  have mb := mask_le n 549755813887 (by omega) (by omega)
  rw [hm] at mb
  obtain ⟨m0, m1⟩ := mb
  have Q := Lib.hid (Blk.new w 22 #[Value.int .i64 qa, Value.int .i64 qb])
  go_enter Try.func3, Try.ntmps3
  go_wp2_with fail
  refine (wawake_any _).mono ?_
  rintro e w1 ⟨rfl, hb⟩
  have B := Lib.hid (below_next (wbox _ _) hb)
  have q0 := (Q.out.below hb).cell 0
  have q1 := (Q.out.below hb).cell 1
  simp at q0 q1
  clear hb
  go_wp2_with fail
  refine (wmade_any qa qb _).mono ?_
  rintro e w2 ⟨E, P, rfl, hM, hb⟩
  have B := Lib.hid (below_next B.out hb)
  have HM := Lib.hid hM
  have N0 := Lib.hid (show Nth (1 + m) from ⟨by omega, by omega⟩)
  have N1 := Lib.hid (show Nth (1 + m + 1) from ⟨by omega, by omega⟩)
  have N9 := Lib.hid ex_nth1
  have E0 : 0 < E := hM.1
  have P0 : 0 < P := Int.lt_of_lt_of_le hM.1 hM.2.1
  have f1 := next_release (P := P) (i := 1 + m) E0
  have f2 := next_some (i := 1 + m) E0 P0
  have f3 := first_release E P
  have f4 := next_later (i := 1 + m) E0 hM.2.1
  have d0 := wD_fit hM N0.out.1 N0.out.2
  have r0 := wR_fit hM N0.out.1 N0.out.2
  have b0 := wB_bd E P (1 + m)
  obtain ⟨R, hR⟩ : ∃ v, wR E P (1 + m) = v := ⟨_, rfl⟩
  obtain ⟨D, hD⟩ : ∃ v, wD E P (1 + m) = v := ⟨_, rfl⟩
  obtain ⟨T, hT⟩ : ∃ v, wB E P (1 + m) = v := ⟨_, rfl⟩
  obtain ⟨D1, hD1⟩ : ∃ v, wD E P (1 + m + 1) = v := ⟨_, rfl⟩
  rw [hR] at f2 r0
  rw [hD] at f1 f2 f4 d0
  rw [hT] at f1 b0
  rw [hD1] at f4
  have HR := Lib.hid hR; have HD := Lib.hid hD; have HT := Lib.hid hT; have HD1 := Lib.hid hD1; have HR1 := Lib.hid f1; have HR9 := Lib.hid f3
  clear hR hD hT hD1 f1 f3 hM
  have g1 : IntKind.i64.wrap (D - T) = D - T := IntWalk.i64_in _ (by omega)
  have g2 : IntKind.i64.wrap (D - R) = D - R := IntWalk.i64_in _ (by omega)
  have g3 : decide (R < D) = true := by simp; omega
  have g4 : decide (D < D1) = true := by simp; omega
  have g5 : IntKind.i64.wrap (1 + m + 1) = 1 + m + 1 := IntWalk.i64_in _ (by omega)
  clear f2 f4 d0 r0 b0 hb
  have HL := Lib.hid (show wD E P (1 + m) - wR E P (1 + m) = D - R by rw [HR.out, HD.out])
  go_wp2
  have K := Lib.hid (Blk.new w2 25 #[Value.int .i64 E, Value.int .i64 P]).drew
  have BB := Lib.hid (Below.refl (w2.alloc (Obj.cells #[Value.int .i64 E, Value.int .i64 P] 25)).drew.heap.size (w2.alloc (Obj.cells #[Value.int .i64 E, Value.int .i64 P] 25)).drew)
  have KEPT := Lib.hid (show ∀ w' : World, Below (w2.alloc (Obj.cells #[Value.int .i64 E, Value.int .i64 P] 25)).drew.heap.size (w2.alloc (Obj.cells #[Value.int .i64 E, Value.int .i64 P] 25)).drew w' → w'.cell? ⟨w2.heap.size, 0, none⟩ = some (.int .i64 E) ∧ w'.cell? ⟨w2.heap.size, 1, none⟩ = some (.int .i64 P) from fun w' h => ⟨(K.out.below h).cell 0, (K.out.below h).cell 1⟩)
  go_region_held3 (fun w' => w'.cell? ⟨w2.heap.size, 0, none⟩ = some (.int .i64 E) ∧ w'.cell? ⟨w2.heap.size, 1, none⟩ = some (.int .i64 P))
    (exact KEPT.out _ BB.out)
    (first
      | (go_at_call 10; (with_reducible refine (wrelease_at E P (1 + m + 1) (D - T) _ HM.out N1.out HR1.out).mono ?_); rintro e w3 ⟨rfl, hb⟩; have BB := Lib.hid (below_next BB.out hb); clear hb)
      | (go_at_call 10; (with_reducible refine (wrelease_at E P (1 + m) R _ HM.out N0.out HR.out).mono ?_); rintro e w3 ⟨rfl, hb⟩; have BB := Lib.hid (below_next BB.out hb); clear hb)
      | (go_at_call 10; (with_reducible refine (wrelease_at E P 1 0 _ HM.out N9.out HR9.out).mono ?_); rintro e w3 ⟨rfl, hb⟩; have BB := Lib.hid (below_next BB.out hb); clear hb)
      | (go_at_call 11; (with_reducible refine (wdeadline_at E P (1 + m + 1) D1 _ HM.out N1.out HD1.out).mono ?_); rintro e w3 ⟨rfl, hb⟩; have BB := Lib.hid (below_next BB.out hb); clear hb)
      | (go_at_call 11; (with_reducible refine (wdeadline_at E P (1 + m) D _ HM.out N0.out HD.out).mono ?_); rintro e w3 ⟨rfl, hb⟩; have BB := Lib.hid (below_next BB.out hb); clear hb)
      | (go_at_call 12; (with_reducible refine (wbit_at E P (1 + m) T _ HM.out N0.out HT.out).mono ?_); rintro e w3 ⟨rfl, hb⟩; have BB := Lib.hid (below_next BB.out hb); clear hb)
      | (go_at_call 13; (with_reducible refine (wlong_at E P (1 + m) (D - R) _ HM.out N0.out HL.out).mono ?_); rintro e w3 ⟨rfl, hb⟩; have BB := Lib.hid (below_next BB.out hb); clear hb))
  all_goals
    go_wp2
    go_ret
    exact ⟨rfl, below_next (below_next B.out (wbox _ _)).drew BB.out⟩
end Go.Proofs.Ytgfhlllddfdapaa
