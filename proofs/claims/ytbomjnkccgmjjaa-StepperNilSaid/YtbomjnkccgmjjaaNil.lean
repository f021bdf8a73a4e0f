/-
  The walk of the law StepperNil.
-/
import Derived.Test.YtbomjnkccgmjjaaSt8
namespace Go.Proofs.Ytbomjnkccgmjjaa
open Go.RowKit

theorem snew_zero (E P : Int) (w : World) (may : Bool) (h : may = true ↔ MayBe E P) :
    Calls Try.prog 11 #[.agg #[.int .i64 E, .int .i64 P], .int .i64 0] w fun e w' => ∃ p : Option Addr, e = .returned (.pointer p) ∧ (p = none ↔ may = false) ∧ Below w.heap.size w w' := by
  by_cases q : MayBe E P
  · refine (snew_yes E P 0 w q (by decide) (by decide)).mono ?_
    rintro e w1 ⟨g, rfl, hg, hs, hb⟩
    refine ⟨_, rfl, ?_, hb⟩
    have : may = true := h.2 q
    simp [this]
  · refine (snew_no E P 0 w (.inl q)).mono ?_
    rintro e w1 ⟨rfl, hb⟩
    refine ⟨_, rfl, ?_, hb⟩
    have : ¬ may = true := fun x => q (h.1 x)
    simp at this
    simp [this]
theorem snext_nilA (w : World) : Calls Try.prog 16 #[.pointer none] w fun e w' => e = .returned (.agg #[.int .i64 0, .int .i64 0, .int .i64 0, .int .i64 0, .int .i64 0]) ∧ Below w.heap.size w w' := snext_nil w
theorem speek_nilA (w : World) : Calls Try.prog 14 #[.pointer none] w fun e w' => e = .returned (.agg #[.int .i64 0, .int .i64 0, .int .i64 0, .int .i64 0, .int .i64 0]) ∧ Below w.heap.size w w' := speek_nil w
theorem snext_zeroA (g : Nat) (w : World) (h : Blk w 50 g #[.int .i64 0, .int .i64 0, .int .i64 0, .int .i64 0, .int .i64 0, .int .i64 0, .int .i64 0, .int .i64 0, .int .i64 0, .int .i64 0, .int .i64 0, .int .i64 0]) : Calls Try.prog 16 #[.pointer (some ⟨g, 0, none⟩)] w fun e w' => e = .returned (.agg #[.int .i64 0, .int .i64 0, .int .i64 0, .int .i64 0, .int .i64 0]) ∧ Below w.heap.size w w' := snext_zero g w h
theorem speek_zeroA (g : Nat) (w : World) (h : Blk w 50 g #[.int .i64 0, .int .i64 0, .int .i64 0, .int .i64 0, .int .i64 0, .int .i64 0, .int .i64 0, .int .i64 0, .int .i64 0, .int .i64 0, .int .i64 0, .int .i64 0]) : Calls Try.prog 14 #[.pointer (some ⟨g, 0, none⟩)] w fun e w' => e = .returned (.agg #[.int .i64 0, .int .i64 0, .int .i64 0, .int .i64 0, .int .i64 0]) ∧ Below w.heap.size w w' := speek_zero g w h
theorem sshift_zeroA (k : Int) (g : Nat) (w : World) (h : Blk w 50 g #[.int .i64 0, .int .i64 0, .int .i64 0, .int .i64 0, .int .i64 0, .int .i64 0, .int .i64 0, .int .i64 0, .int .i64 0, .int .i64 0, .int .i64 0, .int .i64 0]) : Calls Try.prog 12 #[.pointer (some ⟨g, 0, none⟩), .int .i64 k] w fun e w' => e = .returned (.bool false) ∧ w = w' := sshift_zero k g w h
theorem scopy_zeroA (g : Nat) (w : World) (h : Blk w 50 g #[.int .i64 0, .int .i64 0, .int .i64 0, .int .i64 0, .int .i64 0, .int .i64 0, .int .i64 0, .int .i64 0, .int .i64 0, .int .i64 0, .int .i64 0, .int .i64 0]) : Calls Try.prog 19 #[.pointer (some ⟨g, 0, none⟩)] w fun e w' => e = .returned (.pointer (some ⟨w.heap.size, 0, none⟩)) ∧ Below w.heap.size w w' :=
  (scopy_blk 0 0 0 0 0 0 0 0 0 0 0 0 g w h).mono fun _ _ ⟨h1, _, h2⟩ => ⟨h1, h2⟩
set_option maxHeartbeats 4000000 in
theorem nil_walk (E P : Int) (w : World) : Calls Try.prog 8 #[.agg #[.int .i64 E, .int .i64 P]] w fun e w' => e = .returned (.bool true) ∧ Below w.heap.size w w' := by
  obtain ⟨may, hmay⟩ : ∃ may : Bool, may = true ↔ MayBe E P := ⟨decide (1 ≤ E ∧ E ≤ P ∧ P ≤ 1048576), by simp [MayBe]⟩
  have HY := Lib.hid hmay
  clear hmay
  have Q := Lib.hid (Blk.new w 26 #[Value.int .i64 E, Value.int .i64 P])
  go_enter Try.func8, Try.ntmps8
  go_wp2_with fail
  refine (snew_zero E P _ may HY.out).mono ?_
  rintro e w1 ⟨p, rfl, hp, hb⟩
  have HP := Lib.hid hp
  have B := Lib.hid (below_next (wbox _ _) hb)
  have q0 := (Q.out.below hb).cell 0
  have q1 := (Q.out.below hb).cell 1
  simp at q0 q1
  clear hb hp
  go_wp2_with fail
  refine (r4check_any E P _ may HY.out).mono ?_
  rintro e w2 ⟨rfl, hb⟩
  have B := Lib.hid (below_next B.out hb)
  clear hb q0 q1
  go_upto_region 9 with fail
  obtain ⟨W1, hW1⟩ : ∃ W1, (w2.alloc (Obj.cells #[.int .i64 0, .int .i64 0, .int .i64 0, .int .i64 0, .int .i64 0, .int .i64 0, .int .i64 0, .int .i64 0, .int .i64 0, .int .i64 0, .int .i64 0, .int .i64 0] 50)).alloc (Obj.cells #[.int .i64 0, .int .i64 0, .int .i64 0, .int .i64 0, .int .i64 0] 35) = W1 := ⟨_, rfl⟩
  have O := Lib.hid (show Blk W1.drew 50 w2.heap.size #[.int .i64 0, .int .i64 0, .int .i64 0, .int .i64 0, .int .i64 0, .int .i64 0, .int .i64 0, .int .i64 0, .int .i64 0, .int .i64 0, .int .i64 0, .int .i64 0] by rw [← hW1]; exact ((Blk.new _ _ _).alloc _).drew)
  have B := Lib.hid (show Below w.heap.size w W1.drew by rw [← hW1]; exact (below_next (below_next B.out (wbox _ _)) (wbox _ _)).drew)
  have KEPT := Lib.hid (show ∀ w' : World, Below W1.drew.heap.size W1.drew w' → w'.cell? ⟨w2.heap.size + 1, 0, none⟩ = some (.int .i64 0) ∧ w'.cell? ⟨w2.heap.size + 1, 1, none⟩ = some (.int .i64 0) ∧ w'.cell? ⟨w2.heap.size + 1, 2, none⟩ = some (.int .i64 0) ∧ w'.cell? ⟨w2.heap.size + 1, 3, none⟩ = some (.int .i64 0) ∧ w'.cell? ⟨w2.heap.size + 1, 4, none⟩ = some (.int .i64 0) from fun w' h => by
    have K : Blk W1.drew 35 (w2.heap.size + 1) #[.int .i64 0, .int .i64 0, .int .i64 0, .int .i64 0, .int .i64 0] := by rw [← hW1]; exact (Blk.new2 _ _ _ _).drew
    exact ⟨(K.below h).cell 0, (K.below h).cell 1, (K.below h).cell 2, (K.below h).cell 3, (K.below h).cell 4⟩)
  have BB := Lib.hid (Below.refl W1.drew.heap.size W1.drew)
  rw [hW1]
  clear hW1 Q
  rcases p with _ | a
  · obtain rfl : may = false := by simpa using HP.out
    clear HP HY
    go_region_held3 (fun w' => w'.cell? ⟨w2.heap.size + 1, 0, none⟩ = some (.int .i64 0) ∧ w'.cell? ⟨w2.heap.size + 1, 1, none⟩ = some (.int .i64 0) ∧ w'.cell? ⟨w2.heap.size + 1, 2, none⟩ = some (.int .i64 0) ∧ w'.cell? ⟨w2.heap.size + 1, 3, none⟩ = some (.int .i64 0) ∧ w'.cell? ⟨w2.heap.size + 1, 4, none⟩ = some (.int .i64 0))
      (exact KEPT.out _ BB.out)
      (first
        | (go_at_call 9; (with_reducible refine (s5awake_any _).mono ?_); rintro e w3 ⟨rfl, hb⟩; have BB := Lib.hid (below_next BB.out hb); clear hb)
        | (go_at_call 16; (with_reducible refine (snext_nilA _).mono ?_); rintro e w3 ⟨rfl, hb⟩; have BB := Lib.hid (below_next BB.out hb); clear hb)
        | (go_at_call 14; (with_reducible refine (speek_nilA _).mono ?_); rintro e w3 ⟨rfl, hb⟩; have BB := Lib.hid (below_next BB.out hb); clear hb)
        | (go_at_call 12; (with_reducible refine (sshift_nil 1 _).mono ?_); rintro e w3 ⟨rfl, rfl⟩)
        | (go_at_call 19; (with_reducible refine (scopy_nil _).mono ?_); rintro e w3 ⟨rfl, rfl⟩)
        | (go_at_call 16; (with_reducible refine (snext_zeroA w2.heap.size _ (O.out.below BB.out)).mono ?_); rintro e w3 ⟨rfl, hb⟩; have BB := Lib.hid (below_next BB.out hb); clear hb)
        | (go_at_call 14; (with_reducible refine (speek_zeroA w2.heap.size _ (O.out.below BB.out)).mono ?_); rintro e w3 ⟨rfl, hb⟩; have BB := Lib.hid (below_next BB.out hb); clear hb)
        | (go_at_call 12; (with_reducible refine (sshift_zeroA 0 w2.heap.size _ (O.out.below BB.out)).mono ?_); rintro e w3 ⟨rfl, rfl⟩)
        | (go_at_call 19; (with_reducible refine (scopy_zeroA w2.heap.size _ (O.out.below BB.out)).mono ?_); rintro e w3 ⟨rfl, hb⟩; have BB := Lib.hid (below_next BB.out hb); clear hb))
    all_goals
      go_wp2
      go_ret
      exact ⟨rfl, below_next B.out BB.out⟩
  · obtain rfl : may = true := by simpa using HP.out
    clear HP HY
    go_region_held3 (fun w' => w'.cell? ⟨w2.heap.size + 1, 0, none⟩ = some (.int .i64 0) ∧ w'.cell? ⟨w2.heap.size + 1, 1, none⟩ = some (.int .i64 0) ∧ w'.cell? ⟨w2.heap.size + 1, 2, none⟩ = some (.int .i64 0) ∧ w'.cell? ⟨w2.heap.size + 1, 3, none⟩ = some (.int .i64 0) ∧ w'.cell? ⟨w2.heap.size + 1, 4, none⟩ = some (.int .i64 0))
      (exact KEPT.out _ BB.out)
      (first
        | (go_at_call 9; (with_reducible refine (s5awake_any _).mono ?_); rintro e w3 ⟨rfl, hb⟩; have BB := Lib.hid (below_next BB.out hb); clear hb)
        | (go_at_call 16; (with_reducible refine (snext_nilA _).mono ?_); rintro e w3 ⟨rfl, hb⟩; have BB := Lib.hid (below_next BB.out hb); clear hb)
        | (go_at_call 14; (with_reducible refine (speek_nilA _).mono ?_); rintro e w3 ⟨rfl, hb⟩; have BB := Lib.hid (below_next BB.out hb); clear hb)
        | (go_at_call 12; (with_reducible refine (sshift_nil 1 _).mono ?_); rintro e w3 ⟨rfl, rfl⟩)
        | (go_at_call 19; (with_reducible refine (scopy_nil _).mono ?_); rintro e w3 ⟨rfl, rfl⟩)
        | (go_at_call 16; (with_reducible refine (snext_zeroA w2.heap.size _ (O.out.below BB.out)).mono ?_); rintro e w3 ⟨rfl, hb⟩; have BB := Lib.hid (below_next BB.out hb); clear hb)
        | (go_at_call 14; (with_reducible refine (speek_zeroA w2.heap.size _ (O.out.below BB.out)).mono ?_); rintro e w3 ⟨rfl, hb⟩; have BB := Lib.hid (below_next BB.out hb); clear hb)
        | (go_at_call 12; (with_reducible refine (sshift_zeroA 0 w2.heap.size _ (O.out.below BB.out)).mono ?_); rintro e w3 ⟨rfl, rfl⟩)
        | (go_at_call 19; (with_reducible refine (scopy_zeroA w2.heap.size _ (O.out.below BB.out)).mono ?_); rintro e w3 ⟨rfl, hb⟩; have BB := Lib.hid (below_next BB.out hb); clear hb))
    all_goals
      go_wp2
      go_ret
      exact ⟨rfl, below_next B.out BB.out⟩
end Go.Proofs.Ytbomjnkccgmjjaa
