/-
  What the laws' own made and awake give back: contracts.
-/
import Derived.Test.YtbomjnkccgmjjaaSt6
namespace Go.Proofs.Ytbomjnkccgmjjaa
open Go.RowKit

theorem s5made_any (qa qb : Int) (w : World) : Calls Try.prog 10 #[.agg #[.int .i64 qa, .int .i64 qb]] w (GivesW w) := by
  obtain ⟨m, hm⟩ : ∃ m, bits .and .i64 qb 1048575 = m := ⟨_, rfl⟩
  have mb := mask_bd qb
  rw [hm] at mb
  obtain ⟨m0, m1⟩ := mb
  have r1 := Int.lt_tmod_of_pos qa (show 0 < 1 + m by omega)
  have r2 := Int.tmod_lt_of_pos qa (show 0 < 1 + m by omega)
  obtain ⟨r, hr⟩ : ∃ r, qa.tmod (1 + m) = r := ⟨_, rfl⟩
  rw [hr] at r1 r2
  have e0 := Int.emod_nonneg r (show 1 + m ≠ 0 by omega)
  have e1 := Int.emod_lt_of_pos r (show 0 < 1 + m by omega)
  go_enter Try.func10, Try.ntmps10
  go_wp2
  refine bodyPost_ret (v := .agg #[.int .i64 (1 + r % (1 + m)), .int .i64 (1 + m)]) (by simp [results, Try.results10, go_sem]) rfl ⟨_, _, rfl, ⟨by omega, by omega, by omega⟩, ?_⟩
  exact ((Below.refl _ _).alloc (Nat.le_refl _) _).alloc (by simp) _

theorem ex_may5 : MayBe 2 3 := ⟨by decide, by decide, by decide⟩
theorem ex_one : aheadV 2 3 0 (0 + 1) = .agg #[.int .i64 1, .int .i64 0, .int .i64 2, .int .i64 1, .int .i64 3] := by
  unfold aheadV
  rw [show wR 2 3 (0 + 1) + 0 = 0 by decide, show wD 2 3 (0 + 1) + 0 = 2 by decide, show wB 2 3 (0 + 1) = 1 by decide, show (if wG 2 3 (0 + 1) = 0 then 0 else wG 2 3 (0 + 1) + 0) = 3 by decide]
  rfl
theorem ex_two : aheadV 2 3 0 (0 + 1 + 1) = .agg #[.int .i64 2, .int .i64 1, .int .i64 3, .int .i64 0, .int .i64 3] := by
  unfold aheadV
  rw [show wR 2 3 (0 + 1 + 1) + 0 = 1 by decide, show wD 2 3 (0 + 1 + 1) + 0 = 3 by decide, show wB 2 3 (0 + 1 + 1) = 0 by decide, show (if wG 2 3 (0 + 1 + 1) = 0 then 0 else wG 2 3 (0 + 1 + 1) + 0) = 3 by decide]
  rfl
theorem s5awake_any (w : World) : Calls Try.prog 9 #[] w fun e w' => e = .returned (.bool true) ∧ Below w.heap.size w w' := by
  have M := Lib.hid ex_may5
  have V1 := Lib.hid ex_one
  have V2 := Lib.hid ex_two
  go_enter Try.func9, Try.ntmps9
  go_wp2_with fail
  refine (snew_yes 2 3 0 _ M.out (by decide) (by decide)).mono ?_
  rintro e w1 ⟨g, rfl, hg, hs, hb⟩
  have HG := Lib.hid hg; have S := Lib.hid hs; have B := Lib.hid hb
  clear hg hs hb
  go_wp2_with fail
  refine (snext_any 2 3 0 0 g _ S.out M.out (by decide) (by decide) (by decide) (by decide)).mono ?_
  rintro e w2 ⟨rfl, hs, hb⟩
  rw [V1.out]
  have S := Lib.hid (hs.alloc (Obj.cells #[.int .i64 1, .int .i64 0, .int .i64 2, .int .i64 1, .int .i64 3] 35))
  have B := Lib.hid (hb.below B.out HG.out B.out.size)
  have L := Lib.hid (Blk.new w2 35 #[.int .i64 1, .int .i64 0, .int .i64 2, .int .i64 1, .int .i64 3])
  have HL := Lib.hid (show w2.heap.size ≠ g from fun e => Nat.lt_irrefl _ (e ▸ hs.lt))
  clear hs hb
  go_wp2_with fail
  obtain ⟨W0, hW0⟩ : ∃ W0, w2.alloc (Obj.cells #[.int .i64 1, .int .i64 0, .int .i64 2, .int .i64 1, .int .i64 3] 35) = W0 := ⟨_, rfl⟩
  have B := Lib.hid (show Below w.heap.size w W0 by rw [← hW0]; exact below_next B.out (wbox _ _))
  rw [hW0] at S L
  rw [hW0]
  clear hW0
  refine (snext_any 2 3 0 (0 + 1) g _ S.out M.out (by decide) (by decide) (by decide) (by decide)).mono ?_
  rintro e w3 ⟨rfl, _, hb⟩
  rw [V2.out]
  have L := Lib.hid (L.out.but hb HL.out)
  have B := Lib.hid (hb.below B.out HG.out B.out.size)
  have n1 : ¬ w2.heap.size = w3.heap.size := Nat.ne_of_lt L.out.lt
  have n2 : ¬ w3.heap.size = w2.heap.size := fun e => n1 e.symm
  have L := Lib.hid (L.out.alloc (Obj.cells #[.int .i64 2, .int .i64 1, .int .i64 3, .int .i64 0, .int .i64 3] 35))
  have s0 := L.out.cell 0; have s1 := L.out.cell 1; have s2 := L.out.cell 2; have s3 := L.out.cell 3; have s4 := L.out.cell 4
  simp at s0 s1 s2 s3 s4
  clear hb
  go_wp2
  go_ret
  exact ⟨rfl, below_next B.out (wbox _ _)⟩
end Go.Proofs.Ytbomjnkccgmjjaa
