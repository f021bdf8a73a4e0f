/-
  The laws' awake; the walk of TaskFull: for a package task that is as P10.1 to P10.3 say.
-/
import Derived.Test.YthaoijmjkmgebaaTk1
import Derived.Test.YthaoijmjkmgebaaWin7
namespace Go.Proofs.Ythaoijmjkmgebaa
open Go.RowKit

section
variable {Hp : World → Nat → (Nat → Prop) → TS → Prop}
def exa0 : TS := ts0 1 3 0 false
def exa1 : TS := ⟨1, 3, 0, 1, false, false, [⟨1, 0, 3, 0, 0⟩], sub0, 0⟩
def exa2 : TS := ⟨1, 3, 4, 2, false, false, [⟨1, 0, 3, 0, 0⟩, ⟨2, 7, 10, 0, 0⟩], sub0, 0⟩
def exa3 : TS := ⟨1, 3, 4, 2, false, false, [⟨2, 7, 10, 0, 0⟩], ⟨1, 0, 3, 0, 0⟩, 1⟩
theorem ex10_may : MayBe 1 3 := ⟨by decide, by decide, by decide⟩
theorem ex10_1 : arriveE exa0 0 1 = 0 ∧ arriveT exa0 0 1 = exa1 := ⟨by decide, rfl⟩
theorem ex10_2 : arriveE exa1 7 1 = 0 ∧ arriveT exa1 7 1 = exa2 := ⟨by decide, rfl⟩
theorem ex10_3 : (headS exa2).v = .agg #[.int .i64 1, .int .i64 0, .int .i64 3, .int .i64 0, .int .i64 0] ∧ someB exa2 = true ∧ runT exa2 = exa3 := ⟨rfl, rfl, rfl⟩
theorem ex10_4 : (headS exa3).v = .agg #[.int .i64 2, .int .i64 7, .int .i64 10, .int .i64 0, .int .i64 0] ∧ someB exa3 = true := ⟨rfl, rfl⟩
set_option maxHeartbeats 4000000 in
theorem l10awake (ok : TaskOk Hp) (w : World) : Calls Try.prog 9 #[] w fun e w' => e = .returned (.bool true) ∧ Below w.heap.size w w' := by
  have OK := Lib.hid ok
  have E1 := Lib.hid ex10_1; have E2 := Lib.hid ex10_2; have E3 := Lib.hid ex10_3; have E4 := Lib.hid ex10_4
  have MB := Lib.hid ex10_may
  clear ok
  go_enter Try.func9, Try.ntmps9
  go_wp2_with fail
  refine (mnew OK.out (w := w) 1 3 0 false w (Below.refl _ _) MB.out (by omega) (by omega)).mono ?_
  rintro e w1 ⟨g, rfl, hm, _⟩
  have M := Lib.hid (show Mine Hp w G0 g exa0 w1 from hm)
  clear hm
  go_wp2_with fail
  refine (marrive OK.out g exa0 0 1 M.out (by decide)).mono ?_
  rintro e w2 ⟨rfl, hm, _⟩
  rw [E1.out.1]
  have M := Lib.hid (show Mine Hp w G0 g exa1 w2 from hm)
  clear hm
  go_wp2_with fail
  refine (marrive OK.out g exa1 7 1 M.out (by decide)).mono ?_
  rintro e w3 ⟨rfl, hm, _⟩
  rw [E2.out.1]
  have M := Lib.hid (show Mine Hp w G0 g exa2 w3 from hm)
  clear hm
  go_wp2_with fail
  refine (mrun OK.out g exa2 M.out (by decide)).mono ?_
  rintro e w4 ⟨rfl, hm, _⟩
  rw [E3.out.1, E3.out.2.1]
  have M := Lib.hid (show Mine Hp w (fun k => G0 k ∨ k = w4.heap.size) g exa3 (w4.alloc (.cells #[.int .i64 1, .int .i64 0, .int .i64 3, .int .i64 0, .int .i64 0] 35)) from (show Mine Hp w G0 g exa3 w4 from hm).own1 OK.out _)
  have X := Lib.hid (Blk.new w4 35 #[.int .i64 1, .int .i64 0, .int .i64 3, .int .i64 0, .int .i64 0])
  clear hm
  go_wp2_with fail
  refine (mrun OK.out g exa3 M.out (by decide)).mono ?_
  rintro e w5 ⟨rfl, hm, hh⟩
  rw [E4.out.1, E4.out.2]
  have B := Lib.hid hm.below
  have X := Lib.hid ((hh.blk X.out (.inr rfl)).alloc (.cells #[.int .i64 2, .int .i64 7, .int .i64 10, .int .i64 0, .int .i64 0] 35))
  have x1 := X.out.cell 1; have x2 := X.out.cell 2
  simp at x1 x2
  clear hm hh
  go_wp2
  go_ret
  exact ⟨rfl, below_next B.out (wbox _ _)⟩
end
end Go.Proofs.Ythaoijmjkmgebaa
