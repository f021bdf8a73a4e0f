/-
  The walk of the law FluidTells.
-/
import Derived.Test.YtnmiiebfpeoafaaFl11
namespace Go.Proofs.Ytnmiiebfpeoafaa
open Go.RowKit

theorem blk_new3 (W : World) (o p : Obj) (T : TypeId) (cs : Array Value) : Blk (((W.alloc o).alloc p).alloc (.cells cs T)) T (W.heap.size + 1 + 1) cs := by rw [← wsize W o]; exact Blk.new2 _ _ _ _
set_option maxHeartbeats 2000000 in
theorem f9tells_walk (qa qb E0 P0 s q : Int) (a : Option Addr) (len cap : Nat) (bs : List Bool) (w : World) (s0 : -9223372036854775808 ≤ s) (s1 : s ≤ 9223372036854775807) (hR : RowB w a len cap bs) :
    Calls Try.prog 3 #[.agg #[.int .i64 qa, .int .i64 qb], .agg #[.int .i64 E0, .int .i64 P0], .agg #[.int .i64 s, .int .i64 q, .slice a len cap]] w fun e w' => e = .returned (.bool true) ∧ Below w.heap.size w w' := by
  have R := Lib.hid hR
  clear hR
  have S0 := Lib.hid s0; have S1 := Lib.hid s1
  clear s0 s1
  have Q := Lib.hid (((Blk.new w 22 #[Value.int .i64 qa, Value.int .i64 qb]).alloc (.cells #[Value.int .i64 E0, Value.int .i64 P0] 24)).alloc (.cells #[Value.int .i64 s, Value.int .i64 q, Value.slice a len cap] 27))
  have K := Lib.hid ((Blk.new2 w (.cells #[Value.int .i64 qa, Value.int .i64 qb] 22) 24 #[Value.int .i64 E0, Value.int .i64 P0]).alloc (.cells #[Value.int .i64 s, Value.int .i64 q, Value.slice a len cap] 27))
  have A := Lib.hid (blk_new3 w (.cells #[Value.int .i64 qa, Value.int .i64 qb] 22) (.cells #[Value.int .i64 E0, Value.int .i64 P0] 24) 27 #[Value.int .i64 s, Value.int .i64 q, Value.slice a len cap])
  go_enter Try.func3, Try.ntmps3
  go_wp2_with fail
  refine (f9awake_any _).mono ?_
  rintro e w1 ⟨rfl, hb⟩
  have B := Lib.hid (below_next (wbox3 _ _ _ _) hb)
  have Q := Lib.hid (Q.out.below hb)
  have K := Lib.hid (K.out.below hb)
  have A := Lib.hid (A.out.below hb)
  have R := Lib.hid (R.out.below B.out)
  clear hb
  have KEPT := Lib.hid (show ∀ w' : World, Below w1.heap.size w1 w' → w'.cell? ⟨w.heap.size, 0, none⟩ = some (.int .i64 qa) ∧ w'.cell? ⟨w.heap.size, 1, none⟩ = some (.int .i64 qb) ∧ w'.cell? ⟨w.heap.size + 1, 0, none⟩ = some (.int .i64 E0) ∧ w'.cell? ⟨w.heap.size + 1, 1, none⟩ = some (.int .i64 P0) ∧ w'.cell? ⟨w.heap.size + 1 + 1, 0, none⟩ = some (.int .i64 s) ∧ w'.cell? ⟨w.heap.size + 1 + 1, 1, none⟩ = some (.int .i64 q) ∧ w'.cell? ⟨w.heap.size + 1 + 1, 2, none⟩ = some (.slice a len cap) from fun w' h => ⟨(Q.out.below h).cell 0, (Q.out.below h).cell 1, (K.out.below h).cell 0, (K.out.below h).cell 1, (A.out.below h).cell 0, (A.out.below h).cell 1, (A.out.below h).cell 2⟩)
  have BL := Lib.hid ((Below.refl w1.heap.size w1).drew)
  go_upto_region 2 with fail
  go_region_held3 (fun w' => w'.cell? ⟨w.heap.size, 0, none⟩ = some (.int .i64 qa) ∧ w'.cell? ⟨w.heap.size, 1, none⟩ = some (.int .i64 qb) ∧ w'.cell? ⟨w.heap.size + 1, 0, none⟩ = some (.int .i64 E0) ∧ w'.cell? ⟨w.heap.size + 1, 1, none⟩ = some (.int .i64 P0) ∧ w'.cell? ⟨w.heap.size + 1 + 1, 0, none⟩ = some (.int .i64 s) ∧ w'.cell? ⟨w.heap.size + 1 + 1, 1, none⟩ = some (.int .i64 q) ∧ w'.cell? ⟨w.heap.size + 1 + 1, 2, none⟩ = some (.slice a len cap)) (exact KEPT.out _ BL.out)
    (first
      | (go_at_call 11; (with_reducible refine (wmade_any qa qb _).mono ?_); rintro e wa ⟨E, P, rfl, _, hb⟩; have BL := Lib.hid (below_next BL.out hb); clear hb)
      | (go_at_call 10; (with_reducible refine (tells_any _ _ s q a len cap bs _ S0.out S1.out (R.out.below BL.out)).mono ?_); rintro e wa ⟨rfl, hb⟩; have BL := Lib.hid (below_next BL.out hb); clear hb))
  all_goals
    go_wp2
    go_ret
    exact ⟨rfl, below_next B.out BL.out⟩
end Go.Proofs.Ytnmiiebfpeoafaa
