/-
  The document's own task (regattaref10): Last: contract.
-/
import Derived.Test.YthaoijmjkmgebaaTr1
import Derived.BigRegion
namespace Go.Proofs.Ythaoijmjkmgebaa
open Go.RowKit

section
variable (r : Nat) (F : Nat → Prop) (t : TS) (w : World)
set_option maxHeartbeats 2000000 in
theorem r10last_ran (b : Bool) (h : RT w r F t) (hl : t.l = []) (hb1 : decide (0 < t.done) = b) : Calls Try.prog 22 #[.pointer (some ⟨r, 0, none⟩)] w fun z w' => z = .returned (.tuple #[t.ran.v, .bool b]) ∧ Below w.heap.size w w' := by
  obtain ⟨W1, hW1⟩ : ∃ W1, w.alloc (.cells #[.int .i64 0, .int .i64 0, .int .i64 0, .int .i64 0, .int .i64 0] 35) = W1 := ⟨_, rfl⟩
  have B1 := Lib.hid (show Below w.heap.size w W1 by rw [← hW1]; exact wbox _ _)
  have N1 := Lib.hid (show Blk W1 35 w.heap.size #[.int .i64 0, .int .i64 0, .int .i64 0, .int .i64 0, .int .i64 0] by rw [← hW1]; exact Blk.new w _ _)
  have H1 := Lib.hid (h.below B1.out)
  obtain ⟨v, hb, hq, hn, hF⟩ := H1.out
  rw [hl] at hq
  obtain ⟨a, cap, rfl, _, _⟩ := hq.val
  have c6 := hb.cell 6
  have c7 := hb.cell 7
  have c8 := hb.cell 8
  have c9 := hb.cell 9
  have c10 := hb.cell 10
  have c11 := hb.cell 11
  have c12 := hb.cell 12
  simp [rtC] at c6 c7 c8 c9 c10 c11 c12
  have x0 := N1.out.cell 0; have x1 := N1.out.cell 1; have x2 := N1.out.cell 2; have x3 := N1.out.cell 3; have x4 := N1.out.cell 4
  have fx : ∀ o, W1.frozen? ⟨w.heap.size, o, none⟩ = false := fun o => N1.out.free o
  simp at x0 x1 x2 x3 x4
  have sz := N1.out.lt
  clear hb hq hn hF
  go_enter Try.func22, Try.ntmps22
  go_upto_region 3 with fail
  go_region
  all_goals
    obtain ⟨W2, hW2⟩ : ∃ W2, World.drew (((((W1.setCell ⟨w.heap.size, 0, none⟩ (.int .i64 t.ran.I)).setCell ⟨w.heap.size, 1, none⟩ (.int .i64 t.ran.R)).setCell ⟨w.heap.size, 2, none⟩ (.int .i64 t.ran.D)).setCell ⟨w.heap.size, 3, none⟩ (.int .i64 t.ran.B)).setCell ⟨w.heap.size, 4, none⟩ (.int .i64 t.ran.G)) = W2 := ⟨_, rfl⟩
    have N2 := Lib.hid (show Blk W2 35 w.heap.size #[.int .i64 t.ran.I, .int .i64 t.ran.R, .int .i64 t.ran.D, .int .i64 t.ran.B, .int .i64 t.ran.G] by rw [← hW2]; exact N1.out.set5)
    have B2 := Lib.hid (show Below w.heap.size w W2 by rw [← hW2]; exact (below_set5 B1.out (Nat.le_refl _)).drew)
    rw [hW2]
    clear hW2 x0 x1 x2 x3 x4 fx
    have x0 := N2.out.cell 0; have x1 := N2.out.cell 1; have x2 := N2.out.cell 2; have x3 := N2.out.cell 3; have x4 := N2.out.cell 4
    simp at x0 x1 x2 x3 x4
    go_wp2
    exact bodyPost_ret (v := .tuple #[.agg #[.int .i64 t.ran.I, .int .i64 t.ran.R, .int .i64 t.ran.D, .int .i64 t.ran.B, .int .i64 t.ran.G], .bool b]) (by simp [results, Try.results22, go_sem, x0, x1, x2, x3, x4]) rfl ⟨rfl, B2.out⟩
set_option maxHeartbeats 2000000 in
theorem r10last_wait (s : Sb) (k : Nat) (h : RT w r F t) (hk : t.l.length = k + 1) (hs : t.l[k]? = some s) (k64 : k ≤ 1000000) : Calls Try.prog 22 #[.pointer (some ⟨r, 0, none⟩)] w fun z w' => z = .returned (.tuple #[s.v, .bool true]) ∧ Below w.heap.size w w' := by
  obtain ⟨W1, hW1⟩ : ∃ W1, w.alloc (.cells #[.int .i64 0, .int .i64 0, .int .i64 0, .int .i64 0, .int .i64 0] 35) = W1 := ⟨_, rfl⟩
  have B1 := Lib.hid (show Below w.heap.size w W1 by rw [← hW1]; exact wbox _ _)
  have N1 := Lib.hid (show Blk W1 35 w.heap.size #[.int .i64 0, .int .i64 0, .int .i64 0, .int .i64 0, .int .i64 0] by rw [← hW1]; exact Blk.new w _ _)
  have H1 := Lib.hid (h.below B1.out)
  obtain ⟨v, hb, hq, hn, hF⟩ := H1.out
  obtain ⟨bl, ol, cap, rfl, hat⟩ := QueS.at hq (i := k) (s := s) hs
  rw [hk] at hb
  have c6 := hb.cell 6
  simp [rtC] at c6
  have x0 := N1.out.cell 0; have x1 := N1.out.cell 1; have x2 := N1.out.cell 2; have x3 := N1.out.cell 3; have x4 := N1.out.cell 4
  have fx : ∀ o, W1.frozen? ⟨w.heap.size, o, none⟩ = false := fun o => N1.out.free o
  simp at x0 x1 x2 x3 x4
  have sz := N1.out.lt
  have y0 := hat.c0; have y1 := hat.c1; have y2 := hat.c2; have y3 := hat.c3; have y4 := hat.c4
  obtain ⟨n, hn0⟩ : ∃ n, k + 1 = n := ⟨_, rfl⟩
  have wn : IntKind.i64.wrap ((n : Int) - 1) = (k : Int) := by rw [show (n : Int) - 1 = (k : Int) by omega]; exact IntWalk.i64_in _ (by omega)
  have n4 : decide ((0 : Int) < (n : Int)) = true := by simp; omega
  have n5 : (0 : Int) < (n : Int) := by omega
  have n6 : 0 < n := by omega
  have kn : (k : Int) < (n : Int) := by omega
  have k0 : 0 ≤ (k : Int) := by omega
  have kn2 : k < n := by omega
  rw [hn0] at c6
  clear hb hq hn hF hat hk hs hn0
  go_enter Try.func22, Try.ntmps22
  go_upto_region 2 with fail
  go_region
  all_goals
    obtain ⟨W2, hW2⟩ : ∃ W2, World.drew (((((W1.setCell ⟨w.heap.size, 0, none⟩ (.int .i64 s.I)).setCell ⟨w.heap.size, 1, none⟩ (.int .i64 s.R)).setCell ⟨w.heap.size, 2, none⟩ (.int .i64 s.D)).setCell ⟨w.heap.size, 3, none⟩ (.int .i64 s.B)).setCell ⟨w.heap.size, 4, none⟩ (.int .i64 s.G)) = W2 := ⟨_, rfl⟩
    have N2 := Lib.hid (show Blk W2 35 w.heap.size #[.int .i64 s.I, .int .i64 s.R, .int .i64 s.D, .int .i64 s.B, .int .i64 s.G] by rw [← hW2]; exact N1.out.set5)
    have B2 := Lib.hid (show Below w.heap.size w W2 by rw [← hW2]; exact (below_set5 B1.out (Nat.le_refl _)).drew)
    rw [hW2]
    clear hW2 x0 x1 x2 x3 x4 fx
    have x0 := N2.out.cell 0; have x1 := N2.out.cell 1; have x2 := N2.out.cell 2; have x3 := N2.out.cell 3; have x4 := N2.out.cell 4
    simp at x0 x1 x2 x3 x4
    go_wp2
    exact bodyPost_ret (v := .tuple #[.agg #[.int .i64 s.I, .int .i64 s.R, .int .i64 s.D, .int .i64 s.B, .int .i64 s.G], .bool true]) (by simp [results, Try.results22, go_sem, x0, x1, x2, x3, x4]) rfl ⟨rfl, B2.out⟩
end
end Go.Proofs.Ythaoijmjkmgebaa
