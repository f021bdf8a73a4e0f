/-
  Package heap as landed: of no heap, and of one without an order; HeapNil's walk.
-/
import Derived.Test.YtimafmalfmeehaaHi1
namespace Go.Proofs.Ytimafmalfmeehaa
open Go.RowKit Go.Maps

/-- the cells of a heap without an order -/
def HN (mp : Value) : Array Value := #[.nilFunc, .slice none 0 0, mp, .bool false]
theorem shut_nilp (w : World) : Calls Try.prog 25 #[.pointer none] w fun e w' => e = .returned (.bool true) ∧ w = w' := by
  go_enter Try.func25, Try.ntmps25
  go_wp2
  go_ret
  exact ⟨rfl, rfl⟩
theorem shut_nilf (g : Nat) (mp : Value) (w : World) (hb : Blk w 54 g (HN mp)) : Calls Try.prog 25 #[.pointer (some ⟨g, 0, none⟩)] w fun e w' => e = .returned (.bool true) ∧ w = w' := by
  have hnil : ∀ w : World, (binOp BinOp.eql 26 .nilFunc .nilFunc).run Try.prog w = .ok (.bool true) w := fun _ => by kernel_rfl
  have c0 := hb.cell 0
  have c3 := hb.cell 3
  simp [HN] at c0 c3
  clear hb
  go_enter Try.func25, Try.ntmps25
  go_wp2
  go_ret
  exact ⟨rfl, rfl⟩
/-- a heap into which nothing can be put -/
def Shuts (p : Value) (w : World) : Prop := Calls Try.prog 25 #[p] w fun e w' => e = .returned (.bool true) ∧ w = w'
theorem push_shut (p : Value) (id x : Int) (w : World) (h : Shuts p w) : Calls Try.prog 19 #[p, .int .i64 id, .int .i64 x] w fun e w' => e = .returned (.bool false) ∧ w = w' := by
  have H := Lib.hid h
  clear h
  go_enter Try.func19, Try.ntmps19
  go_wp2_with fail
  refine H.out.mono ?_
  rintro e w1 ⟨rfl, rfl⟩
  go_wp2
  go_ret
  exact ⟨rfl, rfl⟩
theorem pop_shut (p : Value) (w : World) (h : Shuts p w) : Calls Try.prog 11 #[p] w fun e w' => e = .returned (.tuple #[.int .i64 0, .int .i64 0, .bool false]) ∧ w = w' := by
  have H := Lib.hid h
  clear h
  go_enter Try.func11, Try.ntmps11
  go_wp2_with fail
  refine H.out.mono ?_
  rintro e w1 ⟨rfl, rfl⟩
  go_wp2
  go_ret3
  exact ⟨rfl, rfl⟩
theorem remove_shut (p : Value) (id : Int) (w : World) (h : Shuts p w) : Calls Try.prog 13 #[p, .int .i64 id] w fun e w' => e = .returned (.tuple #[.int .i64 0, .bool false]) ∧ w = w' := by
  have H := Lib.hid h
  clear h
  go_enter Try.func13, Try.ntmps13
  go_wp2_with fail
  refine H.out.mono ?_
  rintro e w1 ⟨rfl, rfl⟩
  go_wp2
  go_ret2
  exact ⟨rfl, rfl⟩
theorem len_nilp (w : World) : Calls Try.prog 24 #[.pointer none] w fun e w' => e = .returned (.int .i64 0) ∧ w = w' := by
  go_enter Try.func24, Try.ntmps24
  go_wp2
  go_ret
  exact ⟨rfl, rfl⟩
theorem len_nilf (g : Nat) (mp : Value) (w : World) (hb : Blk w 54 g (HN mp)) : Calls Try.prog 24 #[.pointer (some ⟨g, 0, none⟩)] w fun e w' => e = .returned (.int .i64 0) ∧ w = w' := by
  have c1 := hb.cell 1
  simp [HN] at c1
  clear hb
  go_enter Try.func24, Try.ntmps24
  go_wp2
  go_ret
  exact ⟨rfl, rfl⟩
theorem min_nilf (g : Nat) (mp : Value) (w : World) (hb : Blk w 54 g (HN mp)) : Calls Try.prog 17 #[.pointer (some ⟨g, 0, none⟩)] w fun e w' => e = .returned (.tuple #[.int .i64 0, .int .i64 0, .bool false]) ∧ w = w' := by
  have BK := Lib.hid hb
  clear hb
  go_enter Try.func17, Try.ntmps17
  go_wp2_with fail
  refine (len_nilf g mp _ BK.out).mono ?_
  rintro e w1 ⟨rfl, rfl⟩
  go_wp2
  go_ret3
  exact ⟨rfl, rfl⟩
theorem get_nilm (g : Nat) (id : Int) (w : World) (hr : InR id) (hb : Blk w 54 g (HN (.map none))) : Calls Try.prog 15 #[.pointer (some ⟨g, 0, none⟩), .int .i64 id] w fun e w' => e = .returned (.tuple #[.int .i64 0, .bool false]) ∧ w = w' := by
  have hl := Maps.look_nil (w := w) true keyI Try.underlying52 (zeroI w) (Maps.keyOf_int_mk Try.underlying3 (wf_i64 hr))
  have c2 := hb.cell 2
  simp [HN] at c2
  clear hb
  go_enter Try.func15, Try.ntmps15
  go_wp2
  go_ret2
  exact ⟨rfl, rfl⟩
theorem ids_nilp (w : World) : Calls Try.prog 22 #[.pointer none] w fun e w' => e = .returned (.slice none 0 0) ∧ w = w' := by
  go_enter Try.func22, Try.ntmps22
  go_wp2
  go_ret
  exact ⟨rfl, rfl⟩
def NoIDs (w : World) (e : Ending) (w' : World) : Prop := ∃ a cap, e = .returned (.slice a 0 cap) ∧ Below w.heap.size w w'
set_option maxHeartbeats 2000000 in
theorem ids_nilf (g : Nat) (mp : Value) (w : World) (hb : Blk w 54 g (HN mp)) : Calls Try.prog 22 #[.pointer (some ⟨g, 0, none⟩)] w (NoIDs w) := by
  have BK := Lib.hid hb
  have c1 := hb.cell 1
  simp [HN] at c1
  obtain ⟨i0, hi, hz0, hz1, hz2⟩ := info_parts Try.infoI
  clear hb
  go_enter Try.func22, Try.ntmps22
  go_wp2_with (at_make; refine wpList_make_own _ rfl _ _ 44 rfl w.heap.size 3 i0 (.int .i64 0) 1 Try.underlying44 hi hz0 hz1 _ _ _ 0 rfl rfl rfl (by omega) (by decide) (Nat.le_refl _) ?_; intro w1 hown hgrow; have B1 := Lib.hid ((Below.refl w.heap.size w).grown hgrow (Nat.le_refl _) (fun k e => by cases e)); have c2 : _ = some _ := (BK.out.below B1.out).cell 1; simp [HN] at c2; clear hown hgrow c1)
  go_loopw [3, 19] (fun v u wr => u = .int .i64 0 ∧ v = .slice (some ⟨w.heap.size, 0, none⟩) 0 0 ∧ w1 = wr) (fun _ _ _ => 0)
  case atStart => exact ⟨rfl, rfl, rfl⟩
  case round =>
    obtain ⟨rfl, rfl, rfl⟩ := hrel
    go_wp2_with fail
    refine (sortOk.none _ _ _).mono ?_
    rintro e w3 ⟨rfl, rfl⟩
    go_wp2
    go_ret
    exact ⟨_, _, rfl, B1.out⟩
theorem hnew_nil (w : World) : Calls Try.prog 9 #[.nilFunc] w fun e w' => ∃ g, e = .returned (.pointer (some ⟨g, 0, none⟩)) ∧ Blk w' 54 g (HN (.map (some w.heap.size))) ∧ Below w.heap.size w w' := by
  have hmm := @run_makeMap Try.prog
  go_enter Try.func9, Try.ntmps9
  go_wp2
  go_ret
  exact ⟨w.heap.size + 1, rfl, Blk.by (wsize _ _), wbox2 _ _ _⟩
set_option maxRecDepth 100000 in
set_option maxHeartbeats 4000000 in
theorem hnil_walk (id : Int) (w : World) (hr : InR id) : Calls Try.prog 7 #[.int .i64 id] w fun e w' => e = .returned (.bool true) ∧ Below w.heap.size w w' := by
  have R := Lib.hid hr
  clear hr
  go_enter Try.func7, Try.ntmps7
  go_wp2_with fail
  refine (hnew_nil _).mono ?_
  rintro e w1 ⟨g, rfl, hb, hB⟩
  have O1 := Lib.hid hb
  have B1 := Lib.hid hB
  clear hb hB
  go_wp2_with fail
  obtain ⟨W2, hW2⟩ : ∃ W2, w1.alloc (Obj.cells #[Value.nilFunc, Value.slice none 0 0, Value.map none, Value.bool false] 54) = W2 := ⟨_, rfl⟩
  rw [hW2]
  have E2 := Lib.hid (show Blk W2 54 w1.heap.size (HN (.map none)) by rw [← hW2]; exact Blk.new _ _ _)
  have O2 := Lib.hid (show Blk W2 54 g (HN (.map (some w.heap.size))) by rw [← hW2]; exact O1.out.alloc _)
  have B2 := Lib.hid (show Below w.heap.size w W2 by rw [← hW2]; exact below_next B1.out (wbox _ _))
  clear hW2 O1 B1
  refine (pop_shut _ _ (shut_nilp _)).mono ?_
  rintro e wq ⟨rfl, rfl⟩
  go_wp2_with fail
  refine (pop_shut _ _ (shut_nilf g _ _ O2.out)).mono ?_
  rintro e wq ⟨rfl, rfl⟩
  go_wp2_with fail
  refine (remove_shut _ id _ (shut_nilp _)).mono ?_
  rintro e wq ⟨rfl, rfl⟩
  go_wp2_with fail
  refine (get_nilm w1.heap.size id _ R.out E2.out).mono ?_
  rintro e wq ⟨rfl, rfl⟩
  go_wp2_with fail
  refine (min_nilf w1.heap.size _ _ E2.out).mono ?_
  rintro e wq ⟨rfl, rfl⟩
  go_wp2_with fail
  refine (l7awake heapOk _).mono ?_
  rintro e w3 ⟨rfl, hB⟩
  have E3 := Lib.hid (E2.out.below hB)
  have O3 := Lib.hid (O2.out.below hB)
  have B3 := Lib.hid (below_next B2.out hB)
  clear hB E2 O2 B2
  go_wp2_with fail
  refine (push_shut _ id 1 _ (shut_nilp _)).mono ?_
  rintro e wq ⟨rfl, rfl⟩
  go_wp2_with fail
  refine (push_shut _ id 1 _ (shut_nilf g _ _ O3.out)).mono ?_
  rintro e wq ⟨rfl, rfl⟩
  go_wp2_with fail
  refine (push_shut _ id 1 _ (shut_nilf w1.heap.size _ _ E3.out)).mono ?_
  rintro e wq ⟨rfl, rfl⟩
  go_wp2_with fail
  refine (len_nilp _).mono ?_
  rintro e wq ⟨rfl, rfl⟩
  go_wp2_with fail
  refine (len_nilf g _ _ O3.out).mono ?_
  rintro e wq ⟨rfl, rfl⟩
  go_wp2_with fail
  refine (len_nilf w1.heap.size _ _ E3.out).mono ?_
  rintro e wq ⟨rfl, rfl⟩
  go_wp2_with fail
  refine (ids_nilp _).mono ?_
  rintro e wq ⟨rfl, rfl⟩
  go_wp2_with fail
  refine (ids_nilf g _ _ O3.out).mono ?_
  rintro e w4 ⟨a4, cap4, rfl, hB⟩
  have B4 := Lib.hid (below_next B3.out hB)
  clear hB E3 O3 B3
  go_wp2
  go_ret
  exact ⟨rfl, B4.out⟩
end Go.Proofs.Ytimafmalfmeehaa
