/-
  The stand-in's seats: Take.
-/
import Derived.Test.YtgkmhnkndjfcaaaUw1
namespace Go.Proofs.Ytgkmhnkndjfcaaa
open Go.Conc Go.RowKit

def bools (n : Nat) (fr : List Int) : List Value := (ups n).map fun x => Value.bool (!decide (x ∈ fr))
theorem bools_len (n : Nat) (fr : List Int) : (bools n fr).length = n := by simp [bools, ups_len]
theorem bools_at {n : Nat} (fr : List Int) {i : Nat} (h : i < n) : (bools n fr)[i]? = some (.bool (!decide ((i : Int) ∈ fr))) := by
  simp [bools, ups, h]
def HpS (w : World) (g : Nat) (F : Nat → Prop) (n : Nat) (fr : List Int) : Prop :=
  GoodF n fr ∧ ∃ c tk, (F = fun k => k = g ∨ k = c ∨ k = tk) ∧ g ≠ c ∧ g ≠ tk ∧ c ≠ tk ∧ Blk w 43 g #[.chan (some c), .slice (some ⟨tk, 0, none⟩) n n] ∧ Ch w c n fr ∧ Blk w 4 tk (bools n fr).toArray
set_option maxRecDepth 20000 in
theorem stake_nil (w : World) : Calls Try.prog 10 #[.pointer none] w fun z w' => z = .returned (.tuple #[.int .i64 0, .int .i64 1]) ∧ Below w.heap.size w w' := by
  refine calls_of_wpN Try.func10 rfl ?_
  simp only [Try.ntmps10, List.size_toArray, List.length_cons, List.length_nil, Nat.reduceAdd, Nat.reduceSub, Array.replicate_succ,
    Array.replicate_zero, List.push_toArray, List.append_toArray, List.nil_append, List.cons_append]
  refine wpN_then fun _ hK => ?_
  go_wp2
  refine wpN_then fun _ hK => ?_
  go_wp2
  go_ret2
  exact ⟨rfl, Below.refl _ _⟩
set_option maxRecDepth 20000 in
theorem stake_none (g c tk n : Nat) (w : World) (X : Blk w 43 g #[.chan (some c), .slice (some ⟨tk, 0, none⟩) n n]) (H : Ch w c n []) : Calls Try.prog 10 #[.pointer (some ⟨g, 0, none⟩)] w fun z w' => z = .returned (.tuple #[.int .i64 0, .int .i64 15]) ∧ w' = w := by
  have x0 := X.cell 0
  simp at x0
  refine calls_of_wpN Try.func10 rfl ?_
  simp only [Try.ntmps10, List.size_toArray, List.length_cons, List.length_nil, Nat.reduceAdd, Nat.reduceSub, Array.replicate_succ,
    Array.replicate_zero, List.push_toArray, List.append_toArray, List.nil_append, List.cons_append]
  refine wpN_then fun _ hK => ?_
  go_wp2
  refine wpN_then fun _ hK => ?_
  go_wp2
  refine wpN_then fun _ hK => ?_
  go_wp2
  refine wpN_then2 fun K hK => wpN_lone fun b k cs hb => ?_
  obtain ⟨s, r, hc⟩ := H
  refine LoneTo.goes (n := 1) ?_
  s_reg
  s_stop
  refine LoneTo.step (step_lone_select_default (c := c) (z := .int .i64 0) (cap := n) (s := s) (r := r) (tm := false) (stepG_comm (cases := #[rcase c (.int .i64 0)]) (blocking := false) (shape := .select) (w' := w) rfl rfl hb (by simp [go_sem, execOp, rcase, Act.eval])) hc) ?_
  rw [Frame.finish_at]
  walk_nrm
  refine LoneTo.goes (n := 3) ?_
  s_in
  refine goes_oper_k rfl rfl hb (fun K' hK' => ?_)
  go_simp
  refine hK' _ _ ⟨trivial, ?_⟩
  clear hK' K'
  s_in
  refine goes_oper_k rfl rfl hb (fun K' hK' => ?_)
  go_simp
  refine hK' _ _ ⟨trivial, ?_⟩
  clear hK' K'
  s_c stepG_region_end
  s_stop
  refine LoneTo.done ⟨_, rfl, ?_⟩
  refine hK _ _ ?_
  clear hK
  refine wpN_of_wp ?_
  go_wp2
  go_ret2
  exact ⟨rfl, rfl⟩
theorem ch_pop {w : World} {c n : Nat} {x : Int} {fr : List Int} {s r : Nat} (h : w.heap[c]? = some (.chan n (((x :: fr).map (Value.int .i64)).toArray) false s r false)) :
    Ch (w.setChan c n ((((x :: fr).map (Value.int .i64)).toArray).extract 1 ((x :: fr).map (Value.int .i64)).toArray.size) false s (r + 1) false) c n fr := by
  refine ⟨s, r + 1, ?_⟩
  rw [heap_setChan _ _ _ _ _ _ _ _ (lt_of_block h)]
  simp only [List.size_toArray, List.length_map, List.length_cons, List.map_cons]
  rw [show ((Value.int .i64 x :: fr.map (Value.int .i64)).toArray).extract 1 (fr.length + 1) = (fr.map (Value.int .i64)).toArray by
    rw [List.extract_toArray]
    simp only [List.extract_eq_take_drop, List.drop_succ_cons, List.drop_zero, Nat.add_sub_cancel]
    rw [List.take_of_length_le (by simp)]]
set_option maxRecDepth 20000 in
theorem stake_some (g c tk n x : Nat) (fr : List Int) (bs : Array Value) (w : World) (X : Blk w 43 g #[.chan (some c), .slice (some ⟨tk, 0, none⟩) n n]) (H : Ch w c n ((x : Int) :: fr)) (Y : Blk w 4 tk bs) (gc : g ≠ c) (ct : tk ≠ c) (hx : x < n) (hbs : bs.size = n) :
    Calls Try.prog 10 #[.pointer (some ⟨g, 0, none⟩)] w fun z w' => z = .returned (.tuple #[.int .i64 x, .int .i64 0]) ∧ ∃ wx, Ch wx c n fr ∧ (∀ k, k ≠ c → wx.heap[k]? = w.heap[k]?) ∧ wx.heap.size = w.heap.size ∧ wx.os = w.os ∧ wx.tape = w.tape ∧ wx.output = w.output ∧ w' = wx.setCell ⟨tk, x, none⟩ (.bool true) := by
  have x0 := X.cell 0
  simp at x0
  refine calls_of_wpN Try.func10 rfl ?_
  simp only [Try.ntmps10, List.size_toArray, List.length_cons, List.length_nil, Nat.reduceAdd, Nat.reduceSub, Array.replicate_succ,
    Array.replicate_zero, List.push_toArray, List.append_toArray, List.nil_append, List.cons_append]
  refine wpN_then fun _ hK => ?_
  go_wp2
  refine wpN_then fun _ hK => ?_
  go_wp2
  refine wpN_then fun _ hK => ?_
  go_wp2
  refine wpN_then2 fun K hK => wpN_lone fun b k cs hb => ?_
  obtain ⟨s, r, hc⟩ := H
  refine LoneTo.goes (n := 1) ?_
  s_reg
  s_stop
  refine LoneTo.step (step_lone_select_recv_buf (c := c) (z := .int .i64 0) (stepG_comm (cases := #[rcase c (.int .i64 0)]) (blocking := false) (shape := .select) (w' := w) rfl rfl hb (by simp [go_sem, execOp, rcase, Act.eval])) hc (by simp)) ?_
  rw [Frame.finish_at]
  have hd : (((x : Int) :: fr).map (Value.int .i64)).toArray.getD 0 undef = .int .i64 x := by simp
  rw [hd]
  obtain ⟨wx, hwx⟩ : ∃ wx, w.setChan c n ((((x : Int) :: fr).map (Value.int .i64)).toArray.extract 1 (((x : Int) :: fr).map (Value.int .i64)).toArray.size) false s (r + 1) false = wx := ⟨_, rfl⟩
  rw [hwx]
  have C1 := Lib.hid (show Ch wx c n fr by rw [← hwx]; exact ch_pop hc)
  have X1 := Lib.hid (show Blk wx 43 g #[.chan (some c), .slice (some ⟨tk, 0, none⟩) n n] by rw [← hwx]; exact blk_setChan X _ _ _ _ _ _ _ gc)
  have Y1 := Lib.hid (show Blk wx 4 tk bs by rw [← hwx]; exact blk_setChan Y _ _ _ _ _ _ _ ct)
  have KK := Lib.hid (show ∀ k, k ≠ c → wx.heap[k]? = w.heap[k]? from fun k hk => by rw [← hwx]; exact setChan_block _ _ _ _ _ _ _ hk)
  have SZ := Lib.hid (show wx.heap.size = w.heap.size by rw [← hwx]; exact size_setChan _ _ _ _ _ _ _ _)
  have O1 := Lib.hid (show wx.os = w.os by rw [← hwx]; rfl)
  have O2 := Lib.hid (show wx.tape = w.tape by rw [← hwx]; rfl)
  have O3 := Lib.hid (show wx.output = w.output by rw [← hwx]; rfl)
  clear hwx hd
  walk_nrm
  refine LoneTo.goes (n := 3) ?_
  s_in
  refine goes_oper_k rfl rfl hb (fun K' hK' => ?_)
  go_simp
  refine hK' _ _ ⟨trivial, ?_⟩
  clear hK' K'
  s_in
  refine goes_oper_k rfl rfl hb (fun K' hK' => ?_)
  go_simp
  refine hK' _ _ ⟨trivial, ?_⟩
  clear hK' K'
  s_c stepG_region_end
  s_stop
  refine LoneTo.done ⟨_, rfl, ?_⟩
  refine hK _ _ ?_
  clear hK hc hb b cs k K x0
  refine wpN_of_wp ?_
  have x1 := X1.out.cell 1
  simp at x1
  have y0 := Y1.out.cell x
  have yl : bs[x]? = some bs[x] := Array.getElem?_eq_getElem (by omega)
  rw [yl] at y0
  have yf := Y1.out.free x
  have h0 : (x : Int) < (n : Int) := by omega
  go_wp2
  go_ret2
  exact ⟨rfl, wx, C1.out, KK.out, SZ.out, O1.out, O2.out, O3.out, rfl⟩
end Go.Proofs.Ytgkmhnkndjfcaaa
