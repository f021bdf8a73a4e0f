/-
  Package seats: has, Give.
-/
import Derived.Test.YtgkmhnkndjfcaaaUw2
namespace Go.Proofs.Ytgkmhnkndjfcaaa
open Go.Conc Go.RowKit

theorem ch_push {w : World} {c n : Nat} {x : Int} {fr : List Int} {s r : Nat} (h : w.heap[c]? = some (.chan n ((fr.map (Value.int .i64)).toArray) false s r false)) :
    Ch (w.setChan c n ((fr.map (Value.int .i64)).toArray.push (.int .i64 x)) false (s + 1) r false) c n (fr ++ [x]) := by
  refine ⟨s + 1, r, ?_⟩
  rw [heap_setChan _ _ _ _ _ _ _ _ (lt_of_block h)]
  simp
set_option maxRecDepth 20000 in
theorem shas_nil (id : Int) (w : World) : Calls Try.prog 20 #[.pointer none, .int .i64 id] w fun z w' => z = .returned (.bool false) ∧ w' = w := by
  go_enter Try.func20, Try.ntmps20
  go_wp2
  go_ret
  exact ⟨rfl, rfl⟩
set_option maxRecDepth 20000 in
theorem shas_any (g n : Nat) (c : Value) (id : Int) (ad : Option Addr) (w : World) (X : Blk w 43 g #[c, .slice ad n n]) :
    Calls Try.prog 20 #[.pointer (some ⟨g, 0, none⟩), .int .i64 id] w fun z w' => z = .returned (.bool (decide (0 ≤ id) && decide (id < n))) ∧ w' = w := by
  have x1 := X.cell 1
  simp at x1
  by_cases p0 : 0 ≤ id
  · have d0 : decide (0 ≤ id) = true := decide_eq_true p0
    by_cases p1 : id < n
    · have d1 : decide (id < (n : Int)) = true := decide_eq_true p1
      go_enter Try.func20, Try.ntmps20
      go_wp2
      go_ret
      exact ⟨by simp [d0, d1], rfl⟩
    · have d1 : decide (id < (n : Int)) = false := decide_eq_false p1
      go_enter Try.func20, Try.ntmps20
      go_wp2
      go_ret
      exact ⟨rfl, rfl⟩
  · have d0 : decide (0 ≤ id) = false := decide_eq_false p0
    go_enter Try.func20, Try.ntmps20
    go_wp2
    go_ret
    exact ⟨rfl, rfl⟩
set_option maxRecDepth 20000 in
theorem sgive_nil (id : Int) (w : World) : Calls Try.prog 12 #[.pointer none, .int .i64 id] w fun z w' => z = .returned (.int .i64 1) ∧ w' = w := by
  go_enter Try.func12, Try.ntmps12
  go_wp2_with fail
  refine (shas_nil id w).mono ?_
  rintro e w1 ⟨rfl, rfl⟩
  go_wp2
  go_ret
  exact ⟨rfl, rfl⟩
set_option maxRecDepth 20000 in
theorem sgive_arg (g n : Nat) (c : Value) (id : Int) (ad : Option Addr) (w : World) (X : Blk w 43 g #[c, .slice ad n n]) (hid : ¬ (0 ≤ id ∧ id < n)) :
    Calls Try.prog 12 #[.pointer (some ⟨g, 0, none⟩), .int .i64 id] w fun z w' => z = .returned (.int .i64 1) ∧ w' = w := by
  have V := Lib.hid (show (decide (0 ≤ id) && decide (id < (n : Int))) = false by simpa using hid)
  clear hid
  go_enter Try.func12, Try.ntmps12
  go_wp2_with fail
  refine (shas_any g n c id ad w X).mono ?_
  rintro e w1 ⟨rfl, rfl⟩
  rw [V.out]
  go_wp2
  go_ret
  exact ⟨rfl, rfl⟩
set_option maxRecDepth 20000 in
theorem sgive_none (g c tk n x : Nat) (bs : Array Value) (w : World) (X : Blk w 43 g #[.chan (some c), .slice (some ⟨tk, 0, none⟩) n n]) (Y : Blk w 4 tk bs) (hx : x < n) (hb1 : bs[x]? = some (.bool false)) :
    Calls Try.prog 12 #[.pointer (some ⟨g, 0, none⟩), .int .i64 x] w fun z w' => z = .returned (.int .i64 12) ∧ w' = w := by
  have V := Lib.hid (show (decide (0 ≤ (x : Int)) && decide ((x : Int) < (n : Int))) = true by simp; omega)
  have XX := Lib.hid X
  have x1 := X.cell 1
  simp at x1
  have y0 := Y.cell x
  rw [hb1] at y0
  have h0 : (x : Int) < (n : Int) := by omega
  clear hb1
  go_enter Try.func12, Try.ntmps12
  go_wp2_with fail
  refine (shas_any g n _ x _ w XX.out).mono ?_
  rintro e w1 ⟨rfl, rfl⟩
  rw [V.out]
  go_wp2
  go_ret
  exact ⟨rfl, rfl⟩
set_option maxRecDepth 20000 in
theorem sgive_back (g c tk n x : Nat) (fr : List Int) (bs : Array Value) (w : World) (X : Blk w 43 g #[.chan (some c), .slice (some ⟨tk, 0, none⟩) n n]) (H : Ch w c n fr) (Y : Blk w 4 tk bs) (gt : g ≠ tk) (ct : c ≠ tk) (hx : x < n) (hb1 : bs[x]? = some (.bool true)) (hr : fr.length < n) :
    Calls Try.prog 12 #[.pointer (some ⟨g, 0, none⟩), .int .i64 x] w fun z w' => z = .returned (.int .i64 0) ∧ Ch w' c n (fr ++ [(x : Int)]) ∧ (∀ k, k ≠ c → w'.heap[k]? = (w.setCell ⟨tk, x, none⟩ (.bool false)).heap[k]?) ∧ w'.heap.size = w.heap.size ∧ w'.os = w.os ∧ w'.tape = w.tape ∧ w'.output = w.output := by
  have XX := Lib.hid X
  have x0 := X.cell 0
  have x1 := X.cell 1
  simp at x0 x1
  have y0 := Y.cell x
  rw [hb1] at y0
  have yf := Y.free x
  have h0 : (x : Int) < (n : Int) := by omega
  have V := Lib.hid (show (decide (0 ≤ (x : Int)) && decide ((x : Int) < (n : Int))) = true by simp; omega)
  obtain ⟨wx, hwx⟩ : ∃ wx, w.setCell ⟨tk, x, none⟩ (.bool false) = wx := ⟨_, rfl⟩
  have KB := Lib.hid (show ∀ k, k ≠ tk → wx.heap[k]? = w.heap[k]? from fun k hk => by rw [← hwx]; exact Below.heap_setCell w ⟨tk, x, none⟩ (.bool false) k hk)
  have X1 := Lib.hid (show Blk wx 43 g #[.chan (some c), .slice (some ⟨tk, 0, none⟩) n n] from (KB.out g gt).trans X)
  have C1 := Lib.hid (show Ch wx c n fr from H.on (KB.out c ct))
  have WX := Lib.hid hwx
  have z0 := X1.out.cell 0
  simp at z0
  refine calls_of_wpN Try.func12 rfl ?_
  simp only [Try.ntmps12, List.size_toArray, List.length_cons, List.length_nil, Nat.reduceAdd, Nat.reduceSub, Array.replicate_succ,
    Array.replicate_zero, List.push_toArray, List.append_toArray, List.nil_append, List.cons_append]
  refine wpN_then fun _ hK => ?_
  go_wp2
  refine wpN_then fun _ hK => ?_
  go_wp2_with fail
  refine (shas_any g n _ x _ w XX.out).mono ?_
  rintro e w1 ⟨rfl, rfl⟩
  rw [V.out]
  go_wp2
  refine wpN_then fun _ hK => ?_
  go_wp2
  rw [WX.out]
  refine wpN_then2 fun K hK => wpN_lone fun b k cs hb => ?_
  obtain ⟨s, r, hc⟩ := C1.out
  refine LoneTo.goes (n := 6) ?_
  s_reg
  s_in
  refine goes_oper_k rfl rfl hb (fun K' hK' => ?_)
  go_simp
  refine hK' _ _ ⟨trivial, ?_⟩
  clear hK' K'
  s_in
  refine goes_oper_k rfl rfl hb (fun K' hK' => ?_)
  go_simp
  refine hK' _ _ ⟨trivial, ?_⟩
  clear hK' K'
  s_in
  refine goes_oper_k rfl rfl hb (fun K' hK' => ?_)
  go_simp
  refine hK' _ _ ⟨trivial, ?_⟩
  clear hK' K'
  s_in
  refine goes_oper_k rfl rfl hb (fun K' hK' => ?_)
  go_simp
  refine hK' _ _ ⟨trivial, ?_⟩
  clear hK' K'
  s_in
  refine goes_oper_k rfl rfl hb (fun K' hK' => ?_)
  go_simp
  refine hK' _ _ ⟨trivial, ?_⟩
  clear hK' K'
  s_stop
  refine LoneTo.step (step_lone_send_room (c := c) (stepG_comm (cases := #[scase c (.int .i64 x) (.tuple #[])]) (blocking := true) (shape := .send) (w' := wx) rfl rfl hb (by simp [execOp, scase, Act.eval])) hc (by simp; omega)) ?_
  rw [Frame.finish_at]
  have V := Lib.hid (ch_push (x := (x : Int)) hc)
  obtain ⟨wy, hwy⟩ : ∃ wy, wx.setChan c n (((fr.map (Value.int .i64)).toArray).push (.int .i64 x)) false (s + 1) r false = wy := ⟨_, rfl⟩
  rw [hwy] at V ⊢
  have KC := Lib.hid (show ∀ k, k ≠ c → wy.heap[k]? = wx.heap[k]? from fun k hk => by rw [← hwy]; exact setChan_block _ _ _ _ _ _ _ hk)
  have SZ := Lib.hid (show wy.heap.size = w1.heap.size by rw [← hwy, size_setChan, ← WX.out]; simp)
  have OS := Lib.hid (show wy.os = w1.os ∧ wy.tape = w1.tape ∧ wy.output = w1.output by rw [← hwy, ← WX.out]; exact ⟨rfl, rfl, rfl⟩)
  clear hwy
  walk_nrm
  refine LoneTo.goes (n := 1) ?_
  s_c stepG_region_end
  s_stop
  refine LoneTo.done ⟨_, rfl, ?_⟩
  refine hK _ _ ?_
  clear hK hc hb b cs k K
  refine wpN_of_wp ?_
  go_wp2
  go_ret
  exact ⟨rfl, V.out, KC.out, SZ.out, OS.out⟩
end Go.Proofs.Ytgkmhnkndjfcaaa
