/-
  The stand-in's seats: New.
-/
import Derived.Test.YtgkmhnkndjfcaaaUw3
namespace Go.Proofs.Ytgkmhnkndjfcaaa
open Go.Conc Go.RowKit

theorem mkch (n : Nat) (n64 : n ≤ 64) (w : World) : (Instr.makeChan 40 (.int .i64 n)).run Try.prog w = .ok (.chan (some w.heap.size)) (w.alloc (.chan n #[] false 0 0 false)) := by
  have h : (Try.prog.info? 3).map (·.bytes) = some 8 := by kernel_rfl
  obtain ⟨i, hi, hb⟩ := Option.map_eq_some_iff.1 h
  have hu : Try.prog.underlying 40 = some (.chan .both 3) := by kernel_rfl
  exact run_makeChan (P := Try.prog) (w := w) hu hi .i64 n (by omega) (by rw [hb]; omega)
theorem Try.infoB : (Try.prog.info? 4).map (fun i => (i.zero, i.size, i.bytes)) = some (some (.bool false), 1, 1) := by kernel_rfl
theorem made_bools (n : Nat) : madeCells (Value.bool false).cells (n * 1) = Array.replicate n (.bool false) := by
  apply Array.ext'
  rw [Nat.mul_one, show (Value.bool false).cells = #[Value.bool false] from rfl, toList_madeCells_one]
  simp
theorem make_bools (n : Nat) (n64 : n ≤ 64) (w : World) : (Instr.makeSlice 41 (.int .i64 (n : Int)) (.int .i64 (n : Int))).run Try.prog w = .ok (.slice (some ⟨w.heap.size, 0, none⟩) n n) (w.alloc (.cells (Array.replicate n (.bool false)) 4)) := by
  obtain ⟨i0, hi, hz0, hz1, hz2⟩ := info_parts Try.infoB
  have hu : Try.prog.underlying 41 = some (.slice 4) := by kernel_rfl
  have h := run_make (P := Try.prog) w 41 4 i0 (.bool false) hu hi hz0 .i64 .i64 n n (by omega) (by omega) (by rw [hz2]; omega) (by omega)
  rw [hz1] at h
  rw [← made_bools]
  simpa using h
structure St17 (w : World) (n g c tk : Nat) (xs : List Int) (wr : World) : Prop where
  lo : w.heap.size ≤ g ∧ w.heap.size ≤ c ∧ w.heap.size ≤ tk
  ne : g ≠ c ∧ g ≠ tk ∧ c ≠ tk
  blk : Blk wr 43 g #[.chan (some c), .slice (some ⟨tk, 0, none⟩) n n]
  ch : Ch wr c n xs
  row : Blk wr 4 tk (Array.replicate n (.bool false))
  below : Below w.heap.size w wr
theorem st_new1 {w W : World} (n : Nat) (hb : Below w.heap.size w W) (hs : W.heap.size = w.heap.size) :
    St17 w n (w.heap.size + 1 + 1) w.heap.size (w.heap.size + 1) [] (((W.alloc (.chan n #[] false 0 0 false)).alloc (.cells (Array.replicate n (.bool false)) 4)).alloc (.cells #[.chan (some w.heap.size), .slice (some ⟨w.heap.size + 1, 0, none⟩) n n] 43)) := by
  refine ⟨⟨by omega, by omega, by omega⟩, ⟨by omega, by omega, by omega⟩, ?_, ⟨0, 0, ?_⟩, ?_, ?_⟩
  · rw [← hs, show W.heap.size + 1 + 1 = ((W.alloc (.chan n #[] false 0 0 false)).alloc (.cells (Array.replicate n (.bool false)) 4)).heap.size by rw [wsize, wsize]]
    exact Blk.new _ _ _
  · rw [← hs]
    have h1 := heap_alloc_new W (.chan n #[] false 0 0 false)
    have h2 := (wbox (W.alloc (.chan n #[] false 0 0 false)) (.cells (Array.replicate n (.bool false)) 4)).block W.heap.size (by rw [wsize]; omega)
    have h3 := (wbox ((W.alloc (.chan n #[] false 0 0 false)).alloc (.cells (Array.replicate n (.bool false)) 4)) (.cells #[.chan (some W.heap.size), .slice (some ⟨W.heap.size + 1, 0, none⟩) n n] 43)).block W.heap.size (by rw [wsize, wsize]; omega)
    exact h3.trans (h2.trans h1)
  · rw [← hs]
    exact (Blk.new2 W (.chan n #[] false 0 0 false) 4 (Array.replicate n (.bool false))).alloc _
  · exact ((hb.alloc (by omega) _).alloc (by rw [wsize]; omega) _).alloc (by rw [wsize, wsize]; omega) _
theorem st_new2 {w W : World} (n : Nat) (hb : Below w.heap.size w W) (hs : W.heap.size = w.heap.size) :
    St17 w n (w.heap.size + 1 + 1) (w.heap.size + 1) w.heap.size [] (((W.alloc (.cells (Array.replicate n (.bool false)) 4)).alloc (.chan n #[] false 0 0 false)).alloc (.cells #[.chan (some (w.heap.size + 1)), .slice (some ⟨w.heap.size, 0, none⟩) n n] 43)) := by
  refine ⟨⟨by omega, by omega, by omega⟩, ⟨by omega, by omega, by omega⟩, ?_, ⟨0, 0, ?_⟩, ?_, ?_⟩
  · rw [← hs, show W.heap.size + 1 + 1 = ((W.alloc (.cells (Array.replicate n (.bool false)) 4)).alloc (.chan n #[] false 0 0 false)).heap.size by rw [wsize, wsize]]
    exact Blk.new _ _ _
  · rw [← hs]
    have h1 := heap_alloc_new (W.alloc (.cells (Array.replicate n (.bool false)) 4)) (.chan n #[] false 0 0 false)
    rw [wsize] at h1
    have h3 := (wbox ((W.alloc (.cells (Array.replicate n (.bool false)) 4)).alloc (.chan n #[] false 0 0 false)) (.cells #[.chan (some (W.heap.size + 1)), .slice (some ⟨W.heap.size, 0, none⟩) n n] 43)).block (W.heap.size + 1) (by rw [wsize, wsize]; omega)
    exact h3.trans h1
  · rw [← hs]
    exact ((Blk.new W 4 (Array.replicate n (.bool false))).alloc _).alloc _
  · exact ((hb.alloc (by omega) _).alloc (by rw [wsize]; omega) _).alloc (by rw [wsize, wsize]; omega) _
set_option maxRecDepth 20000 in
set_option maxHeartbeats 4000000 in
theorem snew_yes (n : Nat) (w : World) (n1 : 1 ≤ n) (n64 : n ≤ 64) :
    Calls Try.prog 8 #[.int .i64 n] w fun z w' => ∃ g c tk, z = .returned (.pointer (some ⟨g, 0, none⟩)) ∧ St17 w n g c tk (ups n) w' := by
  have b1 : decide ((n : Int) < 1) = false := by simp; omega
  have b2 : decide ((64 : Int) < n) = false := by simp; omega
  have i1 : (n : Int) ≤ 64 := by omega
  have mc := mkch n n64
  have ms := make_bools n n64
  have P1 := Lib.hid (st_new1 n ((Below.refl w.heap.size w).drew) (show w.drew.heap.size = w.heap.size from rfl))
  have P2 := Lib.hid (st_new2 n ((Below.refl w.heap.size w).drew) (show w.drew.heap.size = w.heap.size from rfl))
  refine calls_of_wpN Try.func8 rfl ?_
  simp only [Try.ntmps8, List.size_toArray, List.length_cons, List.length_nil, Nat.reduceAdd, Nat.reduceSub, Array.replicate_succ,
    Array.replicate_zero, List.push_toArray, List.append_toArray, List.nil_append, List.cons_append]
  refine wpN_then fun _ hK => ?_
  go_wp2
  refine wpN_then fun _ hK => ?_
  go_wp2
  refine wpN_cut (fun a wr => ∃ (g c tk : Nat) (u11 u12 u13 u14 u15 u16 : Value), a = ⟨#[.int .i64 n, undef, .pointer none, .pointer (some ⟨g, 0, none⟩), undef, .int .i64 n, .bool false, .bool false, .int .i64 n, .bool false, .bool false, u11, u12, u13, u14, u15, u16, undef, undef, undef, undef, undef, undef, undef, undef, undef, undef, undef], []⟩ ∧
    St17 w n g c tk [] wr) ?_ ?_
  · refine wpN_of_wp ?_
    go_region
    · exact ⟨_, _, _, _, _, _, _, _, _, rfl, P1.out⟩
    · exact ⟨_, _, _, _, _, _, _, _, _, rfl, P2.out⟩
  · clear P1 P2
    rintro a wr ⟨g, c, tk, u11, u12, u13, u14, u15, u16, rfl, S⟩
    refine wpN_then2 fun K hK => ?_
    refine wpN_then fun _ hK2 => ?_
    go_wp2
    refine wpN_block (wpN_loop (fun a wr => ∃ (i : Nat) (u4 u19 u20 u21 u22 u23 u24 u25 u26 : Value), i ≤ n ∧ a = ⟨#[.int .i64 n, undef, .pointer none, .pointer (some ⟨g, 0, none⟩), u4, .int .i64 n, .bool false, .bool false, .int .i64 n, .bool false, .bool false, u11, u12, u13, u14, u15, u16, .int .i64 n, .int .i64 i, u19, u20, u21, u22, u23, u24, u25, u26, undef], []⟩ ∧ St17 w n g c tk (ups i) wr) (fun a _ => n - (intOf (a.tmps.getD 18 undef)).toNat) ⟨0, _, _, _, _, _, _, _, _, _, by omega, rfl, S⟩ ?_)
    clear S wr
    rintro a wr ⟨i, u4, u19, u20, u21, u22, u23, u24, u25, u26, hi, rfl, S⟩
    by_cases go : i < n
    · have c1 : decide ((i : Int) < n) = true := by simp; omega
      have c2 : decide (i < n) = true := by simp; omega
      have x0 := S.blk.cell 0
      simp at x0
      refine wpN_then fun _ hA => ?_
      go_wp2
      refine wpN_then fun _ hA => ?_
      go_wp2
      refine wpN_then2 fun K2 hK2 => wpN_block ?_
      refine wpN_then fun _ hA => ?_
      go_wp2
      refine wpN_lone fun b k cs hb => ?_
      obtain ⟨s, r, hc⟩ := S.ch
      refine LoneTo.goes (n := 6) ?_
      s_reg
      s_in
      refine goes_oper_k rfl rfl hb (fun K' hK' => ?_)
      go_simp
      refine hK' _ _ ⟨trivial, ?_⟩
      clear hK' K'
      s_in
      refine goes_oper_k rfl rfl hb (fun K' hK' => ?_)
      go_simp
      refine hK' _ _ ⟨trivial, ?_⟩
      clear hK' K'
      s_in
      refine goes_oper_k rfl rfl hb (fun K' hK' => ?_)
      go_simp
      refine hK' _ _ ⟨trivial, ?_⟩
      clear hK' K'
      s_in
      refine goes_oper_k rfl rfl hb (fun K' hK' => ?_)
      go_simp
      refine hK' _ _ ⟨trivial, ?_⟩
      clear hK' K'
      s_in
      refine goes_oper_k rfl rfl hb (fun K' hK' => ?_)
      go_simp
      refine hK' _ _ ⟨trivial, ?_⟩
      clear hK' K'
      s_stop
      refine LoneTo.step (step_lone_send_room (c := c) (stepG_comm (cases := #[scase c (.int .i64 i) (.tuple #[])]) (blocking := true) (shape := .send) (w' := wr) rfl rfl hb (by simp [execOp, scase, Act.eval])) hc (by simp [ups_len]; omega)) ?_
      rw [Frame.finish_at]
      have V := Lib.hid (ch_push (x := (i : Int)) hc)
      obtain ⟨wy, hwy⟩ : ∃ wy, wr.setChan c n (((ups i).map (Value.int .i64)).toArray.push (.int .i64 i)) false (s + 1) r false = wy := ⟨_, rfl⟩
      rw [hwy] at V ⊢
      have S2 := Lib.hid (show St17 w n g c tk (ups (i + 1)) wy from ⟨S.lo, S.ne, by rw [← hwy]; exact blk_setChan S.blk _ _ _ _ _ _ _ S.ne.1, by rw [ups_succ]; exact V.out, by rw [← hwy]; exact blk_setChan S.row _ _ _ _ _ _ _ (fun e => S.ne.2.2 e.symm), by rw [← hwy]; exact below_setChan S.below S.lo.2.1 _ _ _ _ _ _⟩)
      clear V hwy
      walk_nrm
      refine LoneTo.goes (n := 1) ?_
      s_c stepG_region_end
      s_stop
      refine LoneTo.done ⟨_, rfl, ?_⟩
      refine hK2 _ _ ?_
      clear hK2 hc hb b cs k K2 x0
      refine wpN_of_wp ?_
      go_wp2
      refine ⟨⟨i + 1, by omega, ⟨_, _, _, _, _, _, _, _, _, rfl⟩, S2.out⟩, ?_⟩
      show n - ((i : Int) + 1).toNat < n - (i : Int).toNat
      omega
    · have c1 : decide ((i : Int) < n) = false := by simp; omega
      have c2 : decide (i < n) = false := by simp; omega
      have e : i = n := by omega
      subst e
      refine wpN_then fun _ hA => ?_
      go_wp2
      refine wpN_then fun _ hA => ?_
      go_wp2
      refine wpN_of_wp ?_
      go_wp2
      go_ret
      exact ⟨g, c, tk, rfl, S⟩
end Go.Proofs.Ytgkmhnkndjfcaaa
