/-
  Package seats: Taken, IDs, and what a nil one tells; New of a number that may not be.
-/
import Derived.Test.YtgkmhnkndjfcaaaUw5
import Derived.Test.YtgkmhnkndjfcaaaUe4
namespace Go.Proofs.Ytgkmhnkndjfcaaa
open Go.RowKit

set_option maxRecDepth 20000 in
theorem snew_no (m : Int) (w : World) (h : m < 1 ∨ 64 < m) : Calls Try.prog 8 #[.int .i64 m] w fun z w' => z = .returned (.pointer none) ∧ w' = w := by
  have D := Lib.hid h
  by_cases p0 : m < 1
  · have d0 : decide (m < 1) = true := decide_eq_true p0
    go_enter Try.func8, Try.ntmps8
    go_wp2
    go_ret
    exact ⟨rfl, rfl⟩
  · have d0 : decide (m < 1) = false := decide_eq_false p0
    have d1 : decide (64 < m) = true := decide_eq_true (by have := D.out; omega)
    have p1 : 64 < m := by have := D.out; omega
    go_enter Try.func8, Try.ntmps8
    go_wp2
    go_ret
    exact ⟨rfl, rfl⟩
set_option maxRecDepth 20000 in
theorem sleft_nil (w : World) : Calls Try.prog 17 #[.pointer none] w fun z w' => z = .returned (.int .i64 0) ∧ w' = w := by
  go_enter Try.func17, Try.ntmps17
  go_wp2
  go_ret
  exact ⟨rfl, rfl⟩
set_option maxRecDepth 20000 in
theorem sids_nil (w : World) : Calls Try.prog 15 #[.pointer none] w fun z w' => z = .returned (.slice none 0 0) ∧ w' = w := by
  go_enter Try.func15, Try.ntmps15
  go_wp2
  go_ret
  exact ⟨rfl, rfl⟩
set_option maxRecDepth 20000 in
theorem staken_nil (id : Int) (w : World) : Calls Try.prog 18 #[.pointer none, .int .i64 id] w fun z w' => z = .returned (.bool false) ∧ w' = w := by
  go_enter Try.func18, Try.ntmps18
  go_wp2_with fail
  refine (shas_nil id w).mono ?_
  rintro e w1 ⟨rfl, rfl⟩
  go_wp2
  go_ret
  exact ⟨rfl, rfl⟩
set_option maxRecDepth 20000 in
theorem staken_any (g tk n : Nat) (c : Value) (fr : List Int) (id : Int) (w : World) (X : Blk w 43 g #[c, .slice (some ⟨tk, 0, none⟩) n n]) (Y : Blk w 4 tk (bools n fr).toArray) :
    Calls Try.prog 18 #[.pointer (some ⟨g, 0, none⟩), .int .i64 id] w fun z w' => z = .returned (.bool (takenB n fr id)) ∧ w' = w := by
  have XX := Lib.hid X
  have x1 := X.cell 1
  simp at x1
  by_cases p : 0 ≤ id ∧ id < n
  · obtain ⟨x, rfl⟩ : ∃ x : Nat, id = (x : Int) := ⟨id.toNat, by omega⟩
    have hx : x < n := by omega
    have y0 := Y.cell x
    have hb := bools_at fr hx
    have V := Lib.hid (show (decide (0 ≤ (x : Int)) && decide ((x : Int) < (n : Int))) = true by simp; omega)
    have E := Lib.hid (show takenB n fr x = !decide ((x : Int) ∈ fr) by unfold takenB; rw [V.out]; rfl)
    obtain ⟨bb, hbb⟩ : ∃ bb, (!decide ((x : Int) ∈ fr)) = bb := ⟨_, rfl⟩
    rw [hbb] at hb E
    have y1 : w.cell? ⟨tk, x, none⟩ = some (.bool bb) := by rw [y0]; simpa using hb
    clear y0 hb hbb
    have h0 : (x : Int) < (n : Int) := by omega
    go_enter Try.func18, Try.ntmps18
    go_wp2_with fail
    refine (shas_any g n _ x _ w XX.out).mono ?_
    rintro e w1 ⟨rfl, rfl⟩
    rw [V.out]
    go_wp2
    go_ret
    exact ⟨by rw [E.out]; rfl, rfl⟩
  · have V := Lib.hid (show (decide (0 ≤ id) && decide (id < (n : Int))) = false by simpa using p)
    have E := Lib.hid (show takenB n fr id = false by unfold takenB; rw [V.out]; rfl)
    clear p
    go_enter Try.func18, Try.ntmps18
    go_wp2_with fail
    refine (shas_any g n _ id _ w XX.out).mono ?_
    rintro e w1 ⟨rfl, rfl⟩
    rw [V.out]
    go_wp2
    go_ret
    exact ⟨by rw [E.out]; rfl, rfl⟩
set_option maxRecDepth 20000 in
set_option maxHeartbeats 4000000 in
theorem sids_any (g tk n : Nat) (c : Value) (fr : List Int) (w : World) (n64 : n ≤ 64) (hX : Blk w 43 g #[c, .slice (some ⟨tk, 0, none⟩) n n]) (hY : Blk w 4 tk (bools n fr).toArray) :
    Calls Try.prog 15 #[.pointer (some ⟨g, 0, none⟩)] w fun z w' => ∃ a cap, z = .returned (.slice a (idsV n fr).length cap) ∧ Row .i64 w' a (idsV n fr).length cap (idsV n fr) ∧ Below w.heap.size w w' := by
  have X := Lib.hid hX
  have Y := Lib.hid hY
  have x1 := hX.cell 1
  simp at x1
  clear hX hY
  go_enter Try.func15, Try.ntmps15
  go_wp2
  clear x1
  go_loopw [3, 13] (fun o u wr => ∃ i : Nat, u = .int .i64 i ∧ i ≤ n ∧ wr.ownsRow w.heap.size 3 1 o (idsV i fr).length ((idsV i fr).map (Value.int .i64)) ∧ Below w.heap.size w wr) (fun _ u _ => n - (intOf u).toNat)
  case atStart => exact ⟨0, rfl, by omega, World.ownsRow_nil _ _ _ _, Below.refl _ _⟩
  case round =>
    obtain ⟨i, rfl, i1, ho, hb⟩ := hrel
    have O := Lib.hid ho
    have B := Lib.hid hb
    clear ho hb
    by_cases go : i < n
    · have b1 : decide ((i : Int) < (n : Int)) = true := by simp; omega
      have b1' : decide (i < n) = true := by simp; omega
      have h0 : (i : Int) < (n : Int) := by omega
      have IL := ids_le fr i
      have y0 : wr.cell? ⟨tk, i, none⟩ = some (.bool (!decide ((i : Int) ∈ fr))) := by rw [(Y.out.below B.out).cell]; simpa using bools_at fr go
      by_cases p : (i : Int) ∈ fr
      · have IS := Lib.hid (show idsV (i + 1) fr = idsV i fr by rw [ids_snoc, if_pos p])
        rw [decide_eq_true p, Bool.not_true] at y0
        clear p
        go_wp2
        go_roundw
        case rel => exact ⟨i + 1, by go_num, by omega, by rw [IS.out]; exact O.out, B.out⟩
        case measure => simp [intOf]; omega
      · have IS := Lib.hid (show idsV (i + 1) fr = idsV i fr ++ [(i : Int)] by rw [ids_snoc, if_neg p])
        rw [decide_eq_false p, Bool.not_false] at y0
        clear p
        go_wp2_with (at_builtin; refine app_oint rfl _ _ rfl w.heap.size _ (idsV i fr) rfl (owns_below O.out (wbox wr (.cells #[.int .i64 i] 3))) wr.heap.size i rfl (heap_alloc_new wr _) (Nat.le_trans B.out.size (wbox wr (.cells #[.int .i64 (i : Int)] 3)).size) (by omega) ?_; intro v2 w2 h1 h2 _; have O2 := Lib.hid h1; have B2 := Lib.hid (show Below w.heap.size w w2 from (B.out.alloc B.out.size _).grown h2 (Nat.le_trans B.out.size (wbox wr _).size) (fun q e => (O.out.lt q e).1)); clear h1 h2)
        go_roundw
        case rel => exact ⟨i + 1, by go_num, by omega, by rw [IS.out]; exact O2.out, B2.out⟩
        case measure => simp [intOf]; omega
    · have b1 : decide ((i : Int) < (n : Int)) = false := by simp; omega
      have b1' : decide (i < n) = false := by simp; omega
      obtain rfl : i = n := by omega
      obtain ⟨a, cap, rfl, hr, _⟩ := row_of_owns O.out
      have RW := Lib.hid hr
      clear hr
      go_wp2
      go_ret
      exact ⟨a, cap, rfl, RW.out, B.out⟩
end Go.Proofs.Ytgkmhnkndjfcaaa
