/-
  The laws' entry and awake; Less with its answer under a name.
-/
import Derived.Test.YtkiolkceaibmgaaPz5
namespace Go.Proofs.Ytkiolkceaibmgaa
open Go.RowKit

theorem rowF_new (W : World) (t : TypeId) (c : Nat) (rs : List (List Value)) (hw : Wide c rs) (cs : Array Value) (hcs : cs.toList = rs.flatten) (hn : rs.length ≤ 1000) : RowF (W.alloc (.cells cs t)) (some ⟨W.heap.size, 0, none⟩) rs.length rs.length c rs := by
  refine ⟨rfl, Nat.le_refl _, by omega, (fun h => by cases h), fun i hi => ⟨_, _, rfl, fun j hj => ?_⟩⟩
  rw [cell_of_row (W.alloc (.cells cs t)) W.heap.size _ cs t (0, 0) (heap_alloc_new _ _), ← Array.getElem?_toList, hcs, Nat.zero_add]
  exact flat_at rs hw i hi j hj
theorem l6entry_any (id dl bit grp : Int) (w : World) : Calls Try.prog 21 #[.int .i64 id, .int .i64 dl, .int .i64 bit, .int .i64 grp] w fun e w' => e = .returned (.agg #[.int .i64 id, .int .i64 1, .int .i64 0, .int .i64 dl, .int .i64 bit, .int .i64 grp]) ∧ Below w.heap.size w w' := by
  go_enter Try.func21, Try.ntmps21
  go_wp2
  refine bodyPost_ret (v := .agg #[.int .i64 id, .int .i64 1, .int .i64 0, .int .i64 dl, .int .i64 bit, .int .i64 grp]) (by simp [results, Try.results21, go_sem]) rfl ⟨rfl, ?_⟩
  exact wbox _ _
theorem sort_example : sortE [⟨1, 1, 0, 5, 0, 0⟩, ⟨2, 1, 0, 5, 1, 8⟩, ⟨3, 1, 0, 5, 1, 9⟩, ⟨4, 1, 0, 4, 0, 0⟩] = [⟨4, 1, 0, 4, 0, 0⟩, ⟨3, 1, 0, 5, 1, 9⟩, ⟨2, 1, 0, 5, 1, 8⟩, ⟨1, 1, 0, 5, 0, 0⟩] := by kernel_rfl
theorem l6awake_any (w : World) : Calls Try.prog 9 #[] w fun e w' => e = .returned (.bool true) ∧ Below w.heap.size w w' := by
  have B := Lib.hid (Below.refl w.heap.size w)
  go_enter Try.func9, Try.ntmps9
  go_wp2_with fail
  refine (l6entry_any 1 5 0 0 _).mono ?_
  rintro e w1 ⟨rfl, hb⟩
  have B := Lib.hid (below_next B.out hb)
  clear hb
  go_wp2_with fail
  refine (l6entry_any 2 5 1 8 _).mono ?_
  rintro e w2 ⟨rfl, hb⟩
  have B := Lib.hid (below_next B.out hb)
  clear hb
  go_wp2_with fail
  refine (l6entry_any 3 5 1 9 _).mono ?_
  rintro e w3 ⟨rfl, hb⟩
  have B := Lib.hid (below_next B.out hb)
  clear hb
  go_wp2_with fail
  refine (l6entry_any 4 4 0 0 _).mono ?_
  rintro e w4 ⟨rfl, hb⟩
  have B := Lib.hid (below_next B.out hb)
  clear hb
  have RN := Lib.hid (rowF_new w4 27 6 (List.map Ent.cs [⟨1, 1, 0, 5, 0, 0⟩, ⟨2, 1, 0, 5, 1, 8⟩, ⟨3, 1, 0, 5, 1, 9⟩, ⟨4, 1, 0, 4, 0, 0⟩]) (wideE _) #[.int .i64 1, .int .i64 1, .int .i64 0, .int .i64 5, .int .i64 0, .int .i64 0, .int .i64 2, .int .i64 1, .int .i64 0, .int .i64 5, .int .i64 1, .int .i64 8, .int .i64 3, .int .i64 1, .int .i64 0, .int .i64 5, .int .i64 1, .int .i64 9, .int .i64 4, .int .i64 1, .int .i64 0, .int .i64 4, .int .i64 0, .int .i64 0] rfl (by decide))
  have B := Lib.hid (below_next B.out (wbox w4 (Obj.cells #[.int .i64 1, .int .i64 1, .int .i64 0, .int .i64 5, .int .i64 0, .int .i64 0, .int .i64 2, .int .i64 1, .int .i64 0, .int .i64 5, .int .i64 1, .int .i64 8, .int .i64 3, .int .i64 1, .int .i64 0, .int .i64 5, .int .i64 1, .int .i64 9, .int .i64 4, .int .i64 1, .int .i64 0, .int .i64 4, .int .i64 0, .int .i64 0] 27)))
  go_wp2_with fail
  refine (psort_any _ 4 4 [⟨1, 1, 0, 5, 0, 0⟩, ⟨2, 1, 0, 5, 1, 8⟩, ⟨3, 1, 0, 5, 1, 9⟩, ⟨4, 1, 0, 4, 0, 0⟩] _ RN.out (by decide)).mono ?_
  rintro e w5 ⟨a, len, cap, rfl, hr, hb, hf⟩
  have B := Lib.hid (below_next B.out hb)
  rw [sort_example] at hr
  obtain rfl : 4 = len := hr.len
  obtain ⟨b, o, rfl, h0⟩ := hr.at (i := 0) rfl
  obtain ⟨b1, o1, e1, h1⟩ := hr.at (i := 1) rfl
  obtain ⟨b2, o2, e2, h2⟩ := hr.at (i := 2) rfl
  obtain ⟨b3, o3, e3, h3⟩ := hr.at (i := 3) rfl
  simp only [Option.some.injEq, Addr.mk.injEq, and_true] at e1 e2 e3
  obtain ⟨rfl, rfl⟩ := e1
  obtain ⟨rfl, rfl⟩ := e2
  obtain ⟨rfl, rfl⟩ := e3
  have c0 := h0.c0; have c1 := h1.c0; have c2 := h2.c0; have c3 := h3.c0
  simp at c0 c1 c2 c3
  clear hr hb hf h0 h1 h2 h3
  go_wp2
  go_ret
  exact ⟨rfl, B.out⟩
end Go.Proofs.Ytkiolkceaibmgaa
