/-
  The laws' awake and made: contracts.
-/
import Derived.Test.YtokmkfoofgiddaaPb2
namespace Go.Proofs.Ytokmkfoofgiddaa
open Go.RowKit

/-! ### awake -/
def lA : List Rn := [⟨1, -1, 2⟩, ⟨2, 2, -1⟩, ⟨3, -1, -1⟩]
theorem mayA : MayR lA 3 := ⟨by decide, by decide, by decide, by intro r hr; simp [lA] at hr; rcases hr with rfl | rfl | rfl <;> decide, by simp [lA], by simp [lA]⟩
theorem asgA : asgL lA 3 = [0, 2, 1] ∧ asgE lA 3 = 0 := by
  obtain ⟨h1, h2⟩ := asg_yes (l := lA) (m := 3) mayA
  refine ⟨?_, h2⟩
  show asgL lA ((3 : Nat) : Int) = _
  rw [h1]
  decide
theorem rowA (w : World) : RowR (w.alloc (.cells #[.int .i64 1, .int .i64 (-1), .int .i64 2, .int .i64 2, .int .i64 2, .int .i64 (-1), .int .i64 3, .int .i64 (-1), .int .i64 (-1)] 39)) (some ⟨w.heap.size, 0, none⟩) 3 3 lA := by
  obtain ⟨a, cap, hv, hr, _⟩ := rowR_of_owns (l := lA) (World.ownsRow_lit (base := w.heap.size) (e := 39) (size := 3) w #[.int .i64 1, .int .i64 (-1), .int .i64 2, .int .i64 2, .int .i64 2, .int .i64 (-1), .int .i64 3, .int .i64 (-1), .int .i64 (-1)] 3 (Nat.le_refl _) (by unfold maxLen; omega) rfl) rfl
  simp only [Value.slice.injEq] at hv
  obtain ⟨rfl, _, rfl⟩ := hv
  exact hr
theorem row3 (w : World) : Row .i64 (w.alloc (.cells #[.int .i64 0, .int .i64 2, .int .i64 1] 3)) (some ⟨w.heap.size, 0, none⟩) 3 3 [0, 2, 1] := by
  obtain ⟨a, cap, hv, hr, _⟩ := row_of_owns (k := .i64) (zs := [0, 2, 1]) (World.ownsRow_lit (base := w.heap.size) (e := 3) (size := 1) w #[.int .i64 0, .int .i64 2, .int .i64 1] 3 (Nat.le_refl _) (by unfold maxLen; omega) rfl)
  simp only [Value.slice.injEq] at hv
  obtain ⟨rfl, _, rfl⟩ := hv
  exact hr
set_option maxHeartbeats 2000000 in
theorem awake15_any (w : World) : Calls Try.prog 8 #[] w fun e w' => e = .returned (.bool true) ∧ Below w.heap.size w w' := by
  have RA := Lib.hid (rowA w)
  have BA := Lib.hid (wbox w (.cells #[.int .i64 1, .int .i64 (-1), .int .i64 2, .int .i64 2, .int .i64 2, .int .i64 (-1), .int .i64 3, .int .i64 (-1), .int .i64 (-1)] 39))
  go_enter Try.func8, Try.ntmps8
  go_wp2_with fail
  refine (passign_any (some ⟨w.heap.size, 0, none⟩) 3 3 lA 3 _ RA.out).mono ?_
  rintro e w1 ⟨ao, lo, co, rfl, hr, hb⟩
  have R := Lib.hid hr
  have B := Lib.hid (below_next BA.out hb)
  have RA := Lib.hid (RA.out.below hb)
  rw [asgA.2]
  clear hr hb BA
  have R2 := Lib.hid (R.out.below (wbox w1 (.cells #[.int .i64 0, .int .i64 2, .int .i64 1] 3)))
  have E := Lib.hid (row3 w1)
  have B2 := Lib.hid (below_next B.out (wbox w1 (.cells #[.int .i64 0, .int .i64 2, .int .i64 1] 3)))
  have RA2 := Lib.hid (RA.out.below (wbox w1 (.cells #[.int .i64 0, .int .i64 2, .int .i64 1] 3)))
  go_wp2_with fail
  refine (r15same_any ao lo co _ (some ⟨w1.heap.size, 0, none⟩) 3 3 _ _ R2.out E.out true (by rw [asgA.1]; simp)).mono ?_
  rintro e w2 ⟨rfl, hb⟩
  have B := Lib.hid (below_next B2.out hb)
  have RA := Lib.hid (RA2.out.below hb)
  clear hb
  go_wp2_with fail
  refine (pleast_any (some ⟨w.heap.size, 0, none⟩) 3 3 lA 3 w2 RA.out).mono ?_
  rintro e w3 ⟨rfl, hb⟩
  have B := Lib.hid (below_next B.out hb)
  have RA := Lib.hid (RA.out.below hb)
  clear hb
  rw [show movesR lA (asgL lA 3) = 1 by rw [asgA.1]; decide]
  go_wp2_with fail
  refine (pcheck_any (some ⟨w.heap.size, 0, none⟩) 3 3 lA 3 w3 RA.out).mono ?_
  rintro e w4 ⟨rfl, hb⟩
  have B := Lib.hid (below_next B.out hb)
  clear hb
  rw [mayB_yes mayA]
  go_wp2
  go_ret
  exact ⟨rfl, B.out⟩
/-! ### made -/
def pc (p : Int × Int) : List Value := [.int .i64 p.1, .int .i64 p.2]
def RowQ (W : World) (a : Option Addr) (len cap : Nat) (ps : List (Int × Int)) : Prop := RowF W a len cap 2 (ps.map pc)
theorem wideQ (ps : List (Int × Int)) : Wide 2 (ps.map pc) := fun r hr => by
  rw [List.mem_map] at hr
  obtain ⟨e, _, rfl⟩ := hr
  rfl
theorem RowQ.len {W : World} {a : Option Addr} {len cap : Nat} {ps : List (Int × Int)} (h : RowQ W a len cap ps) : ps.length = len := by have := h.1; rwa [List.length_map] at this
theorem RowQ.below {W W' : World} {a : Option Addr} {len cap : Nat} {ps : List (Int × Int)} (h : RowQ W a len cap ps) (hb : Below W.heap.size W W') : RowQ W' a len cap ps := RowF.below (wideQ ps) h hb
theorem RowQ.at {W : World} {a : Option Addr} {len cap : Nat} {ps : List (Int × Int)} (h : RowQ W a len cap ps) {i : Nat} (hi : i < len) : ∃ b off x y, a = some ⟨b, off, none⟩ ∧ W.cell? ⟨b, off + i * 2, none⟩ = some (.int .i64 x) ∧ W.cell? ⟨b, off + i * 2 + 1, none⟩ = some (.int .i64 y) := by
  have hl := h.len
  obtain ⟨b, off, ha, hc⟩ := h.2.2.2.2 i hi
  have he : ps[i]? = some ps[i] := List.getElem?_eq_getElem (by omega)
  have hg : (ps.map pc).getD i [] = pc ps[i] := by rw [List.getD_eq_getElem?_getD, List.getElem?_map, he]; rfl
  rw [hg] at hc
  exact ⟨b, off, _, _, ha, hc 0 (by omega), hc 1 (by omega)⟩
/-- what pairs that were handed over are -/
theorem pairs_of_flat {w : World} {a : Option Addr} {len cap : Nat} {rs : List (List Value)} (h : RowF w a len cap 2 rs) (g : ∀ r ∈ rs, Fit [.int .i64, .int .i64] r) : ∃ ps, RowQ w a len cap ps := by
  have : ∃ ps : List (Int × Int), rs = ps.map pc := by
    clear h
    induction rs with
    | nil => exact ⟨[], rfl⟩
    | cons r rs ih =>
      obtain ⟨es, he⟩ := ih (fun r' hr => g r' (List.mem_cons_of_mem _ hr))
      have gr := g r (List.mem_cons_self ..)
      obtain ⟨z0, q0, rfl, _, gr⟩ := gr.int
      obtain ⟨z1, q1, rfl, _, gr⟩ := gr.int
      have := gr.nil
      subst this
      exact ⟨(z0, z1) :: es, by rw [he]; rfl⟩
  obtain ⟨ps, rfl⟩ := this
  exact ⟨ps, h⟩
/-- an array of n truths -/
def bkc (n : Nat) (tk : List Int) : Array Value := Array.ofFn (n := n) fun i => .bool (decide ((i.val : Int) ∈ tk))
theorem bkc_size (n : Nat) (tk : List Int) : (bkc n tk).size = n := by simp [bkc]
theorem bkc_at (n : Nat) (tk : List Int) {j : Nat} (h : j < n) : (bkc n tk)[j]? = some (.bool (decide ((j : Int) ∈ tk))) := by
  unfold bkc
  rw [Array.getElem?_eq_getElem (by simpa using h)]
  simp
theorem bkc_ext {n : Nat} {A : Array Value} {tk : List Int} (hs : A.size = n) (h : ∀ j, j < n → A[j]? = some (.bool (decide ((j : Int) ∈ tk)))) : A = bkc n tk := by
  apply Array.ext_getElem?
  intro j
  by_cases q : j < n
  · rw [h j q, bkc_at n tk q]
  · rw [Array.getElem?_eq_none (by omega), Array.getElem?_eq_none (by rw [bkc_size]; omega)]
theorem bkc_set (n : Nat) (tk : List Int) {j : Nat} (h : j < n) : (bkc n tk).setIfInBounds j (.bool true) = bkc n (tk ++ [(j : Int)]) := by
  refine bkc_ext (by simp [bkc_size]) fun k hk => ?_
  by_cases e : j = k
  · subst e
    rw [Array.getElem?_setIfInBounds_self_of_lt (by rw [bkc_size]; exact h)]
    simp
  · rw [Array.getElem?_setIfInBounds_ne e, bkc_at n tk hk]
    have : ¬ (k : Int) = j := by omega
    simp [this]
theorem bkc_nil (n : Nat) : Array.replicate n (Value.bool false) = bkc n [] :=
  bkc_ext (by simp) fun j hj => by
    rw [Array.getElem?_replicate, if_pos hj]
    simp
theorem made_bools (n : Nat) : madeCells (Value.bool false).cells n = Array.replicate n (.bool false) := by
  apply Array.ext_getElem?
  intro j
  simp [madeCells, Value.cells]
  by_cases h : j < n <;> simp [h, Nat.mod_one]
theorem Try.infoB : (Try.prog.info? 4).map (fun i => (i.zero, i.size, i.bytes)) = some (some (.bool false), 1, 1) := by kernel_rfl
theorem Try.infoR : (Try.prog.info? 39).map (fun i => (i.zero, i.size, i.bytes)) = some (some (.agg #[.int .i64 0, .int .i64 0, .int .i64 0]), 3, 24) := by kernel_rfl
theorem tmod2 (x r : Int) (h : 0 < r) : 0 ≤ (x.tmod r + r).tmod r ∧ (x.tmod r + r).tmod r < r ∧ -r < x.tmod r ∧ x.tmod r < r := by
  have c1 := Int.lt_tmod_of_pos x h
  have c2 := Int.tmod_lt_of_pos x h
  exact ⟨Int.tmod_nonneg r (by omega), Int.tmod_lt_of_pos _ h, by omega, c2⟩
/-- runners made one by one -/
structure MadeS (m : Int) (rs : List Rn) : Prop where
  so : ToR rs m rs.length
  id : ∀ x ∈ rs, x.id < rs.length
theorem made_zero (m : Int) : MadeS m [] := ⟨to_zero _ _, by simp⟩
theorem made_next {m : Int} {rs : List Rn} (h : MadeS m rs) {r : Rn} (h1 : r.id = rs.length) (h2 : -1 ≤ r.last ∧ r.last < m) (h3 : -1 ≤ r.pin ∧ r.pin < m) (h4 : 0 ≤ r.pin → r.pin ∉ pinsR rs) : MadeS m (rs ++ [r]) := by
  have ht : (rs ++ [r]).take (rs.length + 1) = (rs ++ [r]).take rs.length ++ [r] := by rw [List.take_of_length_le (by simp)]; simp
  have e : (rs ++ [r]).take rs.length = rs := by simp
  refine ⟨?_, fun x hx => ?_⟩
  · rw [List.length_append]
    show ToR _ m (rs.length + 1)
    rw [to_step ht, e]
    refine ⟨⟨by rw [e]; have := h.so.each; rwa [List.take_length] at this, by rw [e]; have := h.so.ids; rwa [List.take_length] at this, by rw [e]; have := h.so.pins; rwa [List.take_length] at this⟩, ⟨⟨h3.1, h3.2, h2.1, h2.2⟩, fun x hx => by have := h.id x hx; omega, fun x hx he => ?_⟩⟩
    refine Classical.byContradiction fun q => ?_
    exact h4 (by omega) (mem_pins.mpr ⟨by omega, x, hx, he⟩)
  · rw [List.length_append]
    rcases List.mem_append.mp hx with q | q
    · have := h.id x q; simp; omega
    · have : x = r := by simpa using q
      rw [this, h1]; simp; omega
theorem MadeS.may {m : Int} {rs : List Rn} (h : MadeS m rs) (m1 : 1 ≤ m) (m2 : m ≤ 1024) (hl : (rs.length : Int) ≤ m) : MayR rs m := may_iff.mpr ⟨m1, m2, hl, h.so⟩
/-- append of one runner to what is owned -/
theorem app_run {w : World} {ops : Array Oper} {rest : List Oper} {o : Oper} {act : Act} {Q : Exit → Act → World → Prop} (hgd : o.guard = none) (s x : Operand)
    (ho : o.op = .call { callee := .builtin .append, args := #[s, x], argTypes := #[22, 22] }) (base : Nat)
    (v : Value) (ns : List Rn) (hs : act.eval s = v) (hown : w.ownsRow base 39 3 v ns.length (ns.map Rn.cs).flatten) (g : Nat) (e : Rn) (hx : act.eval x = .slice (some ⟨g, 0, none⟩) 1 1)
    (hg : w.heap[g]? = some (.cells #[.int .i64 e.id, .int .i64 e.pin, .int .i64 e.last] 39 (0, 0))) (hb : base ≤ w.heap.size) (hsm : ns.length ≤ 100000)
    (h : ∀ v' w', w'.ownsRow base 39 3 v' (ns ++ [e]).length ((ns ++ [e]).map Rn.cs).flatten → w.grownBy w' v.ownBlock → (∃ g, v'.ownBlock = some g ∧ (v.ownBlock = some g ∨ g = w.heap.size)) → wpList Try.prog ops Q rest (act.put o.dst v') w') : wpList Try.prog ops Q (o :: rest) act w := by
  obtain ⟨i0, hi, hz0, hz1, hz2⟩ := info_parts Try.infoR
  refine wpList_append_lies _ hgd s x _ ho base _ i0 _ 3 24 Try.underlying22 hi hz0 hz1 hz2 rfl (by decide) v _ _ hs hown ⟨g, 0, none⟩ 1 1 e.cs hx rfl (World.news_of_block (cs := #[.int .i64 e.id, .int .i64 e.pin, .int .i64 e.last]) (t := 39) (fr := (0, 0)) hg) (by simp [Rn.cs, Value.oneCell']) (by decide) (by unfold maxLen; omega) (by omega) hb w.heap.size rfl ?_
  intro g' cap w2 ho2 hg2 hl _
  refine h _ w2 ?_ hg2 ⟨g', rfl, hl⟩
  rw [List.map_append, List.flatten_append, List.length_append]
  simpa using ho2
end Go.Proofs.Ytokmkfoofgiddaa
