/-
  Two rows of numbers that grow; the document's Assign (regattaref15): contract.
-/
import Derived.Test.YtokmkfoofgiddaaPa7
import Derived.Laws.OwnMore
namespace Go.Proofs.Ytokmkfoofgiddaa
open Go.RowKit

theorem Try.infoI : (Try.prog.info? 3).map (fun i => (i.zero, i.size, i.bytes)) = some (some (.int .i64 0), 1, 8) := by kernel_rfl
/-- append of one number to what is owned -/
theorem app_int {w : World} {ops : Array Oper} {rest : List Oper} {o : Oper} {act : Act} {Q : Exit → Act → World → Prop} (hgd : o.guard = none) (s x : Operand)
    (ho : o.op = .call { callee := .builtin .append, args := #[s, x], argTypes := #[23, 23] }) (base : Nat)
    (v : Value) (ns : List Int) (hs : act.eval s = v) (hown : w.ownsRow base 3 1 v ns.length (ns.map (Value.int .i64))) (g : Nat) (e : Int) (hx : act.eval x = .slice (some ⟨g, 0, none⟩) 1 1)
    (hg : w.heap[g]? = some (.cells #[.int .i64 e] 3 (0, 0))) (hb : base ≤ w.heap.size) (hsm : ns.length ≤ 100000)
    (h : ∀ v' w', w'.ownsRow base 3 1 v' (ns ++ [e]).length ((ns ++ [e]).map (Value.int .i64)) → w.grownBy w' v.ownBlock → (∃ g, v'.ownBlock = some g ∧ (v.ownBlock = some g ∨ g = w.heap.size)) → wpList Try.prog ops Q rest (act.put o.dst v') w') : wpList Try.prog ops Q (o :: rest) act w := by
  obtain ⟨i0, hi, hz0, hz1, hz2⟩ := info_parts Try.infoI
  refine wpList_append_lies _ hgd s x _ ho base _ i0 _ 1 8 Try.underlying23 hi hz0 hz1 hz2 rfl (by decide) v _ _ hs hown ⟨g, 0, none⟩ 1 1 [.int .i64 e] hx rfl (World.news_of_block (cs := #[.int .i64 e]) (t := 3) (fr := (0, 0)) hg) (by simp [Value.oneCell']) (by decide) (by unfold maxLen; omega) (by omega) hb w.heap.size rfl ?_
  intro g' cap w2 ho2 hg2 hl _
  refine h _ w2 ?_ hg2 ⟨g', rfl, hl⟩
  rw [List.length_append, List.map_append]
  exact ho2
/-- two rows of numbers of one's own, apart -/
structure OT (w wr : World) (vo : Value) (out : List Int) (vt : Value) (tk : List Int) : Prop where
  o : wr.ownsRow w.heap.size 3 1 vo out.length (out.map (Value.int .i64))
  t : wr.ownsRow w.heap.size 3 1 vt tk.length (tk.map (Value.int .i64))
  ne : ∀ g, vo.ownBlock = some g → vt.ownBlock ≠ some g
  bel : Below w.heap.size w wr
theorem OT.swap {w wr : World} {vo vt : Value} {out tk : List Int} (h : OT w wr vo out vt tk) : OT w wr vt tk vo out := ⟨h.t, h.o, fun g e q => h.ne g q e, h.bel⟩
theorem OT.start (w : World) : OT w w (.slice none 0 0) [] (.slice none 0 0) [] := ⟨World.ownsRow_nil _ _ _ _, World.ownsRow_nil _ _ _ _, (fun _ h => by cases h), Below.refl _ _⟩
theorem OT.below {w wr w2 : World} {vo vt : Value} {out tk : List Int} (h : OT w wr vo out vt tk) (hb : Below wr.heap.size wr w2) : OT w w2 vo out vt tk := ⟨owns_below h.o hb, owns_below h.t hb, h.ne, below_next h.bel hb⟩
theorem OT.appO {w wr w2 : World} {vo vt vo' : Value} {out tk : List Int} {e : Int} {ob : Obj} (h : OT w wr vo out vt tk) (h1 : w2.ownsRow w.heap.size 3 1 vo' (out ++ [e]).length ((out ++ [e]).map (Value.int .i64)))
    (h2 : (wr.alloc ob).grownBy w2 vo.ownBlock) (h3 : ∃ g, vo'.ownBlock = some g ∧ (vo.ownBlock = some g ∨ g = (wr.alloc ob).heap.size)) : OT w w2 vo' (out ++ [e]) vt tk := by
  have hlt := fun k q => (h.t.lt k q).2
  refine ⟨h1, (h.t.alloc ob).kept h2 ?_, fun g hg hv => ?_, (h.bel.alloc h.bel.size _).grown h2 (by have := h.bel.size; simp; omega) (fun g hg => (h.o.lt g hg).1)⟩
  · cases hv : vt.ownBlock with
    | none => exact .inl rfl
    | some k => exact .inr fun e => h.ne k e.symm hv
  · obtain ⟨g', e1, e2⟩ := h3
    rw [hg] at e1
    obtain rfl : g = g' := by simpa using e1
    rcases e2 with q | q
    · exact h.ne g q hv
    · have h5 := hlt g hv
      have h6 : (wr.alloc ob).heap.size = wr.heap.size + 1 := by simp
      omega
theorem OT.appT {w wr w2 : World} {vo vt vt' : Value} {out tk : List Int} {e : Int} {ob : Obj} (h : OT w wr vo out vt tk) (h1 : w2.ownsRow w.heap.size 3 1 vt' (tk ++ [e]).length ((tk ++ [e]).map (Value.int .i64)))
    (h2 : (wr.alloc ob).grownBy w2 vt.ownBlock) (h3 : ∃ g, vt'.ownBlock = some g ∧ (vt.ownBlock = some g ∨ g = (wr.alloc ob).heap.size)) : OT w w2 vo out vt' (tk ++ [e]) := (h.swap.appO h1 h2 h3).swap
theorem OT.setO {w wr : World} {g n cap : Nat} {vt : Value} {out tk : List Int} (h : OT w wr (.slice (some ⟨g, 0, none⟩) n cap) out vt tk) (hn : out.length = n) (j : Nat) (c : Int) : OT w (wr.setCell ⟨g, j, none⟩ (.int .i64 c)) (.slice (some ⟨g, 0, none⟩) n cap) (out.set j c) vt tk := by
  have h0 := h.o
  rw [hn] at h0
  obtain ⟨s1, s2⟩ := h0.stored j (.int .i64 c)
  refine ⟨?_, h.t.kept s2 ?_, h.ne, h.bel.setCell (by show w.heap.size ≤ g; exact (h.o.lt g rfl).1) _⟩
  · rw [List.length_set, hn, List.map_set]; exact s1
  · cases hv : vt.ownBlock with
    | none => exact .inl rfl
    | some k => exact .inr fun e => h.ne k e.symm hv
/-- what is owned, as a row that may be written -/
theorem own_some {w : World} {base n cap : Nat} {a : Option Addr} {xs : List Int} (h : w.ownsRow base 3 1 (.slice a n cap) xs.length (xs.map (Value.int .i64))) {i : Nat} {x : Int} (hx : xs[i]? = some x) :
    ∃ g, a = some ⟨g, 0, none⟩ ∧ w.cell? ⟨g, i, none⟩ = some (.int .i64 x) ∧ (∀ j, w.frozen? ⟨g, j, none⟩ = false) ∧ xs.length ≤ cap := by
  have hi := lt_of_get hx
  rcases h.2 with ⟨h', hn⟩ | ⟨g, cap', cur, h', hb, hg, h1, h2, h3, h4⟩
  · omega
  · simp only [Value.slice.injEq] at h'
    obtain ⟨rfl, _, rfl⟩ := h'
    refine ⟨g, rfl, ?_, fun j => frozen_of_row w g j cur 3 hg, h1⟩
    have hc := h.cells (g := g) rfl i (.int .i64 x) (by rw [List.getElem?_map, hx]; rfl)
    rw [addr_plain, Nat.zero_add] at hc
    exact hc
theorem set_same {xs : List Int} {i : Nat} {x : Int} (h : xs[i]? = some x) : xs.set i x = xs := by
  have hi := lt_of_get h
  rw [List.getElem?_eq_getElem hi] at h
  have : xs[i] = x := by simpa using h
  rw [← this]
  exact List.set_getElem_self hi
theorem r15in_own {w : World} {base : Nat} {v : Value} {tk : List Int} (h : w.ownsRow base 3 1 v tk.length (tk.map (Value.int .i64))) (c : Int) :
    Calls Try.prog 25 #[v, .int .i64 c] w fun e w' => e = .returned (.bool (inB tk c)) ∧ w = w' := by
  obtain ⟨a, cap, rfl, hr, _⟩ := row_of_owns h
  exact r15in_any a tk.length cap tk c w hr
theorem alloc_set_new (w : World) (p : Addr) (v : Value) (o : Obj) : ((w.setCell p v).alloc o).heap[w.heap.size]? = some o := by
  have h := heap_alloc_new (w.setCell p v) o
  have e : (w.setCell p v).heap.size = w.heap.size := by simp
  rw [e] at h
  exact h
/-- where the search for a free core stands -/
def Seek (m : Nat) (out0 tv0 : List Int) (i : Nat) (o : Int) (c : Nat) (out tv : List Int) : Prop :=
  (out = out0 ∧ tv = tv0 ∧ ∀ d : Nat, d < c → (d : Int) ∈ tv0) ∨ ∃ f : Nat, out = out0.set i f ∧ tv = tv0 ++ [(f : Int)] ∧ freeR tv0 m 0 = f ∧ o < 0
noncomputable def AsgG (w : World) (l : List Rn) (m : Int) (e : Ending) (w' : World) : Prop :=
  ∃ a len cap, e = .returned (.tuple #[.slice a len cap, .int .i64 (asgE l m)]) ∧ Row .i64 w' a len cap (asgL l m) ∧ Below w.heap.size w w'
theorem pins_take {l : List Rn} {i : Nat} {r : Rn} (h : l[i]? = some r) : pinsR (l.take (i + 1)) = pinsR (l.take i) ++ if 0 ≤ r.pin then [r.pin] else [] := by
  rw [take_snocR h, pins_append, pins_one]
theorem map_take {l : List Rn} {i : Nat} {r : Rn} (h : l[i]? = some r) : (l.take (i + 1)).map Rn.pin = (l.take i).map Rn.pin ++ [r.pin] := by
  rw [take_snocR h, List.map_append]; rfl
theorem pins_le (l : List Rn) (i : Nat) : (pinsR (l.take i)).length ≤ i := by
  unfold pinsR
  have h1 := List.length_filter_le (fun p : Int => decide (0 ≤ p)) ((l.take i).map Rn.pin)
  rw [List.length_map, List.length_take] at h1
  omega
theorem keep_grow : ∀ (x : List Rn) (tk : List Int), (keepR x tk).2.length ≤ tk.length + x.length
  | [], tk => by simp [keepR]
  | y :: x, tk => by
    rw [keepR]
    split
    · have := keep_grow x (tk ++ [y.last])
      rw [List.length_append] at this
      simp only [List.length_cons, List.length_nil] at this ⊢
      omega
    · have := keep_grow x tk
      simp only [List.length_cons] at this ⊢
      omega
theorem tkK_len (l : List Rn) (i : Nat) : (tkK l i).length ≤ 2 * l.length := by
  have h1 := keep_grow (l.take i) (pinsR l)
  have h2 := pins_le l l.length
  rw [List.take_length] at h2
  rw [List.length_take] at h1
  unfold tkK
  omega
theorem restT_grow (m : Nat) : ∀ (os tk : List Int), (restT m os tk).length ≤ tk.length + os.length
  | [], tk => by simp [restT]
  | o :: os, tk => by
    rw [restT]
    split
    · have := restT_grow m os (tk ++ [freeR tk m 0])
      rw [List.length_append] at this
      simp only [List.length_cons, List.length_nil] at this ⊢
      omega
    · have := restT_grow m os tk
      simp only [List.length_cons]
      omega
end Go.Proofs.Ytokmkfoofgiddaa
