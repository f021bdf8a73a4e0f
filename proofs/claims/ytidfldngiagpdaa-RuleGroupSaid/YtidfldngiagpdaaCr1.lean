/-
  Events in memory; the document's own calendar (regattaref08): before, Find: contracts.
-/
import Derived.Test.YtidfldngiagpdaaHe0
namespace Go.Proofs.Ytidfldngiagpdaa
open Go.RowKit

theorem ret_b {x y : Bool} (h : x = y) : Ending.returned (.bool x) = .returned (.bool y) := by rw [h]
def Ev.cs (e : Ev) : List Value := [.int .i64 e.d, .int .i64 e.i, .int .i64 e.k]
structure EvAt (W : World) (b o : Nat) (e : Ev) : Prop where
  c0 : W.cell? ⟨b, o, none⟩ = some (.int .i64 e.d)
  c1 : W.cell? ⟨b, o + 1, none⟩ = some (.int .i64 e.i)
  c2 : W.cell? ⟨b, o + 2, none⟩ = some (.int .i64 e.k)
theorem EvAt.lt {W : World} {b o : Nat} {e : Ev} (h : EvAt W b o e) : b < W.heap.size := World.block_lt_of_cell? _ _ h.c0
theorem EvAt.below {W W' : World} {b o : Nat} {e : Ev} (h : EvAt W b o e) (hb : Below W.heap.size W W') : EvAt W' b o e :=
  ⟨(hb.cell h.lt).trans h.c0, (hb.cell h.lt).trans h.c1, (hb.cell h.lt).trans h.c2⟩
/-- the slice that leads to 'a' reads as these events -/
def RowV (W : World) (a : Option Addr) (len cap : Nat) (es : List Ev) : Prop := RowF W a len cap 3 (es.map Ev.cs)
theorem wideV (es : List Ev) : Wide 3 (es.map Ev.cs) := fun r hr => by
  rw [List.mem_map] at hr
  obtain ⟨e, _, rfl⟩ := hr
  rfl
theorem oneV (es : List Ev) : ∀ r ∈ es.map Ev.cs, ∀ u ∈ r, u.oneCell' = true := fun r hr u hu => by
  rw [List.mem_map] at hr
  obtain ⟨e, _, rfl⟩ := hr
  unfold Ev.cs at hu
  simp at hu
  rcases hu with rfl | rfl | rfl <;> rfl
theorem RowV.len {W : World} {a : Option Addr} {len cap : Nat} {es : List Ev} (h : RowV W a len cap es) : es.length = len := by have := h.1; rwa [List.length_map] at this
theorem RowV.cap_le {W : World} {a : Option Addr} {len cap : Nat} {es : List Ev} (h : RowV W a len cap es) : len ≤ cap ∧ cap ≤ 9223372036854775807 := RowF.cap_le h
theorem RowV.below {W W' : World} {a : Option Addr} {len cap : Nat} {es : List Ev} (h : RowV W a len cap es) (hb : Below W.heap.size W W') : RowV W' a len cap es := RowF.below (wideV es) h hb
theorem RowV.nil {W : World} : RowV W none 0 0 [] := RowF.nil
theorem RowV.take {W : World} {a : Option Addr} {len cap m : Nat} {es : List Ev} (h : RowV W a len cap es) (hm : m ≤ len) : RowV W a m cap (es.take m) := by
  unfold RowV; rw [List.map_take]; exact RowF.take h hm
/-- what is left of a row behind its first m -/
theorem RowF.dropped {W : World} {b off len cap c m : Nat} {rs : List (List Value)} (h : RowF W (some ⟨b, off, none⟩) len cap c rs) (hm : m ≤ len) : RowF W (some ⟨b, off + m * c, none⟩) (len - m) (cap - m) c (rs.drop m) := by
  have hc := h.cap_le
  refine ⟨by rw [List.length_drop, h.1], by omega, by omega, (fun e => by cases e), fun i hi => ?_⟩
  obtain ⟨b', off', ha, hcell⟩ := h.2.2.2.2 (m + i) (by omega)
  simp only [Option.some.injEq, Addr.mk.injEq, and_true] at ha
  obtain ⟨rfl, rfl⟩ := ha
  refine ⟨_, _, rfl, fun j hj => ?_⟩
  have := hcell j hj
  rw [List.getD_eq_getElem?_getD, List.getElem?_drop, ← List.getD_eq_getElem?_getD]
  rw [← this, Nat.add_mul, Nat.add_assoc off (m * c)]
theorem getV {es : List Ev} {i : Nat} (hi : i < es.length) : ∃ e, es[i]? = some e := ⟨es[i], List.getElem?_eq_getElem hi⟩
theorem RowV.at {W : World} {a : Option Addr} {len cap : Nat} {es : List Ev} (h : RowV W a len cap es) {i : Nat} {e : Ev} (he : es[i]? = some e) : ∃ b off, a = some ⟨b, off, none⟩ ∧ EvAt W b (off + i * 3) e := by
  have hi : i < len := by
    rw [← h.len]
    rcases Nat.lt_or_ge i es.length with g | g
    · exact g
    · rw [List.getElem?_eq_none g] at he; cases he
  obtain ⟨b, off, ha, hc⟩ := h.2.2.2.2 i hi
  have hg : (es.map Ev.cs).getD i [] = e.cs := by rw [List.getD_eq_getElem?_getD, List.getElem?_map, he]; rfl
  rw [hg] at hc
  exact ⟨b, off, ha, hc 0 (by omega), hc 1 (by omega), hc 2 (by omega)⟩
theorem rowV_of_owns {W : World} {base : Nat} {e : TypeId} {v : Value} {n : Nat} {es : List Ev} (h : W.ownsRow base e 3 v n (es.map Ev.cs).flatten) (hn : es.length = n) :
    ∃ a cap, v = .slice a n cap ∧ RowV W a n cap es ∧ Fresh base a := rowF_of_owns (wideV es) h (by rw [List.length_map]; exact hn)
def GivesV (w : World) (es : List Ev) (e : Ending) (w' : World) : Prop := ∃ a len cap, e = .returned (.slice a len cap) ∧ RowV w' a len cap es ∧ Below w.heap.size w w' ∧ Fresh w.heap.size a
theorem Try.infoV : (Try.prog.info? 43).map (fun i => (i.zero, i.size, i.bytes)) = some (some (.agg #[.int .i64 0, .int .i64 0, .int .i64 0]), 3, 24) := by kernel_rfl
/-- append of one event to what is owned -/
theorem app_event {w : World} {ops : Array Oper} {rest : List Oper} {o : Oper} {act : Act} {Q : Exit → Act → World → Prop} (hgd : o.guard = none) (s x : Operand)
    (ho : o.op = .call { callee := .builtin .append, args := #[s, x], argTypes := #[41, 41] }) (base : Nat)
    (v : Value) (ns : List Ev) (hs : act.eval s = v) (hown : w.ownsRow base 43 3 v ns.length (ns.map Ev.cs).flatten) (g : Nat) (e : Ev) (hx : act.eval x = .slice (some ⟨g, 0, none⟩) 1 1)
    (hg : w.heap[g]? = some (.cells #[.int .i64 e.d, .int .i64 e.i, .int .i64 e.k] 43 (0, 0))) (hb : base ≤ w.heap.size) (hsm : ns.length ≤ 100000)
    (h : ∀ v' w', w'.ownsRow base 43 3 v' (ns ++ [e]).length ((ns ++ [e]).map Ev.cs).flatten → w.grownBy w' v.ownBlock → wpList Try.prog ops Q rest (act.put o.dst v') w') : wpList Try.prog ops Q (o :: rest) act w := by
  obtain ⟨i0, hi, hz0, hz1, hz2⟩ := info_parts Try.infoV
  refine wpList_append_own _ hgd s x _ ho base _ i0 _ 3 24 Try.underlying41 hi hz0 hz1 hz2 rfl (by decide) v _ _ hs hown ⟨g, 0, none⟩ 1 1 e.cs hx rfl (World.news_of_block (cs := #[.int .i64 e.d, .int .i64 e.i, .int .i64 e.k]) (t := 43) (fr := (0, 0)) hg) (by simp [Ev.cs, Value.oneCell']) (by unfold maxLen; omega) (by omega) hb ?_
  intro v2 w2 ho2 hg2 _
  refine h v2 w2 ?_ hg2
  rw [List.length_append, List.map_append, List.flatten_append]
  simpa using ho2

/-! ### before -/
/-- one event comes ahead of another one -/
def befB (a b : Ev) : Bool := decide (a.d < b.d ∨ (a.d = b.d ∧ (a.k < b.k ∨ (a.k = b.k ∧ a.i < b.i))))
/-! ### Find -/
def isE (id kind : Int) (e : Ev) : Bool := decide (e.i = id ∧ e.k = kind)
def placeV (es : List Ev) (id kind : Int) : Int := match es.findIdx? (isE id kind) with | some i => (i : Int) | none => -1
theorem placeV_none {es : List Ev} {id kind : Int} (h : ∀ t ∈ es, isE id kind t = false) : placeV es id kind = -1 := by
  unfold placeV
  rw [List.findIdx?_eq_none_iff.mpr h]
theorem placeV_found {es : List Ev} {id kind : Int} {i : Nat} {t : Ev} (ht : es[i]? = some t) (q : isE id kind t = true) (h : ∀ s ∈ es.take i, isE id kind s = false) : placeV es id kind = (i : Int) := by
  have hi : i < es.length := by
    rcases Nat.lt_or_ge i es.length with g | g
    · exact g
    · rw [List.getElem?_eq_none g] at ht; cases ht
  unfold placeV
  have : es.findIdx? (isE id kind) = some i := by
    rw [List.findIdx?_eq_some_iff_getElem]
    refine ⟨hi, ?_, fun j hj => ?_⟩
    · rw [List.getElem?_eq_getElem hi] at ht
      simp at ht
      rw [ht]; exact q
    · have := h es[j] (List.mem_take_iff_getElem.mpr ⟨j, by omega, rfl⟩)
      simp [this]
  rw [this]
theorem placeV_bound (es : List Ev) (id kind : Int) : placeV es id kind < (es.length : Int) ∧ -1 ≤ placeV es id kind := by
  unfold placeV
  split
  · rename_i i h
    rw [List.findIdx?_eq_some_iff_getElem] at h
    obtain ⟨hi, _⟩ := h
    omega
  · omega
end Go.Proofs.Ytidfldngiagpdaa
