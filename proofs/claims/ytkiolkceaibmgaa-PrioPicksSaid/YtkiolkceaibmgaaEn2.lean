/-
  Entries in memory; what the document's own Less (regattaref06) gives back: contract.
-/
import Derived.Test.YtkiolkceaibmgaaFr
import Derived.Test.YtkiolkceaibmgaaEn1
import Derived.Test.YtkiolkceaibmgaaWin3
namespace Go.Proofs.Ytkiolkceaibmgaa
open Go.RowKit

theorem ret_b {x y : Bool} (h : x = y) : Ending.returned (.bool x) = .returned (.bool y) := by rw [h]
/-- an entry's six cells -/
def Ent.cs (e : Ent) : List Value := [.int .i64 e.id, .int .i64 e.idx, .int .i64 e.rel, .int .i64 e.dl, .int .i64 e.bit, .int .i64 e.grp]
/-- the entry that lies there -/
structure EntAt (W : World) (b o : Nat) (e : Ent) : Prop where
  c0 : W.cell? ⟨b, o, none⟩ = some (.int .i64 e.id)
  c1 : W.cell? ⟨b, o + 1, none⟩ = some (.int .i64 e.idx)
  c2 : W.cell? ⟨b, o + 2, none⟩ = some (.int .i64 e.rel)
  c3 : W.cell? ⟨b, o + 3, none⟩ = some (.int .i64 e.dl)
  c4 : W.cell? ⟨b, o + 4, none⟩ = some (.int .i64 e.bit)
  c5 : W.cell? ⟨b, o + 5, none⟩ = some (.int .i64 e.grp)
theorem EntAt.lt {W : World} {b o : Nat} {e : Ent} (h : EntAt W b o e) : b < W.heap.size := World.block_lt_of_cell? _ _ h.c0
theorem EntAt.drew {W : World} {b o : Nat} {e : Ent} (h : EntAt W b o e) : EntAt W.drew b o e := ⟨h.c0, h.c1, h.c2, h.c3, h.c4, h.c5⟩
theorem EntAt.below {W W' : World} {b o : Nat} {e : Ent} (h : EntAt W b o e) (hb : Below W.heap.size W W') : EntAt W' b o e :=
  ⟨(hb.cell h.lt).trans h.c0, (hb.cell h.lt).trans h.c1, (hb.cell h.lt).trans h.c2, (hb.cell h.lt).trans h.c3, (hb.cell h.lt).trans h.c4, (hb.cell h.lt).trans h.c5⟩
/-- the slice that leads to 'a' reads as these entries -/
def RowE (W : World) (a : Option Addr) (len cap : Nat) (es : List Ent) : Prop := RowF W a len cap 6 (es.map Ent.cs)
theorem wideE (es : List Ent) : Wide 6 (es.map Ent.cs) := fun r hr => by
  rw [List.mem_map] at hr
  obtain ⟨e, _, rfl⟩ := hr
  rfl
theorem oneE (es : List Ent) : ∀ r ∈ es.map Ent.cs, ∀ u ∈ r, u.oneCell' = true := fun r hr u hu => by
  rw [List.mem_map] at hr
  obtain ⟨e, _, rfl⟩ := hr
  unfold Ent.cs at hu
  simp at hu
  rcases hu with rfl | rfl | rfl | rfl | rfl | rfl <;> rfl
theorem RowE.len {W : World} {a : Option Addr} {len cap : Nat} {es : List Ent} (h : RowE W a len cap es) : es.length = len := by have := h.1; rwa [List.length_map] at this
theorem RowE.cap_le {W : World} {a : Option Addr} {len cap : Nat} {es : List Ent} (h : RowE W a len cap es) : len ≤ cap ∧ cap ≤ 9223372036854775807 := RowF.cap_le h
theorem RowE.below {W W' : World} {a : Option Addr} {len cap : Nat} {es : List Ent} (h : RowE W a len cap es) (hb : Below W.heap.size W W') : RowE W' a len cap es := RowF.below (wideE es) h hb
theorem RowE.drew {W : World} {a : Option Addr} {len cap : Nat} {es : List Ent} (h : RowE W a len cap es) : RowE W.drew a len cap es := h
theorem RowE.nil {W : World} : RowE W none 0 0 [] := RowF.nil
theorem RowE.take {W : World} {a : Option Addr} {len cap m : Nat} {es : List Ent} (h : RowE W a len cap es) (hm : m ≤ len) : RowE W a m cap (es.take m) := by
  unfold RowE; rw [List.map_take]; exact RowF.take h hm
theorem RowE.same {W W' : World} {a : Option Addr} {len cap : Nat} {es : List Ent} (h : RowE W a len cap es) (hb : ∀ ad : Addr, a = some ad → W'.heap[ad.block]? = W.heap[ad.block]?) : RowE W' a len cap es := RowF.same h hb
theorem getE {es : List Ent} {i : Nat} (hi : i < es.length) : ∃ e, es[i]? = some e ∧ es.getD i e0 = e ∧ es = es.take i ++ e :: es.drop (i + 1) :=
  ⟨es[i], List.getElem?_eq_getElem hi, by rw [List.getD_eq_getElem?_getD, List.getElem?_eq_getElem hi]; rfl, by
    conv => lhs; rw [← List.take_append_drop i es]
    rw [List.drop_eq_getElem_cons hi]⟩
theorem RowE.at {W : World} {a : Option Addr} {len cap : Nat} {es : List Ent} (h : RowE W a len cap es) {i : Nat} {e : Ent} (he : es[i]? = some e) : ∃ b off, a = some ⟨b, off, none⟩ ∧ EntAt W b (off + i * 6) e := by
  have hi : i < len := by
    rw [← h.len]
    rcases Nat.lt_or_ge i es.length with g | g
    · exact g
    · rw [List.getElem?_eq_none g] at he; cases he
  obtain ⟨b, off, ha, hc⟩ := h.2.2.2.2 i hi
  have hg : (es.map Ent.cs).getD i [] = e.cs := by rw [List.getD_eq_getElem?_getD, List.getElem?_map, he]; rfl
  rw [hg] at hc
  exact ⟨b, off, ha, hc 0 (by omega), hc 1 (by omega), hc 2 (by omega), hc 3 (by omega), hc 4 (by omega), hc 5 (by omega)⟩
theorem rowE_of_owns {W : World} {base : Nat} {e : TypeId} {v : Value} {n : Nat} {es : List Ent} (h : W.ownsRow base e 6 v n (es.map Ent.cs).flatten) (hn : es.length = n) :
    ∃ a cap, v = .slice a n cap ∧ RowE W a n cap es ∧ Fresh base a := rowF_of_owns (wideE es) h (by rw [List.length_map]; exact hn)
def GivesE (w : World) (es : List Ent) (e : Ending) (w' : World) : Prop := ∃ a len cap, e = .returned (.slice a len cap) ∧ RowE w' a len cap es ∧ Below w.heap.size w w' ∧ Fresh w.heap.size a
theorem Try.infoE : (Try.prog.info? 27).map (fun i => (i.zero, i.size, i.bytes)) = some (some (.agg #[.int .i64 0, .int .i64 0, .int .i64 0, .int .i64 0, .int .i64 0, .int .i64 0]), 6, 48) := by kernel_rfl
/-- what entries that were handed over are -/
theorem ents_of_flat {w : World} {a : Option Addr} {len cap : Nat} {rs : List (List Value)} (h : RowF w a len cap 6 rs) (g : ∀ r ∈ rs, Fit [.int .i64, .int .i64, .int .i64, .int .i64, .int .i64, .int .i64] r) : ∃ es, RowE w a len cap es := by
  have : ∃ es : List Ent, rs = es.map Ent.cs := by
    clear h
    induction rs with
    | nil => exact ⟨[], rfl⟩
    | cons r rs ih =>
      obtain ⟨es, he⟩ := ih (fun r' hr => g r' (List.mem_cons_of_mem _ hr))
      have gr := g r (List.mem_cons_self ..)
      obtain ⟨z0, q0, rfl, _, gr⟩ := gr.int
      obtain ⟨z1, q1, rfl, _, gr⟩ := gr.int
      obtain ⟨z2, q2, rfl, _, gr⟩ := gr.int
      obtain ⟨z3, q3, rfl, _, gr⟩ := gr.int
      obtain ⟨z4, q4, rfl, _, gr⟩ := gr.int
      obtain ⟨z5, q5, rfl, _, gr⟩ := gr.int
      have := gr.nil
      subst this
      exact ⟨⟨z0, z1, z2, z3, z4, z5⟩ :: es, by rw [he]; rfl⟩
  obtain ⟨es, rfl⟩ := this
  exact ⟨es, h⟩

set_option maxHeartbeats 1000000 in
theorem r6less_any (a b : Ent) (w : World) : Calls Try.prog 19 #[.agg #[.int .i64 a.id, .int .i64 a.idx, .int .i64 a.rel, .int .i64 a.dl, .int .i64 a.bit, .int .i64 a.grp], .agg #[.int .i64 b.id, .int .i64 b.idx, .int .i64 b.rel, .int .i64 b.dl, .int .i64 b.bit, .int .i64 b.grp]] w fun e w' => e = .returned (.bool (lessB a b)) ∧ Below w.heap.size w w' := by
  have B2 := Lib.hid (below_next (wbox w (Obj.cells #[.int .i64 a.id, .int .i64 a.idx, .int .i64 a.rel, .int .i64 a.dl, .int .i64 a.bit, .int .i64 a.grp] 27)) (wbox _ (Obj.cells #[.int .i64 b.id, .int .i64 b.idx, .int .i64 b.rel, .int .i64 b.dl, .int .i64 b.bit, .int .i64 b.grp] 27)))
  by_cases h1 : a.dl = b.dl
  · have t1 : (a.dl != b.dl) = false := by simp [h1]
    by_cases h2 : a.bit = 1
    · have t2 : (a.bit == 1) = true := by simp [h2]
      by_cases h3 : b.bit = 1
      · have t3 : (b.bit == 1) = true := by simp [h3]
        by_cases h4 : a.grp = b.grp
        · have t4 : (a.grp != b.grp) = false := by simp [h4]
          have V := Lib.hid (show decide (a.id < b.id) = lessB a b by unfold lessB Ahead k1 k2; simp [h1, h2, h3, h4])
          clear h1 h2 h3 h4
          go_enter Try.func19, Try.ntmps19
          go_wp2
          go_ret
          exact ⟨ret_b V.out, B2.out⟩
        · have t4 : (a.grp != b.grp) = true := by simp [h4]
          have V := Lib.hid (show decide (b.grp < a.grp) = lessB a b by unfold lessB Ahead k1 k2; simp only [h1, h2, h3, if_pos]; simp; omega)
          clear h1 h2 h3 h4
          go_enter Try.func19, Try.ntmps19
          go_wp2
          go_ret
          exact ⟨ret_b V.out, B2.out⟩
      · have t3 : (b.bit == 1) = false := by simp [h3]
        have V := Lib.hid (show true = lessB a b by unfold lessB Ahead k1 k2; simp [h1, h2, h3])
        clear h1 h2 h3
        go_enter Try.func19, Try.ntmps19
        go_wp2
        go_ret
        exact ⟨ret_b V.out, B2.out⟩
    · have t2 : (a.bit == 1) = false := by simp [h2]
      by_cases h3 : b.bit = 1
      · have t3 : (b.bit == 1) = true := by simp [h3]
        have V := Lib.hid (show false = lessB a b by unfold lessB Ahead k1 k2; simp [h1, h2, h3])
        clear h1 h2 h3
        go_enter Try.func19, Try.ntmps19
        go_wp2
        go_ret
        exact ⟨ret_b V.out, B2.out⟩
      · have t3 : (b.bit == 1) = false := by simp [h3]
        have V := Lib.hid (show decide (a.id < b.id) = lessB a b by unfold lessB Ahead k1 k2; simp [h1, h2, h3])
        clear h1 h2 h3
        go_enter Try.func19, Try.ntmps19
        go_wp2
        go_ret
        exact ⟨ret_b V.out, B2.out⟩
  · have t1 : (a.dl != b.dl) = true := by simp [h1]
    have V := Lib.hid (show decide (a.dl < b.dl) = lessB a b by unfold lessB Ahead; simp [h1])
    clear h1
    go_enter Try.func19, Try.ntmps19
    go_wp2
    go_ret
    exact ⟨ret_b V.out, B2.out⟩
end Go.Proofs.Ytkiolkceaibmgaa
