/-
  The document's own heap (regattaref07): Pop: contract.
-/
import Derived.Test.YtimafmalfmeehaaHr3
namespace Go.Proofs.Ytimafmalfmeehaa
open Go.RowKit

theorem Moves.setNew {F F' : Nat → Prop} {a b : World} (h : Moves F F' a b) {g : Nat} (hg : a.heap.size ≤ g) (j : Nat) (v : Value) : Moves F F' a (b.setCell ⟨g, j, none⟩ v) :=
  ⟨h.keeps.set (.inr hg) j v, h.grow, fun k q => by have := h.lt k q; simpa using this⟩
theorem RH.setOther {W : World} {g : Nat} {F : Nat → Prop} {ts : List Th} (h : RH W g F ts) {x : Nat} (hx : ¬ F x) (j : Nat) (v : Value) : RH (W.setCell ⟨x, j, none⟩ v) g F ts :=
  h.keeps (G := fun k => k = x) ((Keeps.refl (fun k => k = x) W).set (g := x) (.inl rfl) j v) (fun _ q e => hx (e ▸ q))
set_option maxHeartbeats 2000000 in
theorem r7pop_any (g : Nat) (F : Nat → Prop) (ts : List Th) (w : World) (h : RH w g F ts) (hl : ts.length ≤ 1000) :
    Calls Try.prog 12 #[.pointer (some ⟨g, 0, none⟩)] w
      fun e w' => (ts = [] ∧ e = .returned (.tuple #[.agg #[.int .i64 0, .int .i64 0], .bool false]) ∧ Below w.heap.size w w') ∨
        (∃ (k : Nat) (t : Th), ts[k]? = some t ∧ MinIn ts ts.length k ∧ e = .returned (.tuple #[.agg #[.int .i64 t.id, .int .i64 t.x], .bool true]) ∧ ∃ F', RH w' g F' (ts.eraseIdx k) ∧ Moves F F' w w') := by
  have H := Lib.hid (h.below (wbox w (Obj.cells #[.int .i64 0, .int .i64 0] 36)))
  have LF := Lib.hid h.lies
  have Z := Lib.hid (Blk.new w 36 #[.int .i64 0, .int .i64 0])
  clear h
  go_enter Try.func12, Try.ntmps12
  go_wp2_with fail
  refine (r7min_any g F ts _ H.out hl).mono ?_
  rintro e w1 ⟨hk, hb⟩
  have B := Lib.hid (below_next (wbox w (Obj.cells #[.int .i64 0, .int .i64 0] 36)) hb)
  have Z := Lib.hid (Z.out.below hb)
  have H := Lib.hid (H.out.below hb)
  clear hb
  rcases hk with ⟨hE, rfl⟩ | ⟨k, hmin, rfl⟩
  · have HE := Lib.hid hE
    clear hE
    have s0 := Z.out.cell 0; have s1 := Z.out.cell 1
    have f0 := Z.out.free 0; have f1 := Z.out.free 1
    simp at s0 s1
    go_wp2
    exact bodyPost_ret (v := .tuple #[.agg #[.int .i64 0, .int .i64 0], .bool false]) (by simp [results, Try.results12, go_sem, s0, s1]) rfl (.inl ⟨HE.out, rfl, (B.out.setCell (Nat.le_refl _) _).setCell (Nat.le_refl _) _⟩)
  · obtain ⟨t, ht, hall⟩ := hmin
    have MN := Lib.hid (show MinIn ts ts.length k from ⟨t, ht, hall⟩)
    have HT := Lib.hid ht
    have kl : k < ts.length := by
      rcases Nat.lt_or_ge k ts.length with q | q
      · exact q
      · rw [List.getElem?_eq_none q] at ht; cases ht
    have H2 := Lib.hid H.out
    obtain ⟨v, hb, ho, hF, hne⟩ := H.out
    obtain ⟨a, cap, rfl, hr, _⟩ := rowT_of_owns ho rfl
    obtain ⟨bl, ol, rfl, hat⟩ := hr.at ht
    have x0 := hat.c0; have x1 := hat.c1
    have c0 := hb.cell 0
    simp at c0
    obtain ⟨len, hlen⟩ : ∃ len, ts.length = len := ⟨_, rfl⟩
    rw [hlen] at c0 kl hl
    have LN := Lib.hid hlen
    have k1 : (k : Int) < (len : Int) := by omega
    have k2 : 0 ≤ (k : Int) := by omega
    have t1 : decide ((k : Int) < 0) = false := decide_eq_false (by omega)
    clear hb ho hF hne hr hat ht hall hlen H
    have BX := Lib.hid (Blk.new w1 36 #[.int .i64 t.id, .int .i64 t.x])
    have H2 := Lib.hid (H2.out.below (wbox w1 (Obj.cells #[.int .i64 t.id, .int .i64 t.x] 36)))
    have Z := Lib.hid (Z.out.alloc (Obj.cells #[.int .i64 t.id, .int .i64 t.x] 36))
    have B := Lib.hid (below_next B.out (wbox w1 (Obj.cells #[.int .i64 t.id, .int .i64 t.x] 36)))
    have W1 := Lib.hid (show w.heap.size < w1.heap.size + 1 by have := Z.out.lt; simpa using this)
    go_wp2_with fail
    refine (r7take_any g F ts k _ H2.out (by rw [LN.out]; omega)).mono ?_
    rintro e w3 ⟨⟨u, rfl⟩, F', hr, hm⟩
    have NF : ∀ x, w.heap.size ≤ x → ¬ F x := fun x hx q => by have := LF.out x q; omega
    have BX := Lib.hid (BX.out.keeps hm.keeps (NF _ (by have := B.out.size; have := W1.out; omega)))
    have Z := Lib.hid (Z.out.keeps hm.keeps (NF _ (Nat.le_refl _)))
    have NF' := Lib.hid (show ¬ F' w.heap.size from fun q => by
      rcases hm.grow _ q with y | y
      · exact NF _ (Nat.le_refl _) y
      · have := W1.out; simp at y; omega)
    have RR := Lib.hid ((hr.setOther NF'.out 0 (.int .i64 t.id)).setOther NF'.out 1 (.int .i64 t.x))
    have MM := Lib.hid ((((Moves.of B.out LF.out).trans hm).setNew (Nat.le_refl _) 0 (.int .i64 t.id)).setNew (Nat.le_refl _) 1 (.int .i64 t.x))
    have s0 := Z.out.cell 0; have s1 := Z.out.cell 1
    have f0 := Z.out.free 0; have f1 := Z.out.free 1
    have y0 := BX.out.cell 0; have y1 := BX.out.cell 1
    simp at s0 s1 y0 y1
    clear hr hm NF
    go_wp2
    exact bodyPost_ret (v := .tuple #[.agg #[.int .i64 t.id, .int .i64 t.x], .bool true]) (by simp [results, Try.results12, go_sem, s0, s1]) rfl (.inr ⟨k, t, HT.out, MN.out, rfl, F', RR.out, MM.out⟩)
end Go.Proofs.Ytimafmalfmeehaa
