/-
  Package calendar as landed: Due: contract.
-/
import Derived.Test.YtfeemdljlikpbaaCz4
namespace Go.Proofs.Ytfeemdljlikpbaa
open Go.RowKit Go.Maps

/-- append of one event to what is owned, and where the row lies then -/
theorem app_eventL {w : World} {ops : Array Oper} {rest : List Oper} {o : Oper} {act : Act} {Q : Exit → Act → World → Prop} (hgd : o.guard = none) (s x : Operand)
    (ho : o.op = .call { callee := .builtin .append, args := #[s, x], argTypes := #[27, 27] }) (base : Nat)
    (v : Value) (ns : List Ev) (hs : act.eval s = v) (hown : w.ownsRow base 31 3 v ns.length (ns.map Ev.cs).flatten) (g : Nat) (e : Ev) (hx : act.eval x = .slice (some ⟨g, 0, none⟩) 1 1)
    (hg : w.heap[g]? = some (.cells #[.int .i64 e.d, .int .i64 e.i, .int .i64 e.k] 31 (0, 0))) (hb : base ≤ w.heap.size) (hsm : ns.length ≤ 100000)
    (h : ∀ v' w', w'.ownsRow base 31 3 v' (ns.length + 1) ((ns ++ [e]).map Ev.cs).flatten → w.grownBy w' v.ownBlock → (∃ g cap, v' = .slice (some ⟨g, 0, none⟩) (ns.length + 1) cap ∧ (v.ownBlock = some g ∨ g = w.heap.size)) → wpList Try.prog ops Q rest (act.put o.dst v') w') : wpList Try.prog ops Q (o :: rest) act w := by
  obtain ⟨i0, hi, hz0, hz1, hz2⟩ := info_parts Try.infoV
  refine wpList_append_lies _ hgd s x _ ho base _ i0 _ 3 24 Try.underlying27 hi hz0 hz1 hz2 rfl (by decide) v _ _ hs hown ⟨g, 0, none⟩ 1 1 e.cs hx rfl (World.news_of_block (cs := #[.int .i64 e.d, .int .i64 e.i, .int .i64 e.k]) (t := 31) (fr := (0, 0)) hg) (by simp [Ev.cs, Value.oneCell']) (by decide) (by unfold maxLen; omega) (by omega) hb w.heap.size rfl ?_
  intro g' cap w2 ho2 hg2 hl _
  refine h _ w2 ?_ hg2 ⟨g', cap, rfl, hl⟩
  rw [List.map_append, List.flatten_append]
  simpa using ho2
theorem owns_lenV {W : World} {base n : Nat} {e : TypeId} {v : Value} {xs : List Value} {c : Nat} (h : W.ownsRow base e c v n xs) : lenOf v = n := by
  rcases h.2 with ⟨hv, hn⟩ | ⟨g, cap, cur, hv, _⟩
  · rw [hv]; exact hn.symm
  · rw [hv]; rfl
/-- the first i are taken: they lie in the row v, the rest in the heap within -/
structure DueAt (w : World) (n5 b : Nat) (FH : Nat → Prop) (es : List Ev) (i : Nat) (v : Value) (FH' : Nat → Prop) (wr : World) : Prop where
  box : Blk wr 51 n5 #[.pointer (some ⟨b, 0, none⟩)]
  row : wr.ownsRow w.heap.size 31 3 v i ((es.take i).map Ev.cs).flatten
  heap : Hh8 wr b FH' ((es.drop i).map teV)
  mv : Moves FH FH' w wr
  nb : ¬ FH' n5
  nr : ∀ k, v.ownBlock = some k → ¬ FH' k ∧ k ≠ n5
theorem Moves.keep {F F' G : Nat → Prop} {a b c : World} (h : Moves F F' a b) (k : Keeps G b c) (hG : ∀ x, G x → a.heap.size ≤ x) : Moves F F' a c :=
  ⟨h.keeps.trans k (fun x q => .inr (hG x q)), h.grow, fun x q => Nat.lt_of_lt_of_le (h.lt x q) k.size⟩
theorem at_lt {es : List Ev} {i : Nat} {x : Ev} (h : es[i]? = some x) : i < es.length := by
  rcases Nat.lt_or_ge i es.length with q | q
  · exact q
  · rw [List.getElem?_eq_none q] at h; cases h
/-- one more is taken -/
theorem DueAt.step {w wr w5 w6 w7 w8 : World} {n5 b i g2 cap2 : Nat} {FH FH' FH2 : Nat → Prop} {es : List Ev} {v : Value} {x : Ev} (h : DueAt w n5 b FH es i v FH' wr) (hx : es[i]? = some x)
    (b5 : Below wr.heap.size wr w5) (hh : Hh8 w6 b FH2 (((es.drop i).drop 1).map teV)) (m6 : Moves FH' FH2 w5 w6) (b7 : Below w6.heap.size w6 w7) (hg : w7.grownBy w8 v.ownBlock)
    (row : w8.ownsRow w.heap.size 31 3 (.slice (some ⟨g2, 0, none⟩) (i + 1) cap2) ((es.take i).length + 1) ((es.take i ++ [x]).map Ev.cs).flatten) (hor : v.ownBlock = some g2 ∨ g2 = w7.heap.size) :
    DueAt w n5 b FH es (i + 1) (.slice (some ⟨g2, 0, none⟩) (i + 1) cap2) FH2 w8 := by
  have il : i < es.length := by
    rcases Nat.lt_or_ge i es.length with q | q
    · exact q
    · rw [List.getElem?_eq_none q] at hx; cases hx
  have TS : es.take (i + 1) = es.take i ++ [x] := by rw [List.take_add_one, hx]; rfl
  have TL : (es.take i).length = i := by rw [List.length_take]; omega
  have vlt : ∀ k, v.ownBlock = some k → w.heap.size ≤ k ∧ k < wr.heap.size := fun k q => h.row.lt k q
  have s5 := b5.size
  have s6 := m6.keeps.size
  have s7 := b7.size
  have s8 := hg.size
  have nl : n5 < wr.heap.size := h.box.lt
  have n2 : ¬ FH2 n5 := fun q => by
    rcases m6.grow n5 q with r | r
    · exact h.nb r
    · omega
  have v2 : ∀ k, v.ownBlock = some k → ¬ FH2 k := fun k q r => by
    rcases m6.grow k r with r | r
    · exact (h.nr k q).1 r
    · have := vlt k q; omega
  have kk : Keeps (fun k => v.ownBlock = some k) w6 w8 := (Keeps.of (F := fun k => v.ownBlock = some k) b7).grown hg (fun k e => .inl e)
  refine ⟨?_, ?_, ?_, ?_, n2, fun k q => ?_⟩
  · have h1 := (h.box.below b5).keeps m6.keeps h.nb
    exact h1.keeps kk (fun e => (h.nr _ e).2 rfl)
  · rw [TL] at row
    rw [TS]
    exact row
  · rw [List.drop_drop] at hh
    exact hh.keeps kk (fun k q r => v2 k r q)
  · exact (((h.mv.next b5).trans m6)).keep kk (fun k q => (vlt k q).1)
  · have e : g2 = k := by simpa [Value.ownBlock] using q
    subst e
    rcases hor with r | r
    · exact ⟨v2 _ r, (h.nr _ r).2⟩
    · refine ⟨fun q => ?_, by omega⟩
      have := hh.lies _ q
      omega
/-- the answer of Due, and what is there then -/
def Dued (w : World) (g : Nat) (F : Nat → Prop) (es : List Ev) (n : Nat) (z : Ending) (w' : World) : Prop := ∃ a cap, z = .returned (.slice a n cap) ∧ RowV w' a n cap (es.take n) ∧ (∀ ad : Addr, a = some ad → ad.block < w'.heap.size) ∧ Fresh w.heap.size a ∧ ∃ F', Hp8 w' g F' (es.drop n) ∧ Moves F F' w w' ∧ (∀ ad : Addr, a = some ad → ¬ F' ad.block)
theorem DueAt.done {w wr w5 : World} {g n5 b i : Nat} {F FH FH' : Nat → Prop} {es : List Ev} {v : Value} (h : DueAt w n5 b FH es i v FH' wr) (hp : Hp8 w g F es) (hb : Blk w 53 g #[.pointer (some ⟨b, 0, none⟩)]) (hn : ¬ FH g) (hF : ∀ k, F k ↔ k = g ∨ FH k) (b5 : Below wr.heap.size wr w5) (il : i ≤ es.length) : Dued w g F es i (.returned v) w5 := by
  obtain ⟨_, _, _, _, _, _, ho⟩ := hp
  have row5 := owns_keeps h.row (Keeps.of (F := fun _ => False) b5) (fun _ _ q => q)
  obtain ⟨a, cap, rfl, hr, hf⟩ := rowV_of_owns row5 (by rw [List.length_take]; omega)
  have gl := hb.lt
  have AD := owns_addr row5
  have mv := h.mv.next b5
  have hn' : ¬ FH' g := fun q => by
    rcases mv.grow g q with r | r
    · exact hn r
    · omega
  refine ⟨a, cap, rfl, hr, fun ad e => (AD ad e).2.1, hf, (fun k => k = g ∨ FH' k), ⟨b, FH', hb.keeps mv.keeps hn, h.heap.keeps (G := fun _ => False) (Keeps.of b5) (fun _ _ q => q), hn', fun _ => Iff.rfl, ownV_drop ho i⟩, ⟨⟨mv.keeps.os, mv.keeps.tape, mv.keeps.output, mv.keeps.size, fun k hk hf => mv.keeps.block k hk (fun q => hf ((hF k).mpr (.inr q)))⟩, fun k q => ?_, fun k q => ?_⟩, fun ad e q => ?_⟩
  · rcases q with e | e
    · exact .inl ((hF k).mpr (.inl e))
    · exact (mv.grow k e).imp (fun r => (hF k).mpr (.inr r)) id
  · rcases q with e | e
    · rw [e]; exact Nat.lt_of_lt_of_le gl mv.keeps.size
    · exact mv.lt k e
  · have h1 := (AD ad e).1
    rcases q with r | r
    · omega
    · refine (h.nr ad.block ?_).1 r
      subst e
      rcases row5.2 with ⟨q, _⟩ | ⟨g', cap', cur, q, _⟩
      · cases q
      · cases q; rfl
set_option maxRecDepth 20000 in
set_option maxHeartbeats 4000000 in
theorem cdue_any (g : Nat) (F : Nat → Prop) (es : List Ev) (t : Int) (w : World) (h : Hp8 w g F es) (hl : es.length ≤ 500) : Calls Try.prog 14 #[.pointer (some ⟨g, 0, none⟩), .int .i64 t] w (Dued w g F es (dueN es t)) := by
  have H := Lib.hid h
  obtain ⟨b, FH, hb, hh, hn, hF, ho⟩ := h
  have HN := Lib.hid hn
  have HF := Lib.hid hF
  have HO := Lib.hid ho
  have BK := Lib.hid hb
  have HH := Lib.hid hh
  have LN := Lib.hid hl
  clear hb hh hn hF ho hl
  go_enter Try.func14, Try.ntmps14
  go_wp2_with fail
  go_step3
  go_wp2_with fail
  refine (all_any g _ _ rfl _ BK.out).mono ?_
  rintro z w2 ⟨rfl, hb⟩
  have B2 := Lib.hid hb
  clear hb
  have D0 := Lib.hid (show DueAt w w2.heap.size b FH es 0 (.slice none 0 0) FH (w2.alloc (Obj.cells #[.pointer (some ⟨b, 0, none⟩)] 51)) from
    ⟨Blk.new _ _ _, World.ownsRow_nil _ _ _ _, HH.out.keeps (G := fun _ => False) (Keeps.of (below_next B2.out (wbox _ _))) (fun _ _ q => q), Moves.of (below_next B2.out (wbox _ _)) HH.out.lies, (fun q => by have := HH.out.lies _ q; have := B2.out.size; omega), fun k q => by simp [Value.ownBlock] at q⟩)
  obtain ⟨n5, hn5⟩ : ∃ n5, w2.heap.size = n5 := ⟨_, rfl⟩
  have S5 := Lib.hid (show w.heap.size ≤ n5 by rw [← hn5]; exact B2.out.size)
  rw [hn5] at D0
  go_wp2_with fail
  go_step3
  clear hn5
  go_wp2
  go_loopw [6] (fun v wr => ∃ (i : Nat) (FH' : Nat → Prop), i ≤ es.length ∧ (∀ s ∈ es.take i, s.d ≤ t) ∧ DueAt w n5 b FH es i v FH' wr) (fun v _ => es.length - lenOf v)
  case atStart => exact ⟨0, FH, Nat.zero_le _, by simp, D0.out⟩
  case round =>
    obtain ⟨i, FH', il, hno, hd⟩ := hrel
    clear D0
    have D := Lib.hid hd
    have IL := Lib.hid il
    have NO := Lib.hid hno
    have VL := Lib.hid (owns_lenV hd.row)
    have y0 := hd.box.cell 0
    simp at y0
    clear hd il hno
    go_wp2_with fail
    refine (hmin8 b FH' (es.drop i) _ (ownV_drop HO.out i) D.out.heap).mono ?_
    rintro z w3 ⟨n, x, ok, rfl, hx, hb⟩
    have B3 := Lib.hid hb
    have S3 := Lib.hid hb.size
    rcases hx with ⟨he, rfl, rfl⟩ | ⟨hx, rfl⟩
    · have II := Lib.hid (show i = es.length by have := congrArg List.length he; rw [List.length_drop, List.length_nil] at this; have := IL.out; omega)
      have DN := Lib.hid (dueN_all es t i IL.out NO.out (fun e he => by rw [II.out, List.getElem?_eq_none (Nat.le_refl _)] at he; cases he))
      clear he hb y0
      go_wp2
      rw [Exit.noGoto_ret]
      go_ret
      rw [DN.out]
      exact DueAt.done D.out H.out BK.out HN.out HF.out (below_next B3.out (wbox _ _)) IL.out
    · have XI := Lib.hid (show es[i]? = some x by rw [List.getElem?_drop, Nat.add_zero] at hx; exact hx)
      obtain ⟨W5, hW5⟩ : ∃ W5, w3.alloc (Obj.cells #[.int .i64 x.d, .int .i64 x.i, .int .i64 x.k] 31) = W5 := ⟨_, rfl⟩
      have B5 := Lib.hid (show Below wr.heap.size wr W5 by rw [← hW5]; exact below_next B3.out (wbox _ _))
      have X5 := Lib.hid (show Blk W5 31 w3.heap.size #[.int .i64 x.d, .int .i64 x.i, .int .i64 x.k] by rw [← hW5]; exact Blk.new _ _ _)
      have HX := Lib.hid hx
      have x0 := X5.out.cell 0
      simp at x0
      by_cases q : x.d ≤ t
      · have t1 : decide (t < x.d) = false := by simp; omega
        have LE := Lib.hid q
        have K5 := Lib.hid (show Hh8 W5 b FH' ((es.drop i).map teV) from D.out.heap.keeps (G := fun _ => False) (Keeps.of B5.out) (fun _ _ q => q))
        have N8 := Lib.hid (show ¬ FH' w3.heap.size from fun q => by have := D.out.heap.lies _ q; have := S3.out; omega)
        have Y5 := Lib.hid (D.out.box.below B5.out)
        have R5 := Lib.hid (owns_keeps D.out.row (Keeps.of (F := fun _ => False) B5.out) (fun _ _ q => q))
        have y5 := Y5.out.cell 0
        simp at y5
        clear hx hb y0 q
        go_wp2_with fail
        refine (hpop8 b FH' (es.drop i) x _ (ownV_drop HO.out i) HX.out K5.out).mono ?_
        rintro z w6 ⟨⟨zv, rfl⟩, FH2, h6, m6⟩
        have H6 := Lib.hid h6
        have M6 := Lib.hid m6
        have X6 := Lib.hid (X5.out.keeps m6.keeps N8.out)
        have R6 := Lib.hid (owns_keeps R5.out m6.keeps (fun k q => (D.out.nr k q).1))
        have TL := Lib.hid (show (es.take i).length = i by rw [List.length_take]; have := IL.out; omega)
        have e0 := X6.out.cell 0
        have e1 := X6.out.cell 1
        have e2 := X6.out.cell 2
        have VB := Lib.hid (show w.heap.size ≤ w6.heap.size by have h1 := B5.out.size; have h2 := m6.keeps.size; have h3 := D.out.mv.keeps.size; omega)
        simp at e0 e1 e2
        clear h6 m6 x0 y5
        go_wp2_with (at_builtin; refine app_eventL rfl _ _ rfl w.heap.size _ (es.take i) rfl (by rw [TL.out]; exact R6.out.alloc _) w6.heap.size x rfl (heap_alloc_new w6 _) (by have := VB.out; simp; omega) (by rw [TL.out]; have := IL.out; have := LN.out; omega) ?_; intro v2 w8 hown2 hgrow2 hform; have HO2 := Lib.hid hown2; have HG2 := Lib.hid hgrow2; have HFM := Lib.hid hform; clear hown2 hgrow2 hform)
        obtain ⟨g2, cap2, hv2, hor⟩ := HFM.out
        rw [TL.out] at hv2
        subst hv2
        have NX := Lib.hid (D.out.step XI.out B5.out H6.out M6.out (wbox w6 _) HG2.out HO2.out hor)
        clear hor HFM HO2 HG2
        go_roundw
        case rel => exact ⟨i + 1, FH2, at_lt XI.out, (fun s hs => by rw [List.take_add_one, XI.out] at hs; rcases List.mem_append.mp hs with y | y; exact NO.out s y; simp at y; rw [y]; exact LE.out), NX.out⟩
        case measure =>
          have h1 := VL.out
          have h2 := at_lt XI.out
          simp [lenOf] at h1 ⊢
          omega
      · have t1 : decide (t < x.d) = true := by simp; omega
        have DN := Lib.hid (dueN_all es t i IL.out NO.out (fun e he => by rw [XI.out] at he; cases he; omega))
        clear hx hb y0 q
        go_wp2
        rw [Exit.noGoto_ret]
        go_ret
        rw [DN.out]
        exact DueAt.done D.out H.out BK.out HN.out HF.out B5.out IL.out
end Go.Proofs.Ytfeemdljlikpbaa
