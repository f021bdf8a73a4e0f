/-
  Package hold as landed: sums.
-/
import Derived.Test.YtphlkpkbdnddlaaHz5
import Derived.Maps.OwnIn
import Derived.Shelf.Abstract
import Derived.Shelf.RegionOpen
namespace Go.Proofs.Ytphlkpkbdnddlaa
open Go.RowKit Go.Shelf

/-- append of one weight to what is owned, in a round of a loop over a function -/
theorem app_weightIn {F : Fence} {n : Nat} {w : World} {ops : Array Oper} {rest : List Oper} {o : Oper} {act : Act} {Q : Exit → Act → World → Prop} (hgd : o.guard = none) (s x : Operand)
    (ho : o.op = .call { callee := .builtin .append, args := #[s, x], argTypes := #[83, 83] }) (base : Nat)
    (v : Value) (ns : List (Int × Int)) (hs : act.eval s = v) (hown : w.ownsRow base 39 2 v ns.length (cellsW ns)) (g : Nat) (p : Int × Int) (hx : act.eval x = .slice (some ⟨g, 0, none⟩) 1 1)
    (hg : w.heap[g]? = some (.cells #[.int .i64 p.1, .int .i64 p.2] 39 (0, 0))) (hb : base ≤ w.heap.size) (hsm : ns.length ≤ 100000)
    (h : ∀ v' w', w'.ownsRow base 39 2 v' (ns ++ [p]).length (cellsW (ns ++ [p])) → w.grownBy w' v.ownBlock → (v'.ownBlock = v.ownBlock ∨ v'.ownBlock = some w.heap.size) → wpListIn F n Try.prog ops Q rest (act.put o.dst v') w') : wpListIn F n Try.prog ops Q (o :: rest) act w := by
  obtain ⟨i0, hi, hz0, hz1, hz2⟩ := info_parts Try.infoW
  refine wpListIn_append_own_at _ hgd s x _ ho base _ i0 _ 2 16 Try.underlying83 hi hz0 hz1 hz2 rfl (by decide) v _ _ hs hown ⟨g, 0, none⟩ 1 1 [.int .i64 p.1, .int .i64 p.2] hx rfl (World.news_of_block (cs := #[.int .i64 p.1, .int .i64 p.2]) (t := 39) (fr := (0, 0)) hg) (by simp [Value.oneCell']) (by unfold maxLen; omega) (by omega) hb ?_
  intro v2 w2 ho2 hg2 _ hat
  refine h v2 w2 ?_ hg2 hat
  rw [List.length_append, cellsW_append]
  exact ho2
/-- a row written: what is no cells is as it was -/
theorem others_row {w w' : World} {base size n : Nat} {e : TypeId} {v : Value} {xs : List Value} (h : w.ownsRow base e size v n xs) (hg : w.grownBy w' v.ownBlock) : KeepsOthers w w' := by
  refine ⟨hg.size, fun k o hk hc => (hg.block k (Array.getElem?_eq_some_iff.1 hk).1 (fun e1 => ?_)).trans hk⟩
  rcases h.2 with q | ⟨g', cap, cur, hv, hbg, hcell, _⟩
  · rw [q.1] at e1; cases e1
  · subst hv
    cases e1
    rw [hcell] at hk
    cases hk
    cases hc
theorem others_alloc (w : World) (o : Obj) : KeepsOthers w (w.alloc o) := ⟨by simp, fun k q hk _ => (Below.heap_alloc _ _ _ (Array.getElem?_eq_some_iff.1 hk).1).trans hk⟩
theorem fit_may {p : Int × Int} (h : MayBe p.1 p.2) : FitW p := by
  obtain ⟨h1, h2, h3⟩ := h
  exact ⟨by omega, by omega, by omega, by omega⟩
theorem box_grown {A w2 : World} {T : TypeId} {B : Nat} {cs : Array Value} {v v0 : Value} (h : Blk A T B cs) (hg : A.grownBy w2 v.ownBlock) (ob : ∀ k, v.ownBlock = some k → v0.ownBlock = some k ∨ B + 2 ≤ k) (lt : ∀ k, v0.ownBlock = some k → k < B) : Blk w2 T B cs :=
  (hg.block _ h.lt (fun e => by
    rcases ob _ e.symm with q | q
    · have := lt _ q; omega
    · omega)).trans h
theorem keeps_high {F : Nat → Prop} {w a b : World} (h : Keeps F w a) (k : Below w.heap.size a b) : Keeps F w b :=
  ⟨k.os.trans h.os, k.tape.trans h.tape, k.output.trans h.output, Nat.le_trans h.size k.size, fun x hx hf => (k.block x hx).trans (h.block x hx hf)⟩
theorem rat_high {a b : World} {Dd L : Nat} {v : Value} {n d : Int} {ds : Option (List Deferred)} (h : Rat a 0 L v n d) (hd : a.heap[Dd]? = some (.deferred ds)) (k : Below Dd a b) (hs : ∀ x, Dd < x → x < a.heap.size → b.heap[x]? = a.heap[x]?) : Rat b 0 L v n d := by
  refine NumsKept.of (G := fun x => x = Dd) ⟨k.os, k.tape, k.output, k.size, fun x hx hf => ?_⟩ (fun x hx j y hc => ?_) 0 L v n d h
  · rcases Nat.lt_or_ge x Dd with q | q
    · exact k.block x q
    · exact hs x (by omega) hx
  · subst hx
    simp [World.cell?, hd] at hc
/-- what is carried from round to round: the row so far, in its box; the answer's box -/
structure Row12 (w : World) (v0 : Value) (B : Nat) (ps : List (Int × Int)) (W : World) : Prop where
  row : ∃ v, Blk W 83 B #[v] ∧ W.ownsRow 0 39 2 v ps.length (cellsW ps) ∧ (∀ k, v.ownBlock = some k → v0.ownBlock = some k ∨ B + 2 ≤ k)
  box : Box W 27 (B + 1) (.slice none 0 0) (.slice none 0 0)
  kept : Keeps (fun k => v0.ownBlock = some k) w W
theorem Row12.grown {w : World} {v0 : Value} {ps : List (Int × Int)} {A B : World} {row : Option Nat} (h : Row12 w v0 w.heap.size ps A) (hg : A.grownBy B row) (hr : ∀ r, row = some r → w.heap.size + 2 ≤ r ∧ ∃ o : Obj, A.heap[r]? = some o ∧ o.isCells = false) : Row12 w v0 w.heap.size ps B := by
  obtain ⟨v, h1, h2, h3⟩ := h.row
  have k : Keeps (fun k => row = some k) A B := (Keeps.refl _ A).grown hg (fun k e => .inl e)
  have ne : ∀ {T : TypeId} {g : Nat} {cs : Array Value}, Blk A T g cs → ¬ row = some g := fun hb e => by
    obtain ⟨_, o, ho, hc⟩ := hr _ e
    rw [show A.heap[_]? = _ from hb] at ho
    cases ho
    cases hc
  refine ⟨⟨v, h1.keeps k (ne h1), owns_keeps h2 k (fun g e1 e2 => ?_), h3⟩, Blk.keeps h.box k (ne h.box), h.kept.grown hg (fun k e => .inr (by have := (hr k e).1; omega))⟩
  obtain ⟨_, o, ho, hc⟩ := hr g e2
  rcases h2.2 with q | ⟨g', cap, cur, hv, hbg, hcell, _⟩
  · rw [q.1] at e1; cases e1
  · subst hv
    cases e1
    rw [hcell] at ho
    cases ho
    cases hc
theorem ownFrom_row12 (w : World) (v0 : Value) (ps : List (Int × Int)) : OwnFrom (w.heap.size + 2) (fun (pre : List (Int × Int)) W => Row12 w v0 w.heap.size (ps ++ pre) W) := fun _ _ _ _ hs hg hr => hs.grown hg hr

section
attribute [local go_sem] Oper.semAt_some
set_option maxRecDepth 100000 in
set_option maxHeartbeats 4000000 in
theorem hsum_any {w : World} {g m : Nat} {A : Nat → Prop} {an : Option Addr} {ln cn : Nat} {ad : Option Addr} {ld cd : Nat} {N D : Int} {hs : List Hd} (h : LH w g m A an ln cn ad ld cd N D hs) (gd : GoodL N D hs)
    (a : Option Addr) (len cap : Nat) (ps : List (Int × Int)) (ho : w.ownsRow 0 39 2 (.slice a len cap) ps.length (cellsW ps)) (hf : ∀ p ∈ ps, FitW p) (hl : ps.length + hs.length ≤ 21) :
    Calls Try.prog 42 #[.pointer (some ⟨g, 0, none⟩), .slice a len cap] w fun e w' => ∃ v n d, e = .returned v ∧ Rat w' 0 43 v n d ∧ Lo n d ∧ n * (sumR (ps ++ wsL hs)).2 = (sumR (ps ++ wsL hs)).1 * d ∧ Keeps (fun k => (Value.slice a len cap).ownBlock = some k) w w' := by
  obtain ⟨W0, hW0⟩ : ∃ W0, (w.alloc (.cells #[.slice a len cap] 83)).alloc (.cells #[.slice none 0 0, .slice none 0 0] 27) = W0 := ⟨_, rfl⟩
  have B0 := Lib.hid (show Below w.heap.size w W0 by rw [← hW0]; exact wbox2 _ _ _)
  have Z0 := Lib.hid (show W0.heap.size = w.heap.size + 2 by rw [← hW0]; simp)
  have R0 := Lib.hid (show Row12 w (.slice a len cap) w.heap.size (ps ++ []) W0 from ⟨⟨.slice a len cap, by rw [← hW0]; exact (Blk.new w _ _).alloc _, by rw [List.append_nil, ← hW0]; exact (ho.alloc _).alloc _, fun _ e => .inl e⟩, by rw [← hW0]; exact Blk.new2 w _ _ _, Keeps.of B0.out⟩)
  have H := Lib.hid (h.below B0.out)
  have GD := Lib.hid gd
  have FT := Lib.hid hf
  have LT := Lib.hid (show ∀ k, (Value.slice a len cap).ownBlock = some k → k < w.heap.size from fun k e => (ho.lt k e).2)
  have HL := Lib.hid hl
  clear h gd ho hf hl
  refine (callsIn_wide (n := 3)).1 ?_
  refine callsIn_of_wp_marks Try.func42 rfl trivial ?_ rfl
  simp only [Try.ntmps42, List.size_toArray, List.length_cons, List.length_nil, Nat.reduceAdd, Nat.reduceSub, Array.replicate_succ, Array.replicate_zero, List.push_toArray, List.append_toArray, List.nil_append, List.cons_append]
  refine wpIn_wide.2 ?_
  go_wp2_with fail
  (try rw [hW0])
  clear hW0
  refine (wpIn_wide (n := 3)).1 ?_
  refine rangeFunc_bound rfl (by omega) (gf := 58) (fb := #[.pointer (some ⟨g, 0, none⟩)]) rfl trivial (enters_of Try.func58 (by kernel_rfl) rfl)
    (hshares_in _ (by omega) H.out GD.out) (Below.refl _ _) (fun _ => rfl)
    (fun pre W => Row12 w (.slice a len cap) w.heap.size (ps ++ pre) W) (by rw [Z0.out]; exact ownFrom_row12 w _ ps) R0.out
    (fun x b => { tmps := #[.pointer (some ⟨g, 0, none⟩), .slice a len cap, undef, .pointer (some ⟨w.heap.size, 0, none⟩), .pointer (some ⟨w.heap.size + 1, 0, none⟩), .pointer (some ⟨b, 0, none⟩), .pointer (some ⟨g, 0, none⟩), .func (.func 58) #[.pointer (some ⟨g, 0, none⟩)] #[], .agg #[.int .i64 x.1, .int .i64 x.2], undef, undef, undef, undef, undef, undef], defers := [] })
    (fun x => .cells #[.int .i64 x.1, .int .i64 x.2] 39) ?assign ?body ?done
  case assign =>
    intro l x W K hK
    gi_wp2
    exact hK
  case body =>
    intro l pre x b W hI hlen hb hx
    have RI := Lib.hid hI
    obtain ⟨v, h1, h2, h3⟩ := hI.row
    have c0 := h1.cell 0
    have f0 := h1.free 0
    have X := Lib.hid (show Blk W 39 b #[.int .i64 x.1, .int .i64 x.2] from hx)
    have c1 := X.out.cell 0
    have c2 := X.out.cell 1
    simp at c0 c1 c2
    have O := Lib.hid h2
    have OB := Lib.hid h3
    have V := Lib.hid h1
    clear hI h1 h2 h3 hx
    gi_wp2_with (gi_at_builtin; refine app_weightIn rfl _ _ rfl 0 _ (ps ++ pre) rfl (O.out.alloc _) W.heap.size x rfl (heap_alloc_new _ _) (Nat.zero_le _) (by have := HL.out; rw [List.length_append]; omega) ?_; intro v2 w2 ho2 hg2 hat; obtain ⟨a2, cap2, rfl, _⟩ := rowP_of_owns ho2; have O2 := Lib.hid ho2; have G2 := Lib.hid hg2; have AT := Lib.hid hat; clear ho2 hg2 hat; have V2 := Lib.hid (box_grown (V.out.alloc _) G2.out OB.out LT.out); have c5 := V2.out.cell 0; have f5 := V2.out.free 0; simp at c5)
    have ev : Value.slice a2 (ps.length + (pre.length + 1)) cap2 = Value.slice a2 (ps ++ pre ++ [x]).length cap2 := by
      rw [List.length_append, List.length_append, List.length_singleton, Nat.add_assoc]
    rw [ev]
    have wl : w.heap.size < W.heap.size := V.out.lt
    have no2 : ∀ k, (Value.slice a2 (ps ++ pre ++ [x]).length cap2).ownBlock = some k → (Value.slice a len cap).ownBlock = some k ∨ w.heap.size + 2 ≤ k := fun k e => by
      rcases AT.out with q | q
      · exact OB.out k (q ▸ e)
      · rw [q] at e
        cases e
        refine .inr ?_
        have := RI.out.box
        have := Blk.lt this
        simp; omega
    have nb : ∀ k, (Value.slice a2 (ps ++ pre ++ [x]).length cap2).ownBlock = some k → ¬ k = w.heap.size := fun k e q => by
      rcases no2 k e with r | r
      · have := LT.out k r; omega
      · omega
    have kA : Keeps (fun k => k = w.heap.size) w2 (w2.setCell ⟨w.heap.size, 0, none⟩ (Value.slice a2 (ps ++ pre ++ [x]).length cap2)) := (Keeps.refl (fun k => k = w.heap.size) w2).set (.inl rfl) _ _
    have bxA : Box (W.alloc (.cells #[.int .i64 x.1, .int .i64 x.2] 39)) 27 (w.heap.size + 1) (.slice none 0 0) (.slice none 0 0) := Blk.alloc RI.out.box _
    have bx2 : Box w2 27 (w.heap.size + 1) (.slice none 0 0) (.slice none 0 0) := (G2.out.block _ (Blk.lt bxA) (fun e => by
      rcases OB.out _ e.symm with q | q
      · have := LT.out _ q; omega
      · omega)).trans bxA
    refine ⟨?_, ?_⟩
    · exact ((others_alloc W _).trans (others_row (O.out.alloc _) G2.out)).trans (KeepsOthers.setCell _ _ _)
    · refine ⟨⟨_, V2.out.setH 0 _, ?_, no2⟩, Blk.keeps bx2 kA (fun e => by omega), ?_⟩
      · rw [← List.append_assoc]
        exact owns_keeps O2.out kA nb
      · refine (((RI.out.kept.alloc _).grown G2.out (fun k e => ?_))).set (.inr (Nat.le_refl _)) _ _
        rcases OB.out k e with q | q
        · exact .inl q
        · exact .inr (by omega)
  case done =>
    intro Dd xs W hD hS hI hK
    obtain ⟨v, h1, h2, h3⟩ := hI.row
    obtain ⟨a1, cap1, rfl, hr, _⟩ := rowP_of_owns h2
    have c0 := h1.cell 0
    simp at c0
    have RI := Lib.hid hI
    have HS := Lib.hid hS
    have RP := Lib.hid hr
    have HK := Lib.hid hK
    have HD := Lib.hid hD
    clear h1 h2 h3 hr hK hI hS hD
    have HB := Lib.hid RI.out.box
    obtain ⟨n1, hn1⟩ : ∃ n, (ps ++ xs).length = n := ⟨_, rfl⟩
    rw [hn1] at RP
    rw [← List.length_append, hn1] at c0
    have HN := Lib.hid hn1
    clear hn1
    have HQ := Lib.hid (qsum_any a1 n1 cap1 (ps ++ xs) W RP.out (fun p hp => by
      rcases List.mem_append.mp hp with q | q
      · exact FT.out p q
      · obtain ⟨x, hx, rfl⟩ := List.mem_map.mp (HS.out.mem_iff.mp q)
        exact fit_may (holdsV_may (GD.out.each x hx))) (by
      have := HL.out
      have h1 := HS.out.length_eq
      unfold wsL at h1
      rw [List.length_map] at h1
      have h2 := HN.out
      rw [List.length_append] at h2
      omega))
    have NN := Lib.hid (show n1 ≤ 21 by
      have := HL.out
      have h1 := HS.out.length_eq
      unfold wsL at h1
      rw [List.length_map] at h1
      have h2 := HN.out
      rw [List.length_append] at h2
      omega)
    have SP := Lib.hid (sumR_perm (List.Perm.append_left ps HS.out))
    go_wp2_with fail
    refine HQ.out.mono ?_
    rintro e w2 ⟨_, n, d, rfl, hr, hlo, he, hb⟩
    rw [SP.out] at he
    obtain ⟨p1, p2, p3, z1, q1, q2, q3, z2, rfl, _⟩ := id hr
    have X2 := Lib.hid (Box.below HB.out hb)
    have R2 := Lib.hid (box_set X2.out hr).2
    have BX2 := Lib.hid (box_set X2.out hr).1
    have KD := Lib.hid ((hb.block Dd (Array.getElem?_eq_some_iff.1 HK.out).1).trans HK.out)
    have KE := Lib.hid (RI.out.kept.next hb)
    have LO := Lib.hid hlo
    have EQ := Lib.hid he
    have x0 := X2.out.c0; have x1 := X2.out.c1
    have f0 := Blk.free X2.out 0; have f1 := Blk.free X2.out 1
    clear hr hb hlo he c0
    go_wp2
    have z2 := KD.out
    have ne : w.heap.size + 1 ≠ Dd := by have := HD.out; have := Z0.out; omega
    have KF := (Below.heap_setCell _ ⟨w.heap.size + 1, 1, none⟩ (.slice q1 q2 q3) Dd (fun e => ne e.symm)).trans ((Below.heap_setCell w2 ⟨w.heap.size + 1, 0, none⟩ (.slice p1 p2 p3) Dd (fun e => ne e.symm)).trans z2)
    have KE2 := (KE.out.set (.inr (Nat.le_succ _)) 0 (.slice p1 p2 p3)).set (.inr (Nat.le_succ _)) 1 (.slice q1 q2 q3)
    have RR := R2.out
    obtain ⟨W3, hW3⟩ : ∃ W3, (w2.setCell ⟨w.heap.size + 1, 0, none⟩ (.slice p1 p2 p3)).setCell ⟨w.heap.size + 1, 1, none⟩ (.slice q1 q2 q3) = W3 := ⟨_, rfl⟩
    have BX := BX2.out
    rw [hW3] at KF KE2 RR BX ⊢
    clear hW3
    have hg := grownBy_putObj' W3 Dd (.deferred none)
    have B4 : Below Dd W3 (W3.putObj Dd (.deferred none)) := (Below.refl Dd W3).grown hg (Nat.le_of_lt (Array.getElem?_eq_some_iff.1 KF).1) (fun k e => by cases e; exact Nat.le_refl _)
    have BX4 : Box (W3.putObj Dd (.deferred none)) 27 (w.heap.size + 1) (.slice p1 p2 p3) (.slice q1 q2 q3) := (hg.block _ (Blk.lt BX) (fun e => by cases e; exact ne rfl)).trans BX
    have y0 := BX4.c0; have y1 := BX4.c1
    refine ⟨by simp, .inl ⟨_, _, rfl, run_takeDeferred KF, ?_⟩⟩
    refine ⟨.agg #[.slice p1 p2 p3, .slice q1 q2 q3], by simp [results, Try.results42, go_sem, y0, y1], ?_⟩
    exact ⟨_, n, d, rfl, (rat_high RR KF B4 (fun x hx hxs => hg.block x hxs (fun e => by cases e; omega))).mono (Nat.le_refl _) (by have := NN.out; omega), LO.out, EQ.out, keeps_high KE2 (B4.mono (by have := HD.out; have := Z0.out; omega))⟩
end
end Go.Proofs.Ytphlkpkbdnddlaa
