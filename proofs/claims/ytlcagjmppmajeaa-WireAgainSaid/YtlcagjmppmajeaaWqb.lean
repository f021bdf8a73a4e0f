/-
  Package wire's fields, collected: contract.
-/
import Derived.Test.YtlcagjmppmajeaaWqa
namespace Go.Proofs.Ytlcagjmppmajeaa
open Go.RowKit

/-- what must not be written while fields are told -/
def ApC (q : Nat) (v : Value) (F : Nat → Prop) : Prop := ¬ F q ∧ ∀ a len cap, v = .slice a len cap → ∀ ad : Addr, a = some ad → ¬ F ad.block
theorem wfields_gives (n : Nat) (c : Cm) (v : Value) (q : Nat) (w : World) (h : Blk w 37 q (cmA c v)) (hp : PartsAt w v c.parts) (k1 : 1 ≤ c.k) (k7 : c.k ≤ 7) (s0 : -1 ≤ c.sv) (s1 : c.sv ≤ 1073741824) (p8 : c.parts.length ≤ 8) :
    GivesM n Try.prog 30 #[.pointer (some ⟨q, 0, none⟩)] enc1 (fieldsV c) (ApC q v) w := by
  intro l J W F0 hW hAp hL hJ hY h0
  have h := h.below hW
  have hp2 := hp.below hW
  refine callsIn_wide.2 ?_
  obtain ⟨k, id, sv, m, co, e, p, early, parts⟩ := c
  simp only at k1 k7 s0 s1 p8
  have hk : k = 1 ∨ k = 2 ∨ k = 3 ∨ k = 4 ∨ k = 5 ∨ k = 6 ∨ k = 7 := by omega
  have go : ∀ xs, Calls Try.prog 30 #[.func (.yield l) #[] #[], .pointer (some ⟨q, 0, none⟩)] W (FldO J F0 xs W) → Calls Try.prog 30 (#[.func (.yield l) #[] #[]] ++ #[.pointer (some ⟨q, 0, none⟩)]) W fun e W' => (∃ v, e = .returned v) ∧ ∃ F', J F' xs W' ∧ Moves F0 F' W W' := fun xs hc => hc.mono fun e W' ⟨e1, e2⟩ => ⟨⟨_, e1⟩, e2⟩
  rcases hk with rfl | rfl | rfl | rfl | rfl | rfl | rfl
  · exact go _ (wf1 id sv m co e p early v q l J hJ hY F0 W h h0 hL s0 s1)
  · exact go _ (wf2 id sv m co e p early v q l J hJ hY F0 W h h0 hL)
  · exact go _ (wf3 id sv m co e p early v q l J hJ hY F0 W h h0 hL)
  · exact go _ (wf4 id sv m co e p early v q l J hJ hY F0 W h h0 hL)
  · exact go _ (wf5 id sv m co e p early v q l J hJ hY F0 W h h0 hL)
  · obtain ⟨a, cap, hv, hr⟩ := hp2
    exact go _ (wf6 id sv m co e p early v parts q l J hJ hY F0 W h h0 hL s0 s1 a cap hv hr p8 hAp.1 (fun ad e => hAp.2 _ _ _ hv ad e))
  · exact go _ (wf7 id sv m co e p early v q l J hJ hY F0 W h h0 hL)
set_option maxRecDepth 20000 in
set_option maxHeartbeats 4000000 in
theorem wfields_any (c : Cm) (v : Value) (w : World) :
    Calls Try.prog 20 #[cmV c v] w fun e w' => e = .returned (.func (.func 30) #[] #[.pointer (some ⟨w.heap.size, 0, none⟩)]) ∧ w' = w.alloc (.cells (cmA c v) 37) := by
  obtain ⟨k, id, sv, m, co, e, p, early, parts⟩ := c
  go_enter Try.func20, Try.ntmps20
  go_wp2
  go_ret
  exact ⟨rfl, rfl⟩
/-- append of one number to what is owned, in a round -/
theorem app_intIn {F : Fence} {n : Nat} {w : World} {ops : Array Oper} {rest : List Oper} {o : Oper} {act : Act} {Q : Exit → Act → World → Prop} (hgd : o.guard = none) (s x : Operand)
    (ho : o.op = .call { callee := .builtin .append, args := #[s, x], argTypes := #[46, 46] }) (base : Nat)
    (v : Value) (L : List Int) (hs : act.eval s = v) (hown : w.ownsRow base 2 1 v L.length (L.map (Value.int .i64))) (g : Nat) (z : Int) (hx : act.eval x = .slice (some ⟨g, 0, none⟩) 1 1)
    (hg : w.heap[g]? = some (.cells #[.int .i64 z] 2 (0, 0))) (hb : base ≤ w.heap.size) (hsm : L.length ≤ 100000)
    (h : ∀ v' w', w'.ownsRow base 2 1 v' (L ++ [z]).length ((L ++ [z]).map (Value.int .i64)) → w.grownBy w' v.ownBlock → (v'.ownBlock = v.ownBlock ∨ v'.ownBlock = some w.heap.size) → wpListIn F n Try.prog ops Q rest (act.put o.dst v') w') : wpListIn F n Try.prog ops Q (o :: rest) act w := by
  obtain ⟨i0, hi, hz0, hz1, hz2⟩ := info_parts Try.infoI
  refine wpListIn_append_own_at _ hgd s x _ ho base _ i0 _ 1 8 Try.underlying46 hi hz0 hz1 hz2 rfl (by decide) v _ _ hs hown ⟨g, 0, none⟩ 1 1 [.int .i64 z] hx rfl (World.news_of_block (cs := #[.int .i64 z]) (t := 2) (fr := (0, 0)) hg) (by simp [Value.oneCell']) (by unfold maxLen; omega) (by omega) hb ?_
  intro v2 w2 ho2 hg2 _ hat
  refine h v2 w2 ?_ hg2 hat
  rw [List.length_append, List.map_append]
  exact ho2
/-- a row written: what is no cells is as it was -/
theorem others_row {w w' : World} {base size n : Nat} {e : TypeId} {v : Value} {xs : List Value} (h : w.ownsRow base e size v n xs) (hg : w.grownBy w' v.ownBlock) : KeepsOthers w w' := by
  refine ⟨hg.size, fun k o hk hc => (hg.block k (Array.getElem?_eq_some_iff.1 hk).1 (fun e1 => ?_)).trans hk⟩
  rcases h.2 with q | ⟨g', cap, cur, hv, hbg, hcell, _⟩
  · rw [q.1] at e1; cases e1
  · subst hv
    cases e1
    rw [hcell] at hk
    cases hk
    cases hc
theorem others_alloc (w : World) (o : Obj) : KeepsOthers w (w.alloc o) := ⟨by simp, fun k q hk _ => (Below.heap_alloc _ _ _ (Array.getElem?_eq_some_iff.1 hk).1).trans hk⟩
theorem slice_own {W : World} {base : Nat} {e : TypeId} {size : Nat} {v : Value} {n : Nat} {xs : List Value} (h : W.ownsRow base e size v n xs) : ∃ a cap, v = .slice a n cap := by
  rcases h.2 with ⟨h1, h2⟩ | ⟨g, cap, _, h1, _⟩
  · exact ⟨none, 0, by rw [h1, h2]⟩
  · exact ⟨_, cap, h1⟩
theorem keeps_below {w W : World} (h : Keeps (fun _ => False) w W) : Below w.heap.size w W := ⟨h.os, h.tape, h.output, h.size, fun k hk => h.block k hk (fun q => q)⟩
/-- what is carried from round to round: a row of one's own, in its box -/
structure BoxR (T E : TypeId) (w : World) (bx base : Nat) (xs : List Value) (W : World) (v : Value) : Prop where
  box : Blk W T bx #[v]
  row : W.ownsRow base E 1 v xs.length xs
  ne : v.ownBlock ≠ some bx
def FB (bx : Nat) (v : Value) : Nat → Prop := fun k => k = bx ∨ v.ownBlock = some k
theorem BoxR.keepsC {T E : TypeId} {w A B : World} {bx base N : Nat} {xs : List Value} {v : Value} (h : BoxR T E w bx base xs A v) (k : KeepsC N A B) : BoxR T E w bx base xs B v := ⟨h.box.keepsC k, owns_keepsC h.row k, h.ne⟩
/-- a row grown by one, its box written: what may be written moves along -/
theorem moves_app {W w2 : World} {T : TypeId} {bx base : Nat} {E : TypeId} {v v' : Value} {o : Obj} (hv : Blk W T bx #[v]) (hg : (W.alloc o).grownBy w2 v.ownBlock) (hat : v'.ownBlock = v.ownBlock ∨ v'.ownBlock = some (W.alloc o).heap.size)
    {xs' : List Value} {n' : Nat} (hrow' : w2.ownsRow base E 1 v' n' xs') (u : Value) : Moves (FB bx v) (FB bx v') W (w2.setCell ⟨bx, 0, none⟩ u) := by
  have k : Keeps (FB bx v) W w2 := ((Keeps.refl (FB bx v) W).alloc o).grown hg (fun k e => .inl (.inr e))
  refine ⟨k.set (.inl (.inl rfl)) _ _, fun x hx => ?_, fun x hx => ?_⟩
  · rcases hx with e | e
    · exact .inl (.inl e)
    · rcases hat with q | q
      · exact .inl (.inr (q ▸ e))
      · rw [q] at e
        cases e
        right
        simp
  · rcases hx with e | e
    · subst e
      have := hv.lt
      have := k.size
      simp
      omega
    · have := (World.ownsRow.lt hrow' x e).2
      simpa using this

section
attribute [local go_sem] Oper.semAt_some
set_option maxRecDepth 100000 in
set_option maxHeartbeats 4000000 in
theorem wappendseq_any (g : Nat) (hg : g = 30) (cp : Array Value) (zs : List Int) (Ap : (Nat → Prop) → Prop) (w : World) (hseq : ∀ n, GivesM n Try.prog g cp enc1 zs Ap w) (hAp : ∀ F : Nat → Prop, (∀ k, F k → w.heap.size ≤ k) → Ap F) (hl : zs.length ≤ 1000) :
    Calls Try.prog 29 #[.slice none 0 0, .func (.func g) #[] cp] w fun e w' => ∃ a cap, e = .returned (.slice a zs.length cap) ∧ Row .i64 w' a zs.length cap zs ∧ Fresh w.heap.size a ∧ Below w.heap.size w w' := by
  subst hg
  obtain ⟨W0, hW0⟩ : ∃ W0, w.alloc (.cells #[.slice none 0 0] 46) = W0 := ⟨_, rfl⟩
  have B0 := Lib.hid (show Below w.heap.size w W0 by rw [← hW0]; exact wbox _ _)
  have Z0 := Lib.hid (show W0.heap.size = w.heap.size + 1 by rw [← hW0]; simp)
  have X0 := Lib.hid (show BoxR 46 2 w w.heap.size (w.heap.size + 1) [] W0 (.slice none 0 0) from ⟨by rw [← hW0]; exact Blk.new _ _ _, World.ownsRow_nil _ _ _ _, by simp [Value.ownBlock]⟩)
  have AP := Lib.hid hAp
  have HL := Lib.hid hl
  clear hAp hl
  refine (callsIn_wide (n := 3)).1 ?_
  refine callsIn_of_wp_marks Try.func29 rfl trivial ?_ rfl
  simp only [Try.ntmps29, List.size_toArray, List.length_cons, List.length_nil, Nat.reduceAdd, Nat.reduceSub, Array.replicate_succ, Array.replicate_zero, List.push_toArray, List.append_toArray, List.nil_append, List.cons_append]
  refine wpIn_wide.2 ?_
  go_wp2_with fail
  (try rw [hW0])
  clear hW0
  refine (wpIn_wide (n := 3)).1 ?_
  refine rangeFunc_moves (by omega) (gf := 30) (cp := cp) rfl (enters_of Try.func30 (by kernel_rfl) rfl) (hseq _) B0.out (fun _ => rfl)
    (fun F pre W => ∃ v, F = FB w.heap.size v ∧ BoxR 46 2 w w.heap.size (w.heap.size + 1) (pre.map (Value.int .i64)) W v ∧ Keeps (fun _ => False) w W)
    (fun F pre A B ⟨v, e, hb, hk⟩ k => ⟨v, e, hb.keepsC k, hk.keepsC k B0.out.size⟩) (FB w.heap.size (.slice none 0 0))
    (AP.out _ (fun k q => by rcases q with q | q; omega; simp [Value.ownBlock] at q)) (fun k q => by rcases q with q | q; have := Z0.out; omega; simp [Value.ownBlock] at q)
    ⟨_, rfl, X0.out, Keeps.of B0.out⟩
    (fun x => { tmps := #[.slice none 0 0, .func (.func 30) #[] cp, .pointer (some ⟨w.heap.size, 0, none⟩), undef, .slice none 0 0, .int .i64 x, .func (.func 30) #[] cp, .int .i64 x, undef, undef, undef, undef, undef], defers := [] }) ?assign ?body ?done
  case assign =>
    intro l x W K hK
    gi_wp2
    exact hK
  case body =>
    rintro l F pre x W ⟨v, rfl, hbx, hk⟩ hlen _
    have V := Lib.hid hbx
    have KK := Lib.hid hk
    have c0 := hbx.box.cell 0
    have f0 := hbx.box.free 0
    simp at c0
    have GL := Lib.hid (show pre.length ≤ 1000 from by omega)
    have O := Lib.hid (show W.ownsRow (w.heap.size + 1) 2 1 v pre.length (pre.map (Value.int .i64)) by have := hbx.row; rwa [List.length_map] at this)
    clear hbx hk
    gi_wp2_with (gi_at_builtin; refine app_intIn rfl _ _ rfl (w.heap.size + 1) _ pre rfl (O.out.alloc _) W.heap.size x rfl (heap_alloc_new _ _) (by have := V.out.box.lt; simp; omega) (by have := GL.out; omega) ?_; intro v2 w2 ho2 hg2 hat; obtain ⟨a2, cap2, rfl⟩ := slice_own ho2; have O2 := Lib.hid ho2; have G2 := Lib.hid hg2; have AT := Lib.hid hat; clear ho2 hg2 hat; have V2 := Lib.hid (show Blk w2 46 w.heap.size #[v] from (G2.out.block _ (Nat.lt_of_lt_of_le V.out.box.lt (wbox W _).size) (fun e => V.out.ne e.symm)).trans (V.out.box.alloc _)); have c5 := V2.out.cell 0; have f5 := V2.out.free 0; simp at c5)
    have ev : Value.slice a2 (pre.length + 1) cap2 = Value.slice a2 (pre ++ [x]).length cap2 := by rw [List.length_append, List.length_singleton]
    rw [ev]
    refine ⟨?_, _, ⟨_, rfl, ⟨set_blk V2.out _, ?_, ?_⟩, ?_⟩, moves_app V.out.box G2.out AT.out O2.out _⟩
    · exact ((others_alloc W _).trans (others_row (O.out.alloc _) G2.out)).trans (KeepsOthers.setCell _ _ _)
    · have := owns_keeps (F := fun k => k = w.heap.size) O2.out ((Keeps.refl (fun k => k = w.heap.size) w2).set (.inl rfl) 0 (.slice a2 (pre ++ [x]).length cap2)) (fun g e q => by have := (World.ownsRow.lt O2.out g e).1; omega)
      rw [List.length_map]
      exact this
    · intro e
      have := (World.ownsRow.lt O2.out _ e).1
      omega
    · exact ((KK.out.alloc _).grown G2.out (fun k e => .inr (by have := (World.ownsRow.lt V.out.row k e).1; omega))).set (.inr (Nat.le_refl _)) _ _
  case done =>
    rintro D F W hD ⟨v, rfl, hbx, hk⟩ hK
    have V := Lib.hid hbx
    have KK := Lib.hid hk
    have HK := Lib.hid hK
    have hro := hbx.row
    rw [List.length_map] at hro
    obtain ⟨a1, cap1, rfl, -, hf⟩ := row_of_owns hro
    have c0 := hbx.box.cell 0
    simp at c0
    have RO := Lib.hid hro
    have FR := Lib.hid hf
    have DW := Lib.hid (show w.heap.size ≤ D from Nat.le_trans B0.out.size hD)
    clear hbx hk hK hD hro hf
    go_wp2
    have KF := KeepsC.put (N := w.heap.size) (o' := .deferred none) HK.out rfl DW.out
    refine ⟨by simp, .inl ⟨_, _, rfl, run_takeDeferred HK.out, ?_⟩⟩
    refine ⟨.slice a1 zs.length cap1, by simp [results, Try.results29, go_sem], ?_⟩
    obtain ⟨a3, cap3, e3, hr3, hf3⟩ := row_of_owns (owns_keepsC RO.out KF)
    cases e3
    exact ⟨a1, cap1, rfl, hr3, fun ad e => by have := FR.out ad e; omega, keeps_below (KK.out.keepsC KF (Nat.le_refl _))⟩
end
end Go.Proofs.Ytlcagjmppmajeaa
