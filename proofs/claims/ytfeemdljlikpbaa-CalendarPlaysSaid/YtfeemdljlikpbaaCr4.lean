/-
  The document's own calendar (regattaref08): Drop: contract.
-/
import Derived.Test.YtfeemdljlikpbaaCr3
namespace Go.Proofs.Ytfeemdljlikpbaa
open Go.RowKit

set_option maxHeartbeats 2000000 in
theorem r8drop_none (g : Nat) (F : Nat → Prop) (es : List Ev) (id kind : Int) (w : World) (h : RC w g F es) (hl : es.length ≤ 1000) (hp : placeV es id kind < 0) :
    Calls Try.prog 12 #[.pointer (some ⟨g, 0, none⟩), .int .i64 id, .int .i64 kind] w fun e w' => e = .returned (.tuple #[ev0.v, .bool false]) ∧ Below w.heap.size w w' := by
  obtain ⟨p, hpp⟩ : ∃ p, placeV es id kind = p := ⟨_, rfl⟩
  rw [hpp] at hp
  have t1 : decide (p < 0) = true := by simp; omega
  obtain ⟨W1, hW1⟩ : ∃ W1, w.alloc (.cells #[.int .i64 0, .int .i64 0, .int .i64 0] 31) = W1 := ⟨_, rfl⟩
  have B1 := Lib.hid (show Below w.heap.size w W1 by rw [← hW1]; exact wbox _ _)
  have N1 := Lib.hid (show Blk W1 31 w.heap.size #[.int .i64 0, .int .i64 0, .int .i64 0] by rw [← hW1]; exact Blk.new w _ _)
  have FI := Lib.hid (r8find_any g F es id kind W1 (h.below B1.out) hl)
  rw [hpp] at FI
  have x0 := N1.out.cell 0
  have x1 := N1.out.cell 1
  have x2 := N1.out.cell 2
  have fx : ∀ o, W1.frozen? ⟨w.heap.size, o, none⟩ = false := fun o => N1.out.free o
  simp at x0 x1 x2
  have sz := N1.out.lt
  clear h hl hpp hp
  go_enter Try.func12, Try.ntmps12
  go_wp2_with fail
  refine FI.out.mono ?_
  rintro e w1 ⟨rfl, rfl⟩
  go_wp2
  exact bodyPost_ret (v := .tuple #[.agg #[.int .i64 0, .int .i64 0, .int .i64 0], .bool false]) (by simp [results, Try.results12, go_sem, x0, x1, x2]) rfl ⟨rfl, ((B1.out.setCell (by simp) _).setCell (by simp) _).setCell (by simp) _⟩
/-- append of a row of events to what is owned -/
theorem app_events {w : World} {ops : Array Oper} {rest : List Oper} {o : Oper} {act : Act} {Q : Exit → Act → World → Prop} (hgd : o.guard = none) (s x : Operand)
    (ho : o.op = .call { callee := .builtin .append, args := #[s, x], argTypes := #[27, 27] }) (base : Nat)
    (v : Value) (ns : List Ev) (hs : act.eval s = v) (hown : w.ownsRow base 31 3 v ns.length (ns.map Ev.cs).flatten) (A : Option Addr) (m c : Nat) (es : List Ev) (hx : act.eval x = .slice A m c) (hr : RowV w A m c es) (hb : base ≤ w.heap.size) (hsm : ns.length + m ≤ 100000)
    (h : ∀ v' w', w'.ownsRow base 31 3 v' (ns ++ es).length ((ns ++ es).map Ev.cs).flatten → w.grownBy w' v.ownBlock → wpList Try.prog ops Q rest (act.put o.dst v') w') : wpList Try.prog ops Q (o :: rest) act w := by
  obtain ⟨i0, hi, hz0, hz1, hz2⟩ := info_parts Try.infoV
  have hm := hr.len
  refine wpList_append_rowF hgd s x _ ho base 31 i0 _ 3 24 Try.underlying27 hi hz0 hz1 hz2 rfl (by decide) (by decide) v (ns.map Ev.cs) ns.length hs hown A m c (es.map Ev.cs) hx hr (wideV es) (oneV es) hb hsm ?_
  intro v2 w2 ho2 hg2
  refine h v2 w2 ?_ hg2
  rw [List.length_append, hm, List.map_append]
  exact ho2
theorem owns_addr {W : World} {base n cap : Nat} {e : TypeId} {size : Nat} {a : Option Addr} {m : Nat} {xs : List Value} (h : W.ownsRow base e size (.slice a m cap) n xs) : ∀ ad : Addr, a = some ad → base ≤ ad.block ∧ ad.block < W.heap.size ∧ ad.spot = none := fun ad q => by
  rcases h.2 with ⟨hv, _⟩ | ⟨g, cap', cur, hv, hbg, hg, _⟩
  · cases hv; cases q
  · cases hv
    cases q
    exact ⟨hbg, (h.lt g rfl).2, rfl⟩
theorem erase_parts (es : List Ev) (k : Nat) : es.take k ++ es.drop (k + 1) = es.eraseIdx k := (List.eraseIdx_eq_take_drop_succ es k).symm
set_option maxHeartbeats 4000000 in
theorem r8drop_some (g : Nat) (F : Nat → Prop) (es : List Ev) (id kind : Int) (k : Nat) (x : Ev) (w : World) (h : RC w g F es) (hl : es.length ≤ 1000) (hp : placeV es id kind = k) (hx : es[k]? = some x) :
    Calls Try.prog 12 #[.pointer (some ⟨g, 0, none⟩), .int .i64 id, .int .i64 kind] w fun e w' => e = .returned (.tuple #[x.v, .bool true]) ∧ ∃ F', RC w' g F' (es.eraseIdx k) ∧ Moves F F' w w' := by
  obtain ⟨W1, hW1⟩ : ∃ W1, w.alloc (.cells #[.int .i64 0, .int .i64 0, .int .i64 0] 31) = W1 := ⟨_, rfl⟩
  have B1 := Lib.hid (show Below w.heap.size w W1 by rw [← hW1]; exact wbox _ _)
  have N1 := Lib.hid (show Blk W1 31 w.heap.size #[.int .i64 0, .int .i64 0, .int .i64 0] by rw [← hW1]; exact Blk.new w _ _)
  have H1 := Lib.hid (h.below B1.out)
  have FI := Lib.hid (r8find_any g F es id kind W1 H1.out hl)
  rw [hp] at FI
  obtain ⟨W2, hW2⟩ : ∃ W2, W1.alloc (.cells #[.int .i64 x.d, .int .i64 x.i, .int .i64 x.k] 31) = W2 := ⟨_, rfl⟩
  have B2 := Lib.hid (show Below W1.heap.size W1 W2 by rw [← hW2]; exact wbox _ _)
  have E2 := Lib.hid (show Blk W2 31 W1.heap.size #[.int .i64 x.d, .int .i64 x.i, .int .i64 x.k] by rw [← hW2]; exact Blk.new W1 _ _)
  have N2 := Lib.hid (N1.out.below B2.out)
  obtain ⟨a, cap, hb, hr, hF, hlt⟩ := H1.out
  have kl : k < es.length := by
    rcases Nat.lt_or_ge k es.length with q | q
    · exact q
    · rw [List.getElem?_eq_none q] at hx; cases hx
  have G1 := Lib.hid hb
  have G2 := Lib.hid (hb.below B2.out)
  have c0 := hb.cell 0
  simp at c0
  obtain ⟨bl, ol, rfl, hat⟩ := hr.at hx
  have x0 := hat.c0; have x1 := hat.c1; have x2 := hat.c2
  obtain ⟨len, hlen⟩ : ∃ len, es.length = len := ⟨_, rfl⟩
  rw [hlen] at hr hl c0 kl G1 G2
  have lc := hr.cap_le
  have R1 := Lib.hid hr
  have R2 := Lib.hid (hr.below B2.out)
  have HF := Lib.hid hF
  have GN := Lib.hid (hlt _ rfl)
  have LN := Lib.hid hlen
  have t1 : decide ((k : Int) < 0) = false := decide_eq_false (by omega)
  have k1 : (k : Int) < (len : Int) := by omega
  have k2 : 0 ≤ (k : Int) := by omega
  have sz1 := N1.out.lt
  have sz2 := E2.out.lt
  have gl := G1.out.lt
  have TK := Lib.hid (R2.out.take (m := k) (by omega))
  have TL := Lib.hid (show (es.take k).length = k by rw [List.length_take, LN.out]; omega)
  have O0 := Lib.hid (World.ownsRow_nil W2 W2.heap.size 31 3)
  have TR := Lib.hid (show ∀ W : World, Below W2.heap.size W2 W → (cap = k + 1 → RowV W (some ⟨bl, ol, none⟩) 0 0 (es.drop (k + 1))) ∧ RowV W (some ⟨bl, ol + (k + 1) * 3, none⟩) (len - (k + 1)) (cap - (k + 1)) (es.drop (k + 1)) from fun W hB => by
    refine ⟨fun e => ?_, ?_⟩
    · have : es.drop (k + 1) = [] := List.drop_eq_nil_of_le (by rw [LN.out]; omega)
      rw [this]
      exact ⟨rfl, by omega, by omega, (fun e => by cases e), fun j hj => by omega⟩
    · have := RowF.dropped (m := k + 1) (R2.out.below hB) (by omega)
      unfold RowV
      rw [List.map_drop]
      exact this)
  have gl0 : g < w.heap.size := by obtain ⟨_, _, q, _⟩ := h; exact q.lt
  have d0 := G2.out.cell 0
  simp at d0
  have n1 : ¬ g = w.heap.size := by omega
  have n2 : ¬ g = W1.heap.size := by omega
  have n3 : ¬ W1.heap.size = w.heap.size := by omega
  have n4 : ¬ w.heap.size = g := by omega
  have n5 : ¬ W1.heap.size = g := by omega
  have n6 : ¬ w.heap.size = W1.heap.size := by omega
  have DL := Lib.hid (show (es.drop (k + 1)).length = len - (k + 1) by rw [List.length_drop, LN.out])
  have ER := Lib.hid (erase_parts es k)
  have KS := Lib.hid (Keeps.next (F := F) (Keeps.of B1.out) B2.out)
  have FG := Lib.hid ((HF.out g).mpr (.inl rfl))
  have SHUT := Lib.hid (show ∀ (w3 w4 : World) (v1 : Value) (a2 : Option Addr) (cap2 : Nat), w3.ownsRow W2.heap.size 31 3 v1 (es.take k).length ((es.take k).map Ev.cs).flatten → W2.grownBy w3 (Value.slice none 0 0).ownBlock → w4.ownsRow W2.heap.size 31 3 (.slice a2 (es.eraseIdx k).length cap2) (es.eraseIdx k).length ((es.eraseIdx k).map Ev.cs).flatten → w3.grownBy w4 v1.ownBlock → RowV w4 a2 (es.eraseIdx k).length cap2 (es.eraseIdx k) → Fresh W2.heap.size a2 → Blk w4 29 g #[.slice (some ⟨bl, ol, none⟩) len cap] → ∀ w', w' = (((w4.setCell ⟨g, 0, none⟩ (.slice a2 (es.eraseIdx k).length cap2)).setCell ⟨w.heap.size, 0, none⟩ (.int .i64 x.d)).setCell ⟨w.heap.size, 1, none⟩ (.int .i64 x.i)).setCell ⟨w.heap.size, 2, none⟩ (.int .i64 x.k) → ∃ F', RC w' g F' (es.eraseIdx k) ∧ Moves F F' w w' from fun w3 w4 v1 a2 cap2 ho1 hg1 ho2 hg2 hr4 hf4 hb4 w' hw => by
    have K4 : Keeps F w w4 := (KS.out.grown hg1 (fun k e => by cases e)).grown hg2 (fun k e => .inr (by have := (ho1.lt k e).1; omega))
    have KW : Keeps (fun x => x = g ∨ x = w.heap.size) w4 w' := by rw [hw]; exact ((((Keeps.refl _ w4).set (.inl (.inl rfl)) 0 _).set (.inl (.inr rfl)) 0 _).set (.inl (.inr rfl)) 1 _).set (.inl (.inr rfl)) 2 _
    have BG : Blk w' 29 g #[.slice a2 (es.eraseIdx k).length cap2] := by
      rw [hw]
      have q : Blk (w4.setCell ⟨g, 0, none⟩ (.slice a2 (es.eraseIdx k).length cap2)) 29 g #[.slice a2 (es.eraseIdx k).length cap2] := by simpa using hb4.setBE 0 (.slice a2 (es.eraseIdx k).length cap2)
      have kk : Keeps (fun x => x = w.heap.size) (w4.setCell ⟨g, 0, none⟩ (.slice a2 (es.eraseIdx k).length cap2)) ((((w4.setCell ⟨g, 0, none⟩ (.slice a2 (es.eraseIdx k).length cap2)).setCell ⟨w.heap.size, 0, none⟩ (.int .i64 x.d)).setCell ⟨w.heap.size, 1, none⟩ (.int .i64 x.i)).setCell ⟨w.heap.size, 2, none⟩ (.int .i64 x.k)) := (((Keeps.refl (fun x => x = w.heap.size) _).set (.inl rfl) 0 _).set (.inl rfl) 1 _).set (.inl rfl) 2 _
      exact q.keeps kk n1
    have AD : ∀ ad : Addr, a2 = some ad → W2.heap.size ≤ ad.block ∧ ad.block < w4.heap.size ∧ ad.spot = none := owns_addr ho2
    refine ⟨(fun x => x = g ∨ ∃ ad : Addr, a2 = some ad ∧ ad.block = x), ⟨a2, cap2, BG, RowF.keeps hr4 (wideV _) (by decide) KW (fun ad e => ?_), fun _ => Iff.rfl, fun ad e => ?_⟩, ⟨?_, fun x q => ?_, fun x q => ?_⟩⟩
    · have := AD ad e
      intro q
      rcases q with q | q <;> omega
    · have := AD ad e
      exact ⟨by omega, Nat.lt_of_lt_of_le this.2.1 KW.size, this.2.2⟩
    · rw [hw]
      exact (((K4.set (.inl FG.out) 0 _).set (.inr (Nat.le_refl _)) 0 _).set (.inr (Nat.le_refl _)) 1 _).set (.inr (Nat.le_refl _)) 2 _
    · rcases q with q | ⟨ad, q, q'⟩
      · subst q; exact .inl FG.out
      · have := AD ad q
        exact .inr (by omega)
    · rcases q with q | ⟨ad, q, q'⟩
      · subst q; exact BG.lt
      · have := AD ad q
        exact q' ▸ Nat.lt_of_lt_of_le this.2.1 KW.size)
  clear h hb hr hF hlt hat hx hp hlen
  by_cases cz : cap = k + 1
  · have TR1 := Lib.hid (fun (W : World) (h : Below W2.heap.size W2 W) => (TR.out W h).1 cz)
    obtain rfl : len = k + 1 := by omega
    subst cz
    go_enter Try.func12, Try.ntmps12
    go_wp2_with fail
    refine FI.out.mono ?_
    rintro e w1 ⟨rfl, rfl⟩
    go_wp2_with (first | (at_builtin; refine app_events rfl _ _ rfl W2.heap.size _ [] rfl O0.out _ _ _ (es.take k) rfl TK.out (Nat.le_refl _) (by simp; omega) ?_; intro v1 w3 hown1 hgrow1; rw [List.nil_append] at hown1; have HO1 := Lib.hid hown1; have HG1 := Lib.hid hgrow1; have B3 := Lib.hid (show Below W2.heap.size W2 w3 from (Below.refl _ _).grown hgrow1 (Nat.le_refl _) (fun g hg => by cases hg)); have d3 := (G2.out.below B3.out).cell 0; simp at d3; have RT := Lib.hid (TR1.out w3 B3.out); have hw3 := B3.out.size; clear hown1 hgrow1) | (at_builtin; refine app_events rfl _ _ rfl W2.heap.size _ (es.take k) rfl HO1.out _ _ _ (es.drop (k + 1)) rfl RT.out hw3 (by rw [TL.out]; omega) ?_; intro v2 w4 hown2 hgrow2; rw [ER.out] at hown2; obtain ⟨a2, cap2, hv, hrow, hfr⟩ := rowV_of_owns hown2 rfl; subst hv; have R4 := Lib.hid hrow; have F4 := Lib.hid hfr; have HO2 := Lib.hid hown2; have HG2 := Lib.hid hgrow2; have B4 := Lib.hid (show Below W2.heap.size W2 w4 from B3.out.grown hgrow2 B3.out.size (fun g hg => (HO1.out.lt g hg).1)); have G4 := Lib.hid (G2.out.below B4.out); have E4 := Lib.hid (E2.out.below B4.out); have N4 := Lib.hid (N2.out.below B4.out); have f4 := G4.out.free 0; have d4 := G4.out.cell 0; simp at d4; have e0 := E4.out.cell 0; have e1 := E4.out.cell 1; have e2 := E4.out.cell 2; have y0 := N4.out.cell 0; have y1 := N4.out.cell 1; have y2 := N4.out.cell 2; have fy : (∀ o, w4.frozen? ⟨w.heap.size, o, none⟩ = false) := (fun o => N4.out.free o); simp at e0 e1 e2 y0 y1 y2; clear hown2 hgrow2 hrow hfr))
    refine bodyPost_ret (v := .tuple #[.agg #[.int .i64 x.d, .int .i64 x.i, .int .i64 x.k], .bool true]) (by simp [results, Try.results12, go_sem, y0, y1, y2]) rfl ⟨rfl, ?_⟩
    exact SHUT.out w3 w4 v1 a2 cap2 HO1.out HG1.out HO2.out HG2.out R4.out F4.out G4.out _ rfl
  · have cz' : ¬ k + 1 = cap := fun e => cz e.symm
    go_enter Try.func12, Try.ntmps12
    go_wp2_with fail
    refine FI.out.mono ?_
    rintro e w1 ⟨rfl, rfl⟩
    go_wp2_with (first | (at_builtin; refine app_events rfl _ _ rfl W2.heap.size _ [] rfl O0.out _ _ _ (es.take k) rfl TK.out (Nat.le_refl _) (by simp; omega) ?_; intro v1 w3 hown1 hgrow1; rw [List.nil_append] at hown1; have HO1 := Lib.hid hown1; have HG1 := Lib.hid hgrow1; have B3 := Lib.hid (show Below W2.heap.size W2 w3 from (Below.refl _ _).grown hgrow1 (Nat.le_refl _) (fun g hg => by cases hg)); have d3 := (G2.out.below B3.out).cell 0; simp at d3; have RT := Lib.hid (TR.out w3 B3.out).2; have hw3 := B3.out.size; clear hown1 hgrow1) | (at_builtin; refine app_events rfl _ _ rfl W2.heap.size _ (es.take k) rfl HO1.out _ _ _ (es.drop (k + 1)) rfl RT.out hw3 (by rw [TL.out]; omega) ?_; intro v2 w4 hown2 hgrow2; rw [ER.out] at hown2; obtain ⟨a2, cap2, hv, hrow, hfr⟩ := rowV_of_owns hown2 rfl; subst hv; have R4 := Lib.hid hrow; have F4 := Lib.hid hfr; have HO2 := Lib.hid hown2; have HG2 := Lib.hid hgrow2; have B4 := Lib.hid (show Below W2.heap.size W2 w4 from B3.out.grown hgrow2 B3.out.size (fun g hg => (HO1.out.lt g hg).1)); have G4 := Lib.hid (G2.out.below B4.out); have E4 := Lib.hid (E2.out.below B4.out); have N4 := Lib.hid (N2.out.below B4.out); have f4 := G4.out.free 0; have d4 := G4.out.cell 0; simp at d4; have e0 := E4.out.cell 0; have e1 := E4.out.cell 1; have e2 := E4.out.cell 2; have y0 := N4.out.cell 0; have y1 := N4.out.cell 1; have y2 := N4.out.cell 2; have fy : (∀ o, w4.frozen? ⟨w.heap.size, o, none⟩ = false) := (fun o => N4.out.free o); simp at e0 e1 e2 y0 y1 y2; clear hown2 hgrow2 hrow hfr))
    refine bodyPost_ret (v := .tuple #[.agg #[.int .i64 x.d, .int .i64 x.i, .int .i64 x.k], .bool true]) (by simp [results, Try.results12, go_sem, y0, y1, y2]) rfl ⟨rfl, ?_⟩
    exact SHUT.out w3 w4 v1 a2 cap2 HO1.out HG1.out HO2.out HG2.out R4.out F4.out G4.out _ rfl
/-- Drop -/
theorem r8drop_any (g : Nat) (F : Nat → Prop) (es : List Ev) (id kind : Int) (w : World) (h : RC w g F es) (hl : es.length ≤ 1000) :
    Calls Try.prog 12 #[.pointer (some ⟨g, 0, none⟩), .int .i64 id, .int .i64 kind] w
      fun e w' => (placeV es id kind = -1 ∧ e = .returned (.tuple #[ev0.v, .bool false]) ∧ Below w.heap.size w w') ∨ (∃ (k : Nat) (x : Ev), placeV es id kind = k ∧ es[k]? = some x ∧ e = .returned (.tuple #[x.v, .bool true]) ∧ ∃ F', RC w' g F' (es.eraseIdx k) ∧ Moves F F' w w') := by
  have pb := placeV_bound es id kind
  rcases Int.lt_or_le (placeV es id kind) 0 with q | q
  · refine (r8drop_none g F es id kind w h hl q).mono ?_
    rintro e w' ⟨rfl, hb⟩
    exact .inl ⟨by omega, rfl, hb⟩
  · obtain ⟨k, hk⟩ : ∃ k : Nat, placeV es id kind = k := ⟨(placeV es id kind).toNat, by omega⟩
    obtain ⟨x, hx⟩ := getV (es := es) (i := k) (by omega)
    refine (r8drop_some g F es id kind k x w h hl hk hx).mono ?_
    rintro e w' ⟨rfl, hr⟩
    exact .inr ⟨k, x, hk, hx, rfl, hr⟩
end Go.Proofs.Ytfeemdljlikpbaa
