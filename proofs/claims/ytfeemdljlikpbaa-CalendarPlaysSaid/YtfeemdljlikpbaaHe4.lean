/-
  Package heap as landed: swap: contract.
-/
import Derived.Test.YtfeemdljlikpbaaHe3
namespace Go.Proofs.Ytfeemdljlikpbaa
open Go.RowKit Go.Maps
variable {L : FuncId} {TT : TypeId} {ltb : Ev → Ev → Bool}

theorem HSE.slice {w : World} {g : Nat} {v : Value} {m : Nat} {xs : List Te} (h : HSE L TT w g v m xs) (h0 : 0 < xs.length) : ∃ b cap, v = .slice (some ⟨b, 0, none⟩) xs.length cap := by
  rcases h.row.2 with ⟨_, h1⟩ | ⟨b, cap, _, hv, _⟩
  · omega
  · exact ⟨b, cap, hv⟩
theorem HSE.apart {w : World} {g b n cap : Nat} {m : Nat} {xs : List Te} (h : HSE L TT w g (.slice (some ⟨b, 0, none⟩) n cap) m xs) : b ≠ g ∧ m ≠ g ∧ m ≠ b := by
  obtain ⟨D, ⟨es, clock, hm, _⟩, _⟩ := h.map
  have hb := h.blk
  unfold Blk at hb
  rcases h.row.2 with ⟨h1, _⟩ | ⟨b', cap', cur, hv, _, hr, _⟩
  · cases h1
  · cases hv
    refine ⟨fun e => ?_, fun e => ?_, fun e => ?_⟩
    · subst e; rw [hr] at hb; simp only [Option.some.injEq, Obj.cells.injEq] at hb; exact h.typ hb.2.1.symm
    · subst e; rw [hm] at hb; simp at hb
    · subst e; rw [hm] at hr; simp at hr
theorem MapPE.keeps {F : Nat → Prop} {w w' : World} {m : Nat} {D : DataW Unit} (h : MapPE w m D) (k : Keeps F w w') (hm : ¬ F m) : MapPE w' m D := by
  obtain ⟨es, clock, hb, r⟩ := h
  exact ⟨es, clock, by rw [k.block m (Array.getElem?_eq_some_iff.1 hb).1 hm]; exact hb, r⟩
theorem keepsFE {G F : Nat → Prop} {w w' : World} (h : Keeps G w w') (hg : ∀ k, G k → F k) : Keeps F w w' := ⟨h.os, h.tape, h.output, h.size, fun k hk hf => h.block k hk (fun e => hf (hg k e))⟩
theorem row_twoE {w : World} {b n cap : Nat} {xs : List Te} {i j : Nat} {x y : Te} (h : w.ownsRow 0 73 4 (.slice (some ⟨b, 0, none⟩) n cap) n (xs.map Te.cs).flatten) (hx : xs[i]? = some x) (hy : xs[j]? = some y) :
    (putE (putE w b i y) b j x).ownsRow 0 73 4 (.slice (some ⟨b, 0, none⟩) n cap) n ((swpE xs i j).map Te.cs).flatten := by
  rw [swp_isE hx hy]
  exact owns_putE (owns_putE h i y (lt_atE hx)) j x (by rw [List.length_set]; exact lt_atE hy)
set_option maxRecDepth 20000 in
set_option maxHeartbeats 4000000 in
theorem swap_anyE (g b cap m i j : Nat) (xs : List Te) (x y : Te) (w : World) (h : HSE L TT w g (.slice (some ⟨b, 0, none⟩) xs.length cap) m xs) (hx : xs[i]? = some x) (hy : xs[j]? = some y) (hij : ¬ i = j) :
    Calls Try.prog 38 #[.pointer (some ⟨g, 0, none⟩), .int .i64 i, .int .i64 j] w fun e w' => e = .returned (.tuple #[]) ∧ HSE L TT w' g (.slice (some ⟨b, 0, none⟩) xs.length cap) m (swpE xs i j) ∧ Keeps (HFE g (.slice (some ⟨b, 0, none⟩) xs.length cap) m) w w' := by
  have H := Lib.hid h
  have HX := Lib.hid hx
  have HY := Lib.hid hy
  have AP := Lib.hid h.apart
  obtain ⟨n, hn⟩ : ∃ n, xs.length = n := ⟨_, rfl⟩
  have LN := Lib.hid hn
  have c1 := h.blk.cell 1
  have c2 := h.blk.cell 2
  simp [HVE] at c1 c2
  rw [hn] at c1
  have X := Lib.hid (owns_atE h.row hx)
  have Y := Lib.hid (owns_atE h.row hy)
  have x0 := X.out.c0
  have x1 := X.out.c1
  have x2 := X.out.c2
  have x3 := X.out.c3
  have y0 := Y.out.c0
  have y1 := Y.out.c1
  have y2 := Y.out.c2
  have y3 := Y.out.c3
  have fz : ∀ o, w.frozen? ⟨b, o, none⟩ = false := fun o => h.row.frozenAt o
  have li := lt_atE hx
  have lj := lt_atE hy
  rw [hn] at li lj ⊢
  have nl := h.len
  rw [hn] at nl
  have i1 : (i : Int) < (n : Int) := by omega
  have i2 : 0 ≤ (i : Int) := by omega
  have j1 : (j : Int) < (n : Int) := by omega
  have j2 : 0 ≤ (j : Int) := by omega
  have e1 : ¬ j = i := by omega
  have e01 : ¬ i * 4 = j * 4 + 1 := by omega
  have f01 : ¬ j * 4 + 1 = i * 4 := by omega
  have e02 : ¬ i * 4 = j * 4 + 2 := by omega
  have f02 : ¬ j * 4 + 2 = i * 4 := by omega
  have e03 : ¬ i * 4 = j * 4 + 3 := by omega
  have f03 : ¬ j * 4 + 3 = i * 4 := by omega
  have e10 : ¬ i * 4 + 1 = j * 4 := by omega
  have f10 : ¬ j * 4 = i * 4 + 1 := by omega
  have e12 : ¬ i * 4 + 1 = j * 4 + 2 := by omega
  have f12 : ¬ j * 4 + 2 = i * 4 + 1 := by omega
  have e13 : ¬ i * 4 + 1 = j * 4 + 3 := by omega
  have f13 : ¬ j * 4 + 3 = i * 4 + 1 := by omega
  have e20 : ¬ i * 4 + 2 = j * 4 := by omega
  have f20 : ¬ j * 4 = i * 4 + 2 := by omega
  have e21 : ¬ i * 4 + 2 = j * 4 + 1 := by omega
  have f21 : ¬ j * 4 + 1 = i * 4 + 2 := by omega
  have e23 : ¬ i * 4 + 2 = j * 4 + 3 := by omega
  have f23 : ¬ j * 4 + 3 = i * 4 + 2 := by omega
  have e30 : ¬ i * 4 + 3 = j * 4 := by omega
  have f30 : ¬ j * 4 = i * 4 + 3 := by omega
  have e31 : ¬ i * 4 + 3 = j * 4 + 1 := by omega
  have f31 : ¬ j * 4 + 1 = i * 4 + 3 := by omega
  have e32 : ¬ i * 4 + 3 = j * 4 + 2 := by omega
  have f32 : ¬ j * 4 + 2 = i * 4 + 3 := by omega
  have bg : ¬ b = g := AP.out.1
  have gb : ¬ g = b := fun e => AP.out.1 e.symm
  clear h hx hy hn
  go_enter Try.func38, Try.ntmps38
  go_wp2_with fail
  go_region
  obtain ⟨W1, hW1⟩ : ∃ W1, ((((((((w.setCell ⟨b, i * 4, none⟩ (.int .i64 y.n)).setCell ⟨b, i * 4 + 1, none⟩ (.int .i64 y.e.d)).setCell ⟨b, i * 4 + 2, none⟩ (.int .i64 y.e.i)).setCell ⟨b, i * 4 + 3, none⟩ (.int .i64 y.e.k)).setCell ⟨b, j * 4, none⟩ (.int .i64 x.n)).setCell ⟨b, j * 4 + 1, none⟩ (.int .i64 x.e.d)).setCell ⟨b, j * 4 + 2, none⟩ (.int .i64 x.e.i)).setCell ⟨b, j * 4 + 3, none⟩ (.int .i64 x.e.k)).drew = W1 := ⟨_, rfl⟩
  rw [hW1]
  have R1 := Lib.hid (show W1.ownsRow 0 73 4 (.slice (some ⟨b, 0, none⟩) n cap) n ((swpE xs i j).map Te.cs).flatten by
    rw [← hW1, ← LN.out]; exact (row_twoE H.out.row HX.out HY.out).drew)
  have K1 := Lib.hid (show Keeps (fun k => k = b) w W1 by rw [← hW1]; exact (keeps_putE (keeps_putE (Keeps.refl (fun k => k = b) w))).drew)
  clear hW1 x0 x1 x2 x3 y0 y1 y2 y3 c1 c2 fz e1 e01 f01 e02 f02 e03 f03 e10 f10 e12 f12 e13 f13 e20 f20 e21 f21 e23 f23 e30 f30 e31 f31 e32 f32 X Y
  obtain ⟨D, hD, hP⟩ := H.out.map
  have M1 := Lib.hid (hD.keeps K1.out AP.out.2.2)
  have B1 := Lib.hid (H.out.blk.keeps K1.out gb)
  have PL := Lib.hid hP
  have TD := Lib.hid (hD.tidy keyIE)
  clear hD hP
  have c1 := B1.out.cell 1
  have c2 := B1.out.cell 2
  simp [HVE] at c1 c2
  rw [LN.out] at c1
  have SX := Lib.hid (owns_atE R1.out (swp_iE HX.out HY.out))
  have SY := Lib.hid (owns_atE R1.out (swp_jE HX.out HY.out))
  have y0 := SX.out.c0
  go_wp2_with fail
  go_still_tail 13, (by kernel_rfl)
  have SZ1 := Lib.hid (show Maps.size D = n by rw [PL.out.size, LN.out])
  have RY := Lib.hid (H.out.rng y (List.mem_of_getElem? HY.out))
  have RX := Lib.hid (H.out.rng x (List.mem_of_getElem? HX.out))
  have iR := Lib.hid (show InRE (i : Int) by unfold InRE; omega)
  have jR := Lib.hid (show InRE (j : Int) by unfold InRE; omega)
  refine wpList_mapUpdate_own _ rfl _ _ _ 67 rfl 3 3 keyIE Try.underlying67 (plainElem Try.prog 3) m (Maps.size D) D rfl M1.out.drew (by rw [SZ1.out]; unfold maxLen; omega) _ _ (.int .i64 y.n) rfl rfl (Maps.keyOf_int_mk Try.underlying3 (wf_i64E RY.out)) (.lit (.int .i64 i)) [] (plainElem_int Try.underlying3 (wf_i64E iR.out)) ?_
  intro W2 hown2 hgrow2
  have M2 := Lib.hid (MapPE.of hown2)
  have K2 := Lib.hid ((Keeps.of (F := fun k => k = m) ((Below.refl W1.heap.size W1).drew)).grown hgrow2 (fun k e => .inl (by cases e; rfl)))
  clear hown2 hgrow2 y0 c1 c2
  have B2 := Lib.hid (B1.out.keeps K2.out (fun e => AP.out.2.1 e.symm))
  have R2 := Lib.hid (owns_keeps R1.out K2.out (fun k e => by cases e; exact fun e => AP.out.2.2 e.symm))
  have c1 := B2.out.cell 1
  have c2 := B2.out.cell 2
  simp [HVE] at c1 c2
  rw [LN.out] at c1
  have SY2 := Lib.hid (owns_atE R2.out (swp_jE HX.out HY.out))
  have x0 := SY2.out.c0
  go_wp2_with fail
  go_still_tail 13, (by kernel_rfl)
  have TD2 := Lib.hid (TD.out.put (isKE y.n) (.lit (.int .i64 i)))
  refine wpList_mapUpdate_own _ rfl _ _ _ 67 rfl 3 3 keyIE Try.underlying67 (plainElem Try.prog 3) m _ _ rfl M2.out.drew (by rw [size_put TD.out]; split <;> rw [SZ1.out] <;> (unfold maxLen; omega)) _ _ (.int .i64 x.n) rfl rfl (Maps.keyOf_int_mk Try.underlying3 (wf_i64E RX.out)) (.lit (.int .i64 j)) [] (plainElem_int Try.underlying3 (wf_i64E jR.out)) ?_
  intro W3 hown3 hgrow3
  have M3 := Lib.hid (MapPE.of hown3)
  have K3 := Lib.hid ((Keeps.of (F := fun k => k = m) ((Below.refl W2.heap.size W2).drew)).grown hgrow3 (fun k e => .inl (by cases e; rfl)))
  clear hown3 hgrow3 x0 c1 c2
  have B3 := Lib.hid (B2.out.keeps K3.out (fun e => AP.out.2.1 e.symm))
  have R3 := Lib.hid (owns_keeps R2.out K3.out (fun k e => by cases e; exact fun e => AP.out.2.2 e.symm))
  have SL := Lib.hid (show (swpE xs i j).length = n by rw [swp_lenE, LN.out])
  go_wp2
  refine bodyPost_end (v := .tuple #[]) (by simp [results, Try.results38, go_sem]) rfl ⟨rfl, ⟨?_, ?_, ⟨_, M3.out, PL.out.swap TD.out H.out.ids HX.out HY.out⟩, H.out.ids.perm (swp_permE HX.out HY.out).symm, fun t ht => H.out.rng t ((swp_permE HX.out HY.out).mem_iff.mp ht), by rw [SL.out]; omega, H.out.typ⟩, ?_⟩
  · have := B3.out; rw [LN.out] at this; exact this
  · rw [SL.out]; exact R3.out
  · exact (((keepsFE K1.out (F := HFE g (.slice (some ⟨b, 0, none⟩) n cap) m) (fun k e => .inr (.inr (by rw [e]; rfl)))).trans (keepsFE K2.out (F := HFE g (.slice (some ⟨b, 0, none⟩) n cap) m) (fun k e => .inr (.inl e))) (fun k q => .inl q)).trans (keepsFE K3.out (F := HFE g (.slice (some ⟨b, 0, none⟩) n cap) m) (fun k e => .inr (.inl e))) (fun k q => .inl q))
end Go.Proofs.Ytfeemdljlikpbaa
