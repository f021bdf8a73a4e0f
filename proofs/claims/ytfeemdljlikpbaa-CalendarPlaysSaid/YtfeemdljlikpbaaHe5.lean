/-
  A heap of events: swap of a place with itself; both: contract.
-/
import Derived.Test.YtfeemdljlikpbaaHe4
namespace Go.Proofs.Ytfeemdljlikpbaa
open Go.RowKit Go.Maps
variable {L : FuncId} {TT : TypeId} {ltb : Ev → Ev → Bool}
set_option maxRecDepth 20000 in
set_option maxHeartbeats 4000000 in
theorem swap_sameE (g b cap m i : Nat) (xs : List Te) (x : Te) (w : World) (h : HSE L TT w g (.slice (some ⟨b, 0, none⟩) xs.length cap) m xs) (hx : xs[i]? = some x) :
    Calls Try.prog 38 #[.pointer (some ⟨g, 0, none⟩), .int .i64 i, .int .i64 i] w fun e w' => e = .returned (.tuple #[]) ∧ HSE L TT w' g (.slice (some ⟨b, 0, none⟩) xs.length cap) m (swpE xs i i) ∧ Keeps (HFE g (.slice (some ⟨b, 0, none⟩) xs.length cap) m) w w' := by
  have H := Lib.hid h
  have HX := Lib.hid hx
  have AP := Lib.hid h.apart
  obtain ⟨n, hn⟩ : ∃ n, xs.length = n := ⟨_, rfl⟩
  have LN := Lib.hid hn
  have c1 := h.blk.cell 1
  have c2 := h.blk.cell 2
  simp [HVE] at c1 c2
  rw [hn] at c1
  have X := Lib.hid (owns_atE h.row hx)
  have x0 := X.out.c0
  have x1 := X.out.c1
  have x2 := X.out.c2
  have x3 := X.out.c3
  have fz : ∀ o, w.frozen? ⟨b, o, none⟩ = false := fun o => h.row.frozenAt o
  have li := lt_atE hx
  rw [hn] at li ⊢
  have nl := h.len
  rw [hn] at nl
  have i1 : (i : Int) < (n : Int) := by omega
  have i2 : 0 ≤ (i : Int) := by omega
  have bg : ¬ b = g := AP.out.1
  have gb : ¬ g = b := fun e => AP.out.1 e.symm
  clear h hx hn
  go_enter Try.func38, Try.ntmps38
  go_wp2_with fail
  go_region
  obtain ⟨W1, hW1⟩ : ∃ W1, ((((((((w.setCell ⟨b, i * 4, none⟩ (.int .i64 x.n)).setCell ⟨b, i * 4 + 1, none⟩ (.int .i64 x.e.d)).setCell ⟨b, i * 4 + 2, none⟩ (.int .i64 x.e.i)).setCell ⟨b, i * 4 + 3, none⟩ (.int .i64 x.e.k)).setCell ⟨b, i * 4, none⟩ (.int .i64 x.n)).setCell ⟨b, i * 4 + 1, none⟩ (.int .i64 x.e.d)).setCell ⟨b, i * 4 + 2, none⟩ (.int .i64 x.e.i)).setCell ⟨b, i * 4 + 3, none⟩ (.int .i64 x.e.k)).drew = W1 := ⟨_, rfl⟩
  rw [hW1]
  have R1 := Lib.hid (show W1.ownsRow 0 73 4 (.slice (some ⟨b, 0, none⟩) n cap) n ((swpE xs i i).map Te.cs).flatten by
    rw [← hW1, ← LN.out]; exact (row_twoE H.out.row HX.out HX.out).drew)
  have K1 := Lib.hid (show Keeps (fun k => k = b) w W1 by rw [← hW1]; exact (keeps_putE (keeps_putE (Keeps.refl (fun k => k = b) w))).drew)
  clear hW1 x0 x1 x2 x3 c1 c2 fz X
  obtain ⟨D, hD, hP⟩ := H.out.map
  have M1 := Lib.hid (hD.keeps K1.out AP.out.2.2)
  have B1 := Lib.hid (H.out.blk.keeps K1.out gb)
  have PL := Lib.hid hP
  have TD := Lib.hid (hD.tidy keyIE)
  clear hD hP
  have c1 := B1.out.cell 1
  have c2 := B1.out.cell 2
  simp [HVE] at c1 c2
  rw [LN.out] at c1
  have SX := Lib.hid (owns_atE R1.out (swp_iE HX.out HX.out))
  have SY := Lib.hid (owns_atE R1.out (swp_jE HX.out HX.out))
  have y0 := SX.out.c0
  go_wp2_with fail
  go_still_tail 13, (by kernel_rfl)
  have SZ1 := Lib.hid (show Maps.size D = n by rw [PL.out.size, LN.out])
  have RY := Lib.hid (H.out.rng x (List.mem_of_getElem? HX.out))
  have iR := Lib.hid (show InRE (i : Int) by unfold InRE; omega)
  refine wpList_mapUpdate_own _ rfl _ _ _ 67 rfl 3 3 keyIE Try.underlying67 (plainElem Try.prog 3) m (Maps.size D) D rfl M1.out.drew (by rw [SZ1.out]; unfold maxLen; omega) _ _ (.int .i64 x.n) rfl rfl (Maps.keyOf_int_mk Try.underlying3 (wf_i64E RY.out)) (.lit (.int .i64 i)) [] (plainElem_int Try.underlying3 (wf_i64E iR.out)) ?_
  intro W2 hown2 hgrow2
  have M2 := Lib.hid (MapPE.of hown2)
  have K2 := Lib.hid ((Keeps.of (F := fun k => k = m) ((Below.refl W1.heap.size W1).drew)).grown hgrow2 (fun k e => .inl (by cases e; rfl)))
  clear hown2 hgrow2 y0 c1 c2
  have B2 := Lib.hid (B1.out.keeps K2.out (fun e => AP.out.2.1 e.symm))
  have R2 := Lib.hid (owns_keeps R1.out K2.out (fun k e => by cases e; exact fun e => AP.out.2.2 e.symm))
  have c1 := B2.out.cell 1
  have c2 := B2.out.cell 2
  simp [HVE] at c1 c2
  rw [LN.out] at c1
  have SY2 := Lib.hid (owns_atE R2.out (swp_jE HX.out HX.out))
  have x0 := SY2.out.c0
  go_wp2_with fail
  go_still_tail 13, (by kernel_rfl)
  have TD2 := Lib.hid (TD.out.put (isKE x.n) (.lit (.int .i64 i)))
  refine wpList_mapUpdate_own _ rfl _ _ _ 67 rfl 3 3 keyIE Try.underlying67 (plainElem Try.prog 3) m _ _ rfl M2.out.drew (by rw [size_put TD.out]; split <;> rw [SZ1.out] <;> (unfold maxLen; omega)) _ _ (.int .i64 x.n) rfl rfl (Maps.keyOf_int_mk Try.underlying3 (wf_i64E RY.out)) (.lit (.int .i64 i)) [] (plainElem_int Try.underlying3 (wf_i64E iR.out)) ?_
  intro W3 hown3 hgrow3
  have M3 := Lib.hid (MapPE.of hown3)
  have K3 := Lib.hid ((Keeps.of (F := fun k => k = m) ((Below.refl W2.heap.size W2).drew)).grown hgrow3 (fun k e => .inl (by cases e; rfl)))
  clear hown3 hgrow3 x0 c1 c2
  have B3 := Lib.hid (B2.out.keeps K3.out (fun e => AP.out.2.1 e.symm))
  have R3 := Lib.hid (owns_keeps R2.out K3.out (fun k e => by cases e; exact fun e => AP.out.2.2 e.symm))
  have SL := Lib.hid (show (swpE xs i i).length = n by rw [swp_lenE, LN.out])
  go_wp2
  refine bodyPost_end (v := .tuple #[]) (by simp [results, Try.results38, go_sem]) rfl ⟨rfl, ⟨?_, ?_, ⟨_, M3.out, PL.out.swap TD.out H.out.ids HX.out HX.out⟩, H.out.ids.perm (swp_permE HX.out HX.out).symm, fun t ht => H.out.rng t ((swp_permE HX.out HX.out).mem_iff.mp ht), by rw [SL.out]; omega, H.out.typ⟩, ?_⟩
  · have := B3.out; rw [LN.out] at this; exact this
  · rw [SL.out]; exact R3.out
  · exact (((keepsFE K1.out (F := HFE g (.slice (some ⟨b, 0, none⟩) n cap) m) (fun k e => .inr (.inr (by rw [e]; rfl)))).trans (keepsFE K2.out (F := HFE g (.slice (some ⟨b, 0, none⟩) n cap) m) (fun k e => .inr (.inl e))) (fun k q => .inl q)).trans (keepsFE K3.out (F := HFE g (.slice (some ⟨b, 0, none⟩) n cap) m) (fun k e => .inr (.inl e))) (fun k q => .inl q))
theorem swap_allE (g b cap m i j : Nat) (xs : List Te) (x y : Te) (w : World) (h : HSE L TT w g (.slice (some ⟨b, 0, none⟩) xs.length cap) m xs) (hx : xs[i]? = some x) (hy : xs[j]? = some y) :
    Calls Try.prog 38 #[.pointer (some ⟨g, 0, none⟩), .int .i64 i, .int .i64 j] w fun e w' => e = .returned (.tuple #[]) ∧ HSE L TT w' g (.slice (some ⟨b, 0, none⟩) xs.length cap) m (swpE xs i j) ∧ Keeps (HFE g (.slice (some ⟨b, 0, none⟩) xs.length cap) m) w w' := by
  by_cases e : i = j
  · subst e
    exact swap_sameE g b cap m i xs x w h hx
  · exact swap_anyE g b cap m i j xs x y w h hx hy e
end Go.Proofs.Ytfeemdljlikpbaa
