/-
  Package heap as landed: swap: contract.
-/
import Derived.Test.YtimafmalfmeehaaHx3
namespace Go.Proofs.Ytimafmalfmeehaa
open Go.RowKit Go.Maps

theorem HS.slice {w : World} {g : Nat} {v : Value} {m : Nat} {xs : List Th} (h : HS w g v m xs) (h0 : 0 < xs.length) : ∃ b cap, v = .slice (some ⟨b, 0, none⟩) xs.length cap := by
  rcases h.row.2 with ⟨_, h1⟩ | ⟨b, cap, _, hv, _⟩
  · omega
  · exact ⟨b, cap, hv⟩
theorem HS.apart {w : World} {g b n cap : Nat} {m : Nat} {xs : List Th} (h : HS w g (.slice (some ⟨b, 0, none⟩) n cap) m xs) : b ≠ g ∧ m ≠ g ∧ m ≠ b := by
  obtain ⟨D, ⟨es, clock, hm, _⟩, _⟩ := h.map
  have hb := h.blk
  unfold Blk at hb
  rcases h.row.2 with ⟨h1, _⟩ | ⟨b', cap', cur, hv, _, hr, _⟩
  · cases h1
  · cases hv
    refine ⟨fun e => ?_, fun e => ?_, fun e => ?_⟩
    · subst e; rw [hr] at hb; simp at hb
    · subst e; rw [hm] at hb; simp at hb
    · subst e; rw [hm] at hr; simp at hr
theorem MapP.keeps {F : Nat → Prop} {w w' : World} {m : Nat} {D : DataW Unit} (h : MapP w m D) (k : Keeps F w w') (hm : ¬ F m) : MapP w' m D := by
  obtain ⟨es, clock, hb, r⟩ := h
  exact ⟨es, clock, by rw [k.block m (Array.getElem?_eq_some_iff.1 hb).1 hm]; exact hb, r⟩
theorem keepsF {G F : Nat → Prop} {w w' : World} (h : Keeps G w w') (hg : ∀ k, G k → F k) : Keeps F w w' := ⟨h.os, h.tape, h.output, h.size, fun k hk hf => h.block k hk (fun e => hf (hg k e))⟩
theorem row_two {w : World} {b n cap : Nat} {xs : List Th} {i j : Nat} {x y : Th} (h : w.ownsRow 0 57 2 (.slice (some ⟨b, 0, none⟩) n cap) n (xs.map Th.cs).flatten) (hx : xs[i]? = some x) (hy : xs[j]? = some y) :
    ((((w.setCell ⟨b, i * 2, none⟩ (.int .i64 y.id)).setCell ⟨b, i * 2 + 1, none⟩ (.int .i64 y.x)).setCell ⟨b, j * 2, none⟩ (.int .i64 x.id)).setCell ⟨b, j * 2 + 1, none⟩ (.int .i64 x.x)).ownsRow 0 57 2 (.slice (some ⟨b, 0, none⟩) n cap) n ((swp xs i j).map Th.cs).flatten := by
  rw [swp_is hx hy]
  exact owns_put (owns_put h i y (lt_at hx)) j x (by rw [List.length_set]; exact lt_at hy)
theorem keeps4 {w W : World} {g a0 a1 b0 b1 : Nat} {u0 u1 v0 v1 : Value} (h : Keeps (fun k => k = g) w W) :
    Keeps (fun k => k = g) w ((((W.setCell ⟨g, a0, none⟩ u0).setCell ⟨g, a1, none⟩ u1).setCell ⟨g, b0, none⟩ v0).setCell ⟨g, b1, none⟩ v1).drew :=
  ((((h.set (.inl rfl) _ _).set (.inl rfl) _ _).set (.inl rfl) _ _).set (.inl rfl) _ _).drew
set_option maxRecDepth 20000 in
set_option maxHeartbeats 4000000 in
theorem swap_any (g b cap m i j : Nat) (xs : List Th) (x y : Th) (w : World) (h : HS w g (.slice (some ⟨b, 0, none⟩) xs.length cap) m xs) (hx : xs[i]? = some x) (hy : xs[j]? = some y) (hij : ¬ i = j) :
    Calls Try.prog 30 #[.pointer (some ⟨g, 0, none⟩), .int .i64 i, .int .i64 j] w fun e w' => e = .returned (.tuple #[]) ∧ HS w' g (.slice (some ⟨b, 0, none⟩) xs.length cap) m (swp xs i j) ∧ Keeps (HF g (.slice (some ⟨b, 0, none⟩) xs.length cap) m) w w' := by
  have H := Lib.hid h
  have HX := Lib.hid hx
  have HY := Lib.hid hy
  have AP := Lib.hid h.apart
  obtain ⟨n, hn⟩ : ∃ n, xs.length = n := ⟨_, rfl⟩
  have LN := Lib.hid hn
  have c1 := h.blk.cell 1
  have c2 := h.blk.cell 2
  simp [HV] at c1 c2
  rw [hn] at c1
  have X := Lib.hid (owns_at h.row hx)
  have Y := Lib.hid (owns_at h.row hy)
  have x0 := X.out.c0
  have x1 := X.out.c1
  have y0 := Y.out.c0
  have y1 := Y.out.c1
  have fz : ∀ o, w.frozen? ⟨b, o, none⟩ = false := fun o => h.row.frozenAt o
  have li := lt_at hx
  have lj := lt_at hy
  rw [hn] at li lj ⊢
  have nl := h.len
  rw [hn] at nl
  have i1 : (i : Int) < (n : Int) := by omega
  have i2 : 0 ≤ (i : Int) := by omega
  have j1 : (j : Int) < (n : Int) := by omega
  have j2 : 0 ≤ (j : Int) := by omega
  have e1 : ¬ j = i := by omega
  have e2 : ¬ i * 2 = j * 2 + 1 := by omega
  have e3 : ¬ i * 2 + 1 = j * 2 := by omega
  have e4 : ¬ j * 2 = i * 2 + 1 := by omega
  have e5 : ¬ j * 2 + 1 = i * 2 := by omega
  have bg : ¬ b = g := AP.out.1
  have gb : ¬ g = b := fun e => AP.out.1 e.symm
  clear h hx hy hn
  go_enter Try.func30, Try.ntmps30
  go_wp2_with fail
  go_region
  obtain ⟨W1, hW1⟩ : ∃ W1, ((((w.setCell ⟨b, i * 2, none⟩ (.int .i64 y.id)).setCell ⟨b, i * 2 + 1, none⟩ (.int .i64 y.x)).setCell ⟨b, j * 2, none⟩ (.int .i64 x.id)).setCell ⟨b, j * 2 + 1, none⟩ (.int .i64 x.x)).drew = W1 := ⟨_, rfl⟩
  rw [hW1]
  have R1 := Lib.hid (show W1.ownsRow 0 57 2 (.slice (some ⟨b, 0, none⟩) n cap) n ((swp xs i j).map Th.cs).flatten by
    rw [← hW1, ← LN.out]; exact (row_two H.out.row HX.out HY.out).drew)
  have K1 := Lib.hid (show Keeps (fun k => k = b) w W1 by rw [← hW1]; exact keeps4 (Keeps.refl _ _))
  clear hW1 x0 x1 y0 y1 c1 c2 fz e1 e2 e3 e4 e5 X Y
  obtain ⟨D, hD, hP⟩ := H.out.map
  have M1 := Lib.hid (hD.keeps K1.out AP.out.2.2)
  have B1 := Lib.hid (H.out.blk.keeps K1.out gb)
  have PL := Lib.hid hP
  have TD := Lib.hid (hD.tidy keyI)
  clear hD hP
  have c1 := B1.out.cell 1
  have c2 := B1.out.cell 2
  simp [HV] at c1 c2
  rw [LN.out] at c1
  have SX := Lib.hid (owns_at R1.out (swp_i HX.out HY.out))
  have SY := Lib.hid (owns_at R1.out (swp_j HX.out HY.out))
  have y0 := SX.out.c0
  go_wp2_with fail
  go_still_tail 13, (by kernel_rfl)
  have SZ1 := Lib.hid (show Maps.size D = n by rw [PL.out.size, LN.out])
  have RY := Lib.hid (H.out.rng y (List.mem_of_getElem? HY.out))
  have RX := Lib.hid (H.out.rng x (List.mem_of_getElem? HX.out))
  have iR := Lib.hid (show InR (i : Int) by unfold InR; omega)
  have jR := Lib.hid (show InR (j : Int) by unfold InR; omega)
  refine wpList_mapUpdate_own _ rfl _ _ _ 52 rfl 3 3 keyI Try.underlying52 (plainElem Try.prog 3) m (Maps.size D) D rfl M1.out.drew (by rw [SZ1.out]; unfold maxLen; omega) _ _ (.int .i64 y.id) rfl rfl (Maps.keyOf_int_mk Try.underlying3 (wf_i64 RY.out)) (.lit (.int .i64 i)) [] (plainElem_int Try.underlying3 (wf_i64 iR.out)) ?_
  intro W2 hown2 hgrow2
  have M2 := Lib.hid (MapP.of hown2)
  have K2 := Lib.hid ((Keeps.of (F := fun k => k = m) ((Below.refl W1.heap.size W1).drew)).grown hgrow2 (fun k e => .inl (by cases e; rfl)))
  clear hown2 hgrow2 y0 c1 c2
  have B2 := Lib.hid (B1.out.keeps K2.out (fun e => AP.out.2.1 e.symm))
  have R2 := Lib.hid (owns_keeps R1.out K2.out (fun k e => by cases e; exact fun e => AP.out.2.2 e.symm))
  have c1 := B2.out.cell 1
  have c2 := B2.out.cell 2
  simp [HV] at c1 c2
  rw [LN.out] at c1
  have SY2 := Lib.hid (owns_at R2.out (swp_j HX.out HY.out))
  have x0 := SY2.out.c0
  go_wp2_with fail
  go_still_tail 13, (by kernel_rfl)
  have TD2 := Lib.hid (TD.out.put (isK y.id) (.lit (.int .i64 i)))
  refine wpList_mapUpdate_own _ rfl _ _ _ 52 rfl 3 3 keyI Try.underlying52 (plainElem Try.prog 3) m _ _ rfl M2.out.drew (by rw [size_put TD.out]; split <;> rw [SZ1.out] <;> (unfold maxLen; omega)) _ _ (.int .i64 x.id) rfl rfl (Maps.keyOf_int_mk Try.underlying3 (wf_i64 RX.out)) (.lit (.int .i64 j)) [] (plainElem_int Try.underlying3 (wf_i64 jR.out)) ?_
  intro W3 hown3 hgrow3
  have M3 := Lib.hid (MapP.of hown3)
  have K3 := Lib.hid ((Keeps.of (F := fun k => k = m) ((Below.refl W2.heap.size W2).drew)).grown hgrow3 (fun k e => .inl (by cases e; rfl)))
  clear hown3 hgrow3 x0 c1 c2
  have B3 := Lib.hid (B2.out.keeps K3.out (fun e => AP.out.2.1 e.symm))
  have R3 := Lib.hid (owns_keeps R2.out K3.out (fun k e => by cases e; exact fun e => AP.out.2.2 e.symm))
  have SL := Lib.hid (show (swp xs i j).length = n by rw [swp_len, LN.out])
  go_wp2
  refine bodyPost_end (v := .tuple #[]) (by simp [results, Try.results30, go_sem]) rfl ⟨rfl, ⟨?_, ?_, ⟨_, M3.out, PL.out.swap TD.out H.out.ids HX.out HY.out⟩, H.out.ids.perm (swp_perm HX.out HY.out).symm, fun t ht => H.out.rng t ((swp_perm HX.out HY.out).mem_iff.mp ht), by rw [SL.out]; omega⟩, ?_⟩
  · have := B3.out; rw [LN.out] at this; exact this
  · rw [SL.out]; exact R3.out
  · exact (((keepsF K1.out (F := HF g (.slice (some ⟨b, 0, none⟩) n cap) m) (fun k e => .inr (.inr (by rw [e]; rfl)))).trans (keepsF K2.out (F := HF g (.slice (some ⟨b, 0, none⟩) n cap) m) (fun k e => .inr (.inl e))) (fun k q => .inl q)).trans (keepsF K3.out (F := HF g (.slice (some ⟨b, 0, none⟩) n cap) m) (fun k e => .inr (.inl e))) (fun k q => .inl q))
end Go.Proofs.Ytimafmalfmeehaa
