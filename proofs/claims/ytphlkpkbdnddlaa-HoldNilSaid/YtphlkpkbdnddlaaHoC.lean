/-
  The document's own ledger (regattaref12): Settle: contract.
  The document's own ledger (regattaref12): Free: contract.
  The document's own ledger (regattaref12): Fits: contract.
-/
import Derived.Test.YtphlkpkbdnddlaaHoB
import Derived.BigRegion
import Derived.BigQuiet
namespace Go.Proofs.Ytphlkpkbdnddlaa
open Go.RowKit

/-- a holder written whole -/
def put6 (W : World) (g o : Nat) (y : Hd) : World := (((((W.setCell ⟨g, o, none⟩ (.int .i64 y.id)).setCell ⟨g, o + 1, none⟩ (.int .i64 y.E)).setCell ⟨g, o + 2, none⟩ (.int .i64 y.P)).setCell ⟨g, o + 3, none⟩ (.int .i64 y.NE)).setCell ⟨g, o + 4, none⟩ (.int .i64 y.NP)).setCell ⟨g, o + 5, none⟩ (.bool y.asked)
theorem Keeps.put6 {F : Nat → Prop} {a w : World} (h : Keeps F a w) {g : Nat} (hg : F g ∨ a.heap.size ≤ g) (o : Nat) (y : Hd) : Keeps F a (put6 w g o y) :=
  (((((h.set hg _ _).set hg _ _).set hg _ _).set hg _ _).set hg _ _).set hg _ _
theorem HdAt.put6 {W : World} {g o : Nat} {s : Hd} (h : HdAt W g o s) (y : Hd) : HdAt (put6 W g o y) g o y := by
  have n : ∀ a b : Nat, a ≠ b → (⟨g, o + a, none⟩ : Addr) ≠ ⟨g, o + b, none⟩ := fun a b h => addr_ne (by omega)
  have n0 : ∀ b : Nat, 0 ≠ b → (⟨g, o + b, none⟩ : Addr) ≠ ⟨g, o, none⟩ := fun b h => addr_ne (by omega)
  have m0 : ∀ b : Nat, 0 ≠ b → (⟨g, o, none⟩ : Addr) ≠ ⟨g, o + b, none⟩ := fun b h => addr_ne (by omega)
  unfold Go.Proofs.Ytphlkpkbdnddlaa.put6
  refine ⟨?_, ?_, ?_, ?_, ?_, ?_⟩
  · rw [cOther (n0 5 (by omega)), cOther (n0 4 (by omega)), cOther (n0 3 (by omega)), cOther (n0 2 (by omega)), cOther (n0 1 (by omega))]; exact cSame h.c0
  · rw [cOther (n 5 1 (by omega)), cOther (n 4 1 (by omega)), cOther (n 3 1 (by omega)), cOther (n 2 1 (by omega))]; exact cSame ((cOther (m0 1 (by omega))).trans h.c1)
  · rw [cOther (n 5 2 (by omega)), cOther (n 4 2 (by omega)), cOther (n 3 2 (by omega))]; exact cSame ((cOther (n 1 2 (by omega))).trans ((cOther (m0 2 (by omega))).trans h.c2))
  · rw [cOther (n 5 3 (by omega)), cOther (n 4 3 (by omega))]; exact cSame ((cOther (n 2 3 (by omega))).trans ((cOther (n 1 3 (by omega))).trans ((cOther (m0 3 (by omega))).trans h.c3)))
  · rw [cOther (n 5 4 (by omega))]; exact cSame ((cOther (n 3 4 (by omega))).trans ((cOther (n 2 4 (by omega))).trans ((cOther (n 1 4 (by omega))).trans ((cOther (m0 4 (by omega))).trans h.c4))))
  · exact cSame ((cOther (n 4 5 (by omega))).trans ((cOther (n 3 5 (by omega))).trans ((cOther (n 2 5 (by omega))).trans ((cOther (n 1 5 (by omega))).trans ((cOther (m0 5 (by omega))).trans h.c5)))))
theorem QueH.drew {W : World} {u : Value} {l : List Hd} (h : QueH W u l) : QueH W.drew u l := QueR.below h ((Below.refl _ _).drew)
/-- where holder j lies, and the row when it is written anew -/
theorem QueH.put {W : World} {u : Value} {l : List Hd} {j : Nat} {x : Hd} (h : QueH W u l) (hj : l[j]? = some x) :
    ∃ g off cap, u = .slice (some ⟨g, off, none⟩) l.length cap ∧ HdAt W g (off + j * 6) x ∧ (∀ k, W.frozen? ⟨g, k, none⟩ = false) ∧ l.length ≤ cap ∧ cap ≤ 9223372036854775807 ∧ ∀ y, QueH (put6 W g (off + j * 6) y) u (l.set j y) := by
  have hlt : j < l.length := by
    rcases Nat.lt_or_ge j l.length with q | q
    · exact q
    · rw [List.getElem?_eq_none q] at hj; cases hj
  obtain ⟨a, cap0, hv, hr⟩ := h.row
  rcases h.2 with ⟨_, h0⟩ | ⟨g, off, cap, cur, hu, _, hg, h1, h2, h3, _⟩
  · omega
  · rw [hu] at hv
    simp only [Value.slice.injEq] at hv
    obtain ⟨rfl, _, rfl⟩ := hv
    have at_ : ∀ i s, l[i]? = some s → HdAt W g (off + i * 6) s := fun i s hs => by
      obtain ⟨b, o, he, hat⟩ := hr.at hs
      cases he
      exact hat
    refine ⟨g, off, cap, hu, at_ j x hj, fun k => frozen_of_row W g k cur _ hg, h1, by unfold maxLen at h2; omega, fun y => ?_⟩
    have hb := Blk.setH (Blk.setH (Blk.setH (Blk.setH (Blk.setH (Blk.setH (W := W) (T := 49) (g := g) (cs := cur) hg (off + j * 6) (.int .i64 y.id)) (off + j * 6 + 1) (.int .i64 y.E)) (off + j * 6 + 2) (.int .i64 y.P)) (off + j * 6 + 3) (.int .i64 y.NE)) (off + j * 6 + 4) (.int .i64 y.NP)) (off + j * 6 + 5) (.bool y.asked)
    have hl : (l.set j y).length = l.length := List.length_set
    rw [hu, ← hl]
    refine QueH.of_at (off := off) hb (by rw [hl]; exact h1) h2 (by simp only [Array.size_setIfInBounds]; exact h3) fun i s hi => ?_
    by_cases e : j = i
    · subst e
      rw [List.getElem?_set_self hlt] at hi
      cases hi
      exact (at_ j x hj).put6 y
    · rw [List.getElem?_set_ne e] at hi
      exact ((((((at_ i s hi).set _ (by omega)).set _ (by omega)).set _ (by omega)).set _ (by omega)).set _ (by omega)).set _ (by omega)
theorem at_of {hs : List Hd} {id k : Int} {j : Nat} {x : Hd} (hk : AtV hs id k) (hj : hs[j]? = some x) (hx : x.id = id) (uq : ∀ i y, hs[i]? = some y → y.id = id → i = j) : k = (j : Int) := by
  rcases at_neg hk with ⟨_, _, hn⟩ | ⟨_, i, y, e, hi, hy⟩
  · exact absurd hx (hn x (List.mem_of_getElem? hj))
  · rw [e, uq i y hi hy]
theorem r12settle_none (r : Nat) (F : Nat → Prop) (v : Value) (hs : List Hd) (id : Int) (w : World) (h : RL w r F v hs) (hid : ∀ x ∈ hs, x.id ≠ id) :
    Calls Try.prog 16 #[.pointer (some ⟨r, 0, none⟩), .int .i64 id] w fun e w' => e = .returned (.int .i64 12) ∧ HStay w r F v hs w' := by
  have H := Lib.hid h
  have HI := Lib.hid hid
  clear h hid
  go_enter Try.func16, Try.ntmps16
  go_wp2_with fail
  refine (r12at_any r F v hs id _ H.out).mono ?_
  rintro e w2 ⟨k, rfl, hk, rfl⟩
  have hn : k < 0 := by
    rcases at_neg hk with ⟨hn, _, _⟩ | ⟨_, j, x, _, hj, hx⟩
    · exact hn
    · exact absurd hx (HI.out x (List.mem_of_getElem? hj))
  have t : decide (k < 0) = true := decide_eq_true hn
  clear hk hn
  go_wp2
  go_ret
  exact ⟨rfl, H.out.stay (Below.refl _ _)⟩
set_option maxHeartbeats 4000000 in
theorem r12settle_some (r : Nat) (F : Nat → Prop) (v : Value) (hs : List Hd) (id : Int) (j : Nat) (x : Hd) (w : World) (h : RL w r F v hs) (hj : hs[j]? = some x) (hx : x.id = id) (uq : ∀ i y, hs[i]? = some y → y.id = id → i = j) (c : Int) (hs' : List Hd) (hc : (x.asked = false ∧ c = 13 ∧ hs' = hs) ∨ (x.asked = true ∧ c = 0 ∧ hs' = hs.set j (newH id x.NE x.NP))) :
    Calls Try.prog 16 #[.pointer (some ⟨r, 0, none⟩), .int .i64 id] w fun e w' => e = .returned (.int .i64 c) ∧ HStay w r F v hs' w' := by
  have H := Lib.hid h
  have UQ := Lib.hid uq
  have HJ := Lib.hid hj
  have HX := Lib.hid hx
  have HC := Lib.hid hc
  clear h uq hj hx hc
  go_enter Try.func16, Try.ntmps16
  go_wp2_with fail
  refine (r12at_any r F v hs id _ H.out).mono ?_
  rintro e w2 ⟨k, rfl, hk, hw⟩
  have hkj : k = (j : Int) := at_of hk HJ.out HX.out UQ.out
  subst hkj hw
  have hlt : j < hs.length := by
    rcases Nat.lt_or_ge j hs.length with q | q
    · exact q
    · have := HJ.out; rw [List.getElem?_eq_none q] at this; cases this
  obtain ⟨an, ln, cn, ad, ld, cd, u, hvv, hbl, hq, hnu, hF⟩ := H.out
  obtain ⟨g, off, cap, hu, hat, hfr, c1, c3, hput⟩ := hq.put HJ.out
  subst hu
  have HQ := Lib.hid hq
  have PUT := Lib.hid hput
  have HF := Lib.hid hF
  have BL := Lib.hid hbl
  have NU := Lib.hid hnu
  have VV := Lib.hid hvv
  obtain ⟨n, hn0⟩ : ∃ n, hs.length = n := ⟨_, rfl⟩
  have HN := Lib.hid hn0
  have c2 := hbl.cell 2
  simp at c2
  rw [hn0] at c1 hlt c2
  have y2 := hat.c3
  have y3 := hat.c4
  have y5 := hat.c5
  have j1 : (j : Int) < (n : Int) := by omega
  have j2 : 0 ≤ (j : Int) := by omega
  have t : decide ((j : Int) < 0) = false := decide_eq_false (by omega)
  rw [hn0] at BL HQ PUT
  rcases HC.out with ⟨ha, rfl, rfl⟩ | ⟨ha, rfl, rfl⟩
  · rw [ha] at y5
    clear hbl hq hnu hF hn0 hat hk hput hvv hfr ha
    go_wp2
    go_ret
    exact ⟨rfl, H.out.stay (Below.refl _ _)⟩
  · rw [ha] at y5
    have k0 := hat.c0
    have k1 := hat.c1
    have k2 := hat.c2
    have f0 := hfr (off + j * 6)
    have f1 := hfr (off + j * 6 + 1)
    have f2 := hfr (off + j * 6 + 2)
    have f3 := hfr (off + j * 6 + 3)
    have f4 := hfr (off + j * 6 + 4)
    have f5 := hfr (off + j * 6 + 5)
    clear hbl hq hnu hF hn0 hat hk hput hvv hfr ha
    go_upto_region 6 with fail
    go_region
    go_wp2
    go_ret
    have kp : Keeps F w (put6 w g (off + j * 6) (newH id x.NE x.NP)).drew := ((Keeps.refl F w).put6 (.inl ((HF.out g).mpr (.inr rfl))) _ _).drew
    have L := H.out.lies
    have RLN : RL (put6 w g (off + j * 6) (newH id x.NE x.NP)).drew r F v (hs.set j (newH id x.NE x.NP)) :=
      ⟨an, ln, cn, ad, ld, cd, _, VV.out, BL.out.keeps (((Keeps.refl (fun k => k = g) w).put6 (.inl rfl) (off + j * 6) (newH id x.NE x.NP)).drew) (fun e => NU.out (by rw [e]; rfl)), (PUT.out (newH id x.NE x.NP)).drew, NU.out, HF.out⟩
    exact ⟨rfl, F, RLN, kp, fun _ q => .inl q, fun k q => Nat.lt_of_lt_of_le (L k q) kp.size⟩
end Go.Proofs.Ytphlkpkbdnddlaa
namespace Go.Proofs.Ytphlkpkbdnddlaa
open Go.RowKit

theorem RowH.take {W : World} {a : Option Addr} {len cap m : Nat} {hs : List Hd} (h : RowH W a len cap hs) (hm : m ≤ len) : RowH W a m cap (hs.take m) := by
  unfold RowH
  rw [List.map_take]
  exact RowF.take h hm
theorem RowH.rest {W : World} {b off len cap m : Nat} {hs : List Hd} (h : RowH W (some ⟨b, off, none⟩) len cap hs) (hm : m ≤ len) : RowH W (some ⟨b, off + m * 6, none⟩) (len - m) (cap - m) (hs.drop m) := by
  have hc := RowF.cap_le h
  have hn := h.len
  refine ⟨by rw [List.length_map, List.length_drop, hn], by omega, by omega, (fun e => by cases e), fun i hi => ?_⟩
  obtain ⟨b', off', ha, hcell⟩ := h.2.2.2.2 (m + i) (by omega)
  simp only [Option.some.injEq, Addr.mk.injEq, and_true] at ha
  obtain ⟨rfl, rfl⟩ := ha
  refine ⟨_, _, rfl, fun j hj => ?_⟩
  have := hcell j hj
  rw [List.map_drop, List.getD_eq_getElem?_getD, List.getElem?_drop, ← List.getD_eq_getElem?_getD]
  rw [← this, Nat.add_mul, Nat.add_assoc off (m * 6)]
theorem RowH.none {W : World} {a : Addr} : RowH W (some a) 0 0 [] := ⟨rfl, by omega, by omega, (fun e => by cases e), (fun i hi => by omega)⟩
theorem r12free_none (r : Nat) (F : Nat → Prop) (v : Value) (hs : List Hd) (id : Int) (w : World) (h : RL w r F v hs) (hid : ∀ x ∈ hs, x.id ≠ id) :
    Calls Try.prog 18 #[.pointer (some ⟨r, 0, none⟩), .int .i64 id] w fun e w' => e = .returned (.int .i64 12) ∧ HStay w r F v hs w' := by
  have H := Lib.hid h
  have HI := Lib.hid hid
  clear h hid
  go_enter Try.func18, Try.ntmps18
  go_wp2_with fail
  refine (r12at_any r F v hs id _ H.out).mono ?_
  rintro e w2 ⟨k, rfl, hk, rfl⟩
  have hn : k < 0 := by
    rcases at_neg hk with ⟨hn, _, _⟩ | ⟨_, j, x, _, hj, hx⟩
    · exact hn
    · exact absurd hx (HI.out x (List.mem_of_getElem? hj))
  have t : decide (k < 0) = true := decide_eq_true hn
  clear hk hn
  go_wp2
  go_ret
  exact ⟨rfl, H.out.stay (Below.refl _ _)⟩
theorem erase_split {α : Type} (l : List α) (j : Nat) : l.eraseIdx j = l.take j ++ l.drop (j + 1) := List.eraseIdx_eq_take_drop_succ ..
set_option maxRecDepth 20000 in
set_option maxHeartbeats 4000000 in
theorem r12free_some (r : Nat) (F : Nat → Prop) (v : Value) (hs : List Hd) (id : Int) (j : Nat) (x : Hd) (w : World) (h : RL w r F v hs) (hj : hs[j]? = some x) (hx : x.id = id) (uq : ∀ i y, hs[i]? = some y → y.id = id → i = j) (hl : hs.length ≤ 400) :
    Calls Try.prog 18 #[.pointer (some ⟨r, 0, none⟩), .int .i64 id] w fun e w' => e = .returned (.int .i64 0) ∧ HStay w r F v (hs.eraseIdx j) w' := by
  have H := Lib.hid h
  have UQ := Lib.hid uq
  have HJ := Lib.hid hj
  have HX := Lib.hid hx
  clear h uq hj hx
  rw [erase_split]
  obtain ⟨m, hm⟩ : ∃ m, j + 1 = m := ⟨_, rfl⟩
  rw [hm]
  have MM := Lib.hid hm
  clear hm
  go_enter Try.func18, Try.ntmps18
  go_wp2_with fail
  refine (r12at_any r F v hs id _ H.out).mono ?_
  rintro e w2 ⟨k, rfl, hk, hw⟩
  have hkj : k = (j : Int) := at_of hk HJ.out HX.out UQ.out
  subst hkj hw
  have hlt : j < hs.length := by
    rcases Nat.lt_or_ge j hs.length with q | q
    · exact q
    · have := HJ.out; rw [List.getElem?_eq_none q] at this; cases this
  obtain ⟨an, ln, cn, ad, ld, cd, u, hvv, hbl, hq, hnu, hF⟩ := H.out
  obtain ⟨g, off, cap, hu, _, _, c1, c3, _⟩ := hq.put HJ.out
  subst hu
  obtain ⟨a', cap', he, hr⟩ := hq.row
  simp only [Value.slice.injEq] at he
  obtain ⟨rfl, _, rfl⟩ := he
  have HR := Lib.hid hr
  have HF := Lib.hid hF
  have BL := Lib.hid hbl
  have NU := Lib.hid hnu
  have VV := Lib.hid hvv
  obtain ⟨n, hn0⟩ : ∃ n, hs.length = n := ⟨_, rfl⟩
  have HN := Lib.hid hn0
  have c2 := hbl.cell 2
  have f2 := hbl.free 2
  simp at c2
  rw [hn0] at c1 hlt c2 HR BL NU hl
  have j1 : (j : Int) < (n : Int) := by omega
  have j2 : 0 ≤ (j : Int) := by omega
  have j3 : (j : Int) + 1 ≤ (n : Int) := by omega
  have j4 : (j : Int) ≤ (n : Int) := by omega
  have j5 : (j : Int) ≤ (cap : Int) := by omega
  have hm := MM.out
  have wr : IntKind.i64.wrap ((j : Int) + 1) = (m : Int) := by rw [IntWalk.i64_in _ (by omega)]; omega
  have j6 : (m : Int) ≤ (n : Int) := by omega
  have j7 : 0 ≤ (m : Int) := by omega
  have t : decide ((j : Int) < 0) = false := decide_eq_false (by omega)
  have LT := Lib.hid (show (hs.take j).length = j by rw [List.length_take]; have := HN.out; omega)
  have LD := Lib.hid (show (hs.drop m).length = n - m by rw [List.length_drop, HN.out])
  have HM := Lib.hid hm
  have FIN := Lib.hid (show ∀ (w3 w5 : World) (v2 : Value), Below w.heap.size w w3 → Below w.heap.size w3 w5 → w5.ownsRow w.heap.size 49 6 v2 (hs.take j ++ hs.drop m).length ((hs.take j ++ hs.drop m).map Hd.cs).flatten → HStay w r F v (hs.take j ++ hs.drop m) (w5.setCell ⟨r, 2, none⟩ v2) from fun w3 w5 v2 b3 b5 ho => by
    have fr := (HF.out r).mpr (.inl rfl)
    have rl := H.out.lies r fr
    have B := b3.trans b5
    have own : ∀ g, v2.ownBlock = some g → w.heap.size ≤ g ∧ g < w5.heap.size := fun g hg => ho.lt g hg
    refine ⟨fun k => k = r ∨ v2.ownBlock = some k, ⟨an, ln, cn, ad, ld, cd, v2, VV.out, ?_, ?_, fun e => by have := own r e; omega, fun k => Iff.rfl⟩, ⟨(Keeps.of (F := F) B).set (.inl fr) _ _, fun k q => ?_, fun k q => ?_⟩⟩
    · have h := Blk.setH (BL.out.below B) 2 v2
      simpa using h
    · exact ((QueR.of_owns ho).base (fun _ _ => Nat.zero_le _)).carry (fun g hg => Below.heap_setCell _ _ _ _ (fun e => by have := own g hg; simp at e; omega))
    · rcases q with rfl | q
      · exact .inl fr
      · exact .inr (own k q).1
    · rcases q with rfl | q
      · have := B.size; simp; omega
      · simpa using (own k q).2)
  clear hbl hq hr hnu hF hn0 hk hvv hm
  by_cases cz : cap = m
  · have mn : m = n := by omega
    subst cz mn
    go_wp2_with (first
      | (at_builtin; refine wpList_append_hs (w := w) rfl _ _ rfl w.heap.size (.slice none 0 0) [] rfl (World.ownsRow_nil _ _ _ _) (some ⟨g, off, none⟩) j cap (hs.take j) rfl (HR.out.take (by omega)) (Nat.le_refl _) (by simp; omega) ?_; intro v1 w3 ho1 hg1 hat1; have B3 := Lib.hid (show Below w.heap.size w w3 from (Below.refl _ _).grown hg1 (Nat.le_refl _) (fun _ e => by simp [Value.ownBlock] at e)); have O3 := Lib.hid (show w3.ownsRow w.heap.size 49 6 v1 (hs.take j).length ((hs.take j).map Hd.cs).flatten from ho1); have d2 := (BL.out.below B3.out).cell 2; have e2 := (BL.out.below B3.out).free 2; simp at d2; clear ho1 hg1 hat1 c2 f2)
      | (at_builtin; refine wpList_append_hs rfl _ _ rfl w.heap.size v1 (hs.take j) rfl O3.out (some ⟨g, off, none⟩) 0 0 (hs.drop cap) rfl (by rw [show hs.drop cap = [] from List.drop_eq_nil_of_le (by rw [HN.out]; omega)]; exact RowH.none) B3.out.size (by rw [LT.out]; omega) ?_; intro v2 w5 ho2 hg2 hat2; obtain ⟨a2, cap2, rfl, _, _⟩ := hrow_of_owns ho2; obtain ⟨n2, hn2⟩ : ∃ n, (hs.take j ++ hs.drop cap).length = n := ⟨_, rfl⟩; rw [hn2] at ho2 ⊢; have N2 := Lib.hid hn2; clear hn2; have B5 := Lib.hid (show Below w.heap.size w3 w5 from (Below.refl _ _).grown hg2 B3.out.size (fun k e => (O3.out.lt k e).1)); have O5 := Lib.hid ho2; have e2' := (BL.out.below (B3.out.trans B5.out)).free 2; have d2' := (BL.out.below (B3.out.trans B5.out)).cell 2; simp at d2'; clear ho2 hg2 hat2))
    go_ret
    exact ⟨rfl, FIN.out _ _ _ B3.out B5.out (by rw [N2.out]; exact O5.out)⟩
  · have cz' : ¬ m = cap := fun e => cz e.symm
    go_wp2_with (first
      | (at_builtin; refine wpList_append_hs (w := w) rfl _ _ rfl w.heap.size (.slice none 0 0) [] rfl (World.ownsRow_nil _ _ _ _) (some ⟨g, off, none⟩) j cap (hs.take j) rfl (HR.out.take (by omega)) (Nat.le_refl _) (by simp; omega) ?_; intro v1 w3 ho1 hg1 hat1; have B3 := Lib.hid (show Below w.heap.size w w3 from (Below.refl _ _).grown hg1 (Nat.le_refl _) (fun _ e => by simp [Value.ownBlock] at e)); have O3 := Lib.hid (show w3.ownsRow w.heap.size 49 6 v1 (hs.take j).length ((hs.take j).map Hd.cs).flatten from ho1); have d2 := (BL.out.below B3.out).cell 2; have e2 := (BL.out.below B3.out).free 2; simp at d2; clear ho1 hg1 hat1 c2 f2)
      | (at_builtin; refine wpList_append_hs rfl _ _ rfl w.heap.size v1 (hs.take j) rfl O3.out (some ⟨g, off + m * 6, none⟩) (n - m) (cap - m) (hs.drop m) rfl ((HR.out.below B3.out).rest (by omega)) B3.out.size (by rw [LT.out]; omega) ?_; intro v2 w5 ho2 hg2 hat2; obtain ⟨a2, cap2, rfl, _, _⟩ := hrow_of_owns ho2; obtain ⟨n2, hn2⟩ : ∃ n, (hs.take j ++ hs.drop m).length = n := ⟨_, rfl⟩; rw [hn2] at ho2 ⊢; have N2 := Lib.hid hn2; clear hn2; have B5 := Lib.hid (show Below w.heap.size w3 w5 from (Below.refl _ _).grown hg2 B3.out.size (fun k e => (O3.out.lt k e).1)); have O5 := Lib.hid ho2; have e2' := (BL.out.below (B3.out.trans B5.out)).free 2; have d2' := (BL.out.below (B3.out.trans B5.out)).cell 2; simp at d2'; clear ho2 hg2 hat2))
    go_ret
    exact ⟨rfl, FIN.out _ _ _ B3.out B5.out (by rw [N2.out]; exact O5.out)⟩
end Go.Proofs.Ytphlkpkbdnddlaa
namespace Go.Proofs.Ytphlkpkbdnddlaa
open Go.RowKit

section
variable {P : Program} {ops : Array Oper} {Q : Exit → Act → World → Prop} {md : Region.Mode} {S : World → Prop}
/-- take number i first: it is wanted -/
theorem takeY {i : Nat} {oi : Oper} {v : Value} {fuel : Nat} {listed : Array Bool} {a : Act} {w : World} (hi : ops[i]? = some oi)
    (hs : Region.noSelect ops = true) (hf : Region.free md ops listed i = true) (hr : (Region.ready md ops listed).contains i = true)
    (hQ : ∀ c a w, Q (.panic c) (a.put oi.dst v) w → Q (.panic c) a w) (hw : Region.wanted oi (yielded ops a.tmps) = true) (hy : ∀ w, S w → (execOp a.eval oi).run P w = .ok (.value v) w) (hS : S w)
    (h : wpAnyH P md ops Q S fuel (listed.setIfInBounds i true) (a.put oi.dst v) w) : wpAnyH P md ops Q S (fuel + 1) listed a w :=
  wpAnyH_take hi hs hf hr hQ (.inl ⟨hw, hy⟩) hS h
/-- .. it is not wanted -/
theorem takeN {i : Nat} {oi : Oper} {fuel : Nat} {listed : Array Bool} {a : Act} {w : World} (hi : ops[i]? = some oi)
    (hs : Region.noSelect ops = true) (hf : Region.free md ops listed i = true) (hr : (Region.ready md ops listed).contains i = true)
    (hQ : ∀ c a w, Q (.panic c) (a.put oi.dst undef) w → Q (.panic c) a w) (hw : Region.wanted oi (yielded ops a.tmps) = false) (hS : S w)
    (h : wpAnyH P md ops Q S fuel (listed.setIfInBounds i true) (a.put oi.dst undef) w) : wpAnyH P md ops Q S (fuel + 1) listed a w :=
  wpAnyH_take hi hs hf hr hQ (.inr ⟨hw, rfl⟩) hS h
end
/-- with one more, and one less -/
def fitsV (N D : Int) (hs : List Hd) (E P E2 P2 : Int) : Bool :=
  if ¬ (1 ≤ E ∧ E ≤ P ∧ P ≤ 1048576) then false
  else if ¬ (1 ≤ E2 ∧ E2 ≤ P2 ∧ P2 ≤ 1048576) then decide (((sumH hs).1 * P + E * (sumH hs).2) * D ≤ N * ((sumH hs).2 * P))
  else decide (E2 * ((sumH hs).2 * P) ≤ ((sumH hs).1 * P + E * (sumH hs).2) * P2) && decide (((sumH hs).1 * P + E * (sumH hs).2) * (D * P2) ≤ (N * P2 + E2 * D) * ((sumH hs).2 * P))
theorem fitsV_no {N D : Int} {hs : List Hd} {E P E2 P2 : Int} (h : ¬ MayBe E P) : fitsV N D hs E P E2 P2 = false := if_pos h
theorem fitsV_one {N D : Int} {hs : List Hd} {E P E2 P2 : Int} (h : MayBe E P) (k : ¬ MayBe E2 P2) : fitsV N D hs E P E2 P2 = decide (((sumH hs).1 * P + E * (sumH hs).2) * D ≤ N * ((sumH hs).2 * P)) := (if_neg (fun q => q h)).trans (if_pos k)
theorem fitsV_two {N D : Int} {hs : List Hd} {E P E2 P2 : Int} (h : MayBe E P) (k : MayBe E2 P2) : fitsV N D hs E P E2 P2 = (decide (E2 * ((sumH hs).2 * P) ≤ ((sumH hs).1 * P + E * (sumH hs).2) * P2) && decide (((sumH hs).1 * P + E * (sumH hs).2) * (D * P2) ≤ (N * P2 + E2 * D) * ((sumH hs).2 * P))) := (if_neg (fun q => q h)).trans (if_neg (fun q => q k))
theorem r12fit_arg (r : Nat) (F : Nat → Prop) (v : Value) (hs : List Hd) (E P E2 P2 : Int) (w : World) (_ : RL w r F v hs) (hM : ¬ MayBe E P) :
    Calls Try.prog 20 #[.pointer (some ⟨r, 0, none⟩), .agg #[.int .i64 E, .int .i64 P], .agg #[.int .i64 E2, .int .i64 P2]] w fun e w' => e = .returned (.bool false) ∧ Below w.heap.size w w' := by
  have HM := Lib.hid hM
  clear hM
  have K := Lib.hid ((Blk.new w 39 #[.int .i64 E, .int .i64 P]).alloc (.cells #[.int .i64 E2, .int .i64 P2] 39))
  have k0 := K.out.cell 0; have k1 := K.out.cell 1
  simp at k0 k1
  go_enter Try.func20, Try.ntmps20
  go_wp2_with fail
  refine (r4check_any E P _ false ⟨fun h => (by cases h), fun h => absurd h HM.out⟩).mono ?_
  rintro e w1 ⟨rfl, hb⟩
  have B := Lib.hid (below_next (wbox2 _ _ _) hb)
  clear hb k0 k1
  go_wp2
  go_ret
  exact ⟨rfl, B.out⟩
set_option maxRecDepth 20000 in
set_option maxHeartbeats 8000000 in
theorem r12fit_yes (r : Nat) (F : Nat → Prop) (v : Value) (hs : List Hd) (E P E2 P2 N D : Int) (L b : Nat) (w : World) (h : RL w r F v hs) (hv : Rat w b L v N D) (g : ∀ x ∈ hs, GoodH x) (hM : MayBe E P) (hl : hs.length ≤ 19) (hL : L ≤ 3) (fb : Bool) (hfb : fitsV N D hs E P E2 P2 = fb) :
    Calls Try.prog 20 #[.pointer (some ⟨r, 0, none⟩), .agg #[.int .i64 E, .int .i64 P], .agg #[.int .i64 E2, .int .i64 P2]] w fun e w' => e = .returned (.bool fb) ∧ Below w.heap.size w w' := by
  have H := Lib.hid h
  have V := Lib.hid hv
  have G := Lib.hid g
  have HM := Lib.hid hM
  have HL := Lib.hid hl
  have LL := Lib.hid hL
  have FB := Lib.hid hfb
  obtain ⟨m1, m2, m3⟩ := hM
  have MW := Lib.hid (show 0 ≤ E ∧ E < 4294967296 ∧ 0 ≤ P ∧ P < 4294967296 by omega)
  clear h hv g hl hL hfb m1 m2 m3
  obtain ⟨W0, hW0⟩ : ∃ W0, (w.alloc (.cells #[.int .i64 E, .int .i64 P] 39)).alloc (.cells #[.int .i64 E2, .int .i64 P2] 39) = W0 := ⟨_, rfl⟩
  have B0 := Lib.hid (show Below w.heap.size w W0 by rw [← hW0]; exact wbox2 _ _ _)
  have K := Lib.hid (show Blk W0 39 w.heap.size #[.int .i64 E, .int .i64 P] by rw [← hW0]; exact (Blk.new w _ _).alloc _)
  have K2 := Lib.hid (show Blk W0 39 (w.heap.size + 1) #[.int .i64 E2, .int .i64 P2] by rw [← hW0]; exact Blk.new2 w _ _ _)
  have k0 := K.out.cell 0; have k1 := K.out.cell 1
  simp at k0 k1
  go_enter Try.func20, Try.ntmps20
  go_wp2_with fail
  refine (r4check_yes E P _ HM.out).mono ?_
  rintro e w1 ⟨rfl, hb⟩
  have B := Lib.hid (below_next B0.out hb)
  have K := Lib.hid (K.out.below hb)
  have K2 := Lib.hid (K2.out.below hb)
  clear hb k0 k1
  have KEPT := Lib.hid (show ∀ w' : World, Below w1.heap.size w1 w' → w'.cell? ⟨w.heap.size, 0, none⟩ = some (.int .i64 E) ∧ w'.cell? ⟨w.heap.size, 1, none⟩ = some (.int .i64 P) from fun w' h => ⟨(K.out.below h).cell 0, (K.out.below h).cell 1⟩)
  have BB := Lib.hid (show Below w1.heap.size w1 w1.drew from (Below.refl w1.heap.size w1).drew)
  go_upto_region 4 with fail
  go_cut [8] (fun s8 wx => ∃ (g : Nat) (x1 : Option Addr) (x2 x3 : Nat) (y1 : Option Addr) (y2 y3 : Nat), s8 = .pointer (some ⟨g, 0, none⟩) ∧ Box wx 27 g (.slice x1 x2 x3) (.slice y1 y2 y3) ∧ Rat wx 0 (2 * hs.length + 3) (.agg #[.slice x1 x2 x3, .slice y1 y2 y3]) ((sumH hs).1 * P + E * (sumH hs).2) ((sumH hs).2 * P) ∧ Below w1.heap.size w1 wx)
  case first =>
    have ZB := Lib.hid (show True from trivial)
    go_region_held3 (fun w' => w'.cell? ⟨w.heap.size, 0, none⟩ = some (.int .i64 E) ∧ w'.cell? ⟨w.heap.size, 1, none⟩ = some (.int .i64 P))
      (first | with_reducible exact KEPT.out _ BB.out | with_reducible exact KEPT.out _ (below_next BB.out (wbox _ _)) | with_reducible exact KEPT.out _ (((below_next BB.out (wbox _ _)).setCell BB.out.size _).setCell BB.out.size _) | with_reducible exact KEPT.out _ ((BB.out.setCell GB.out _).setCell GB.out _))
      (first
        | (go_at_call 27; (first
            | ((with_reducible refine (r12held_any r F v hs _ (H.out.below (below_next B.out BB.out)) G.out (by have := HL.out; omega)).mono ?_); rintro e w2 ⟨v2, rfl, hr, hb⟩)
            | (have ZB := Lib.hid (Blk.drew (Blk.new w1 27 #[.slice none 0 0, .slice none 0 0])); have GB := Lib.hid (Nat.le_refl w1.heap.size); have BB := Lib.hid (Below.drew (wbox w1 (.cells #[.slice none 0 0, .slice none 0 0] 27))); (with_reducible refine (r12held_any r F v hs _ (H.out.below (below_next B.out BB.out)) G.out (by have := HL.out; omega)).mono ?_); rintro e w2 ⟨v2, rfl, hr, hb⟩; have ZB := Lib.hid (ZB.out.below hb)));
            have S2 := Lib.hid hr; have BB := Lib.hid (below_next BB.out hb); clear hb hr)
        | (go_at_call 32; (first
            | ((with_reducible refine (rof_any E P w2 MW.out.1 MW.out.2.1 MW.out.2.2.1 MW.out.2.2.2).mono ?_); rintro e w3 ⟨v3, rfl, hr, hb⟩; (try (have ZB := Lib.hid (ZB.out.below hb))))
            | (have ZB := Lib.hid (Blk.new w2 27 #[.slice none 0 0, .slice none 0 0]); have GB := Lib.hid BB.out.size; have S2 := Lib.hid (S2.out.below (wbox w2 (.cells #[.slice none 0 0, .slice none 0 0] 27))); have BB := Lib.hid (below_next BB.out (wbox w2 (.cells #[.slice none 0 0, .slice none 0 0] 27))); (with_reducible refine (rof_any E P _ MW.out.1 MW.out.2.1 MW.out.2.2.1 MW.out.2.2.2).mono ?_); rintro e w3 ⟨v3, rfl, hr, hb⟩; have ZB := Lib.hid (ZB.out.below hb)));
            have S3 := Lib.hid hr; have S2 := Lib.hid (S2.out.below hb); have BB := Lib.hid (below_next BB.out hb); clear hb hr)
        | (go_at_call 28; (first
            | ((with_reducible refine (rplus_any _ _ (sumH hs).1 (sumH hs).2 E P _ _ (2 * hs.length + 1) 1 w3 S2.out S3.out (by have := HL.out; omega)).mono ?_); rintro e w4 ⟨v4, rfl, hr, hb⟩; (try (have ZB := Lib.hid (ZB.out.below hb))))
            | (have ZB := Lib.hid (Blk.new w3 27 #[.slice none 0 0, .slice none 0 0]); have GB := Lib.hid BB.out.size; have S2 := Lib.hid (S2.out.below (wbox w3 (.cells #[.slice none 0 0, .slice none 0 0] 27))); have S3 := Lib.hid (S3.out.below (wbox w3 (.cells #[.slice none 0 0, .slice none 0 0] 27))); have BB := Lib.hid (below_next BB.out (wbox w3 (.cells #[.slice none 0 0, .slice none 0 0] 27))); (with_reducible refine (rplus_any _ _ (sumH hs).1 (sumH hs).2 E P _ _ (2 * hs.length + 1) 1 _ S2.out S3.out (by have := HL.out; omega)).mono ?_); rintro e w4 ⟨v4, rfl, hr, hb⟩; have ZB := Lib.hid (ZB.out.below hb)));
            obtain ⟨pa, pl, pc, pz, qa, ql, qc, qz, rfl, _⟩ := id hr; have S4 := Lib.hid (hr.mono (Nat.zero_le _) (Nat.le_refl _)); have BB := Lib.hid (below_next BB.out hb); clear hb hr;
            (try (have y0 := ZB.out.cell 0; have y1 := ZB.out.cell 1; have f0 := ZB.out.free 0; have f1 := ZB.out.free 1; simp at y0 y1))))
    all_goals
      go_wp2_with fail
      go_meet
      first
        | (obtain ⟨q1, q2⟩ := box_set ZB.out S4.out; exact ⟨_, _, _, _, _, _, _, rfl, q1, q2.mono (Nat.le_refl _) (by omega), (BB.out.setCell GB.out _).setCell GB.out _⟩)
        | exact ⟨_, _, _, _, _, _, _, rfl, Blk.new w4 _ _, (S4.out.below (wbox w4 _)).mono (Nat.le_refl _) (by omega), below_next BB.out (wbox _ _)⟩
  case rest =>
    obtain ⟨gs, x1, x2, x3, y1, y2, y3, rfl, hbox, hrat, hbel⟩ := hcut
    clear BB KEPT
    have BX := Lib.hid hbox
    have RT := Lib.hid hrat
    have B := Lib.hid (below_next B.out hbel)
    have K2 := Lib.hid (K2.out.below hbel)
    clear hbox hrat hbel K
    have k0 := K2.out.cell 0; have k1 := K2.out.cell 1
    simp at k0 k1
    obtain ⟨sn, hsn⟩ : ∃ s, (sumH hs).1 * P + E * (sumH hs).2 = s := ⟨_, rfl⟩
    obtain ⟨sd, hsd⟩ : ∃ s, (sumH hs).2 * P = s := ⟨_, rfl⟩
    rw [hsn, hsd] at RT
    obtain ⟨an, ln, cn, ad, ld, cd, u, hvv, hbl, _, _, _⟩ := H.out
    subst hvv
    have RB := Lib.hid (hbl.below B.out)
    have V := Lib.hid (V.out.below B.out)
    clear hbl
    by_cases hM2 : MayBe E2 P2
    · have fb2 := fitsV_two (N := N) (D := D) (hs := hs) HM.out hM2
      rw [FB.out, hsn, hsd] at fb2
      have FB2 := Lib.hid fb2
      have HM2 := Lib.hid hM2
      obtain ⟨m1, m2, m3⟩ := hM2
      have MW2 := Lib.hid (show 0 ≤ E2 ∧ E2 < 4294967296 ∧ 0 ≤ P2 ∧ P2 < 4294967296 by omega)
      clear fb2 hsn hsd m1 m2 m3
      go_wp2_with fail
      refine (r4check_yes E2 P2 _ HM2.out).mono ?_
      rintro e w5 ⟨rfl, hb⟩
      have B := Lib.hid (below_next B.out hb)
      have K2 := Lib.hid (K2.out.below hb)
      have BX := Lib.hid (Box.below BX.out hb)
      have RT := Lib.hid (RT.out.below hb)
      have RB := Lib.hid (RB.out.below hb)
      have V := Lib.hid (V.out.below hb)
      clear hb k0 k1
      have k0 := K2.out.cell 0; have k1 := K2.out.cell 1
      simp at k0 k1
      go_wp2_with fail
      refine (rof_any E2 P2 _ MW2.out.1 MW2.out.2.1 MW2.out.2.2.1 MW2.out.2.2.2).mono ?_
      rintro e w6 ⟨v6, rfl, hr, hb⟩
      have B := Lib.hid (below_next B.out hb)
      have BX := Lib.hid (Box.below BX.out hb)
      have RT := Lib.hid (RT.out.below hb)
      have RB := Lib.hid (RB.out.below hb)
      have V := Lib.hid (V.out.below hb)
      obtain ⟨pa, pl, pc, pz, qa, ql, qc, qz, rfl, _⟩ := id hr
      have IR := Lib.hid hr
      clear hb k0 k1 hr
      obtain ⟨w7, hw7⟩ : ∃ w7, w6.alloc (.cells #[.slice pa pl pc, .slice qa ql qc] 27) = w7 := ⟨_, rfl⟩
      obtain ⟨gi, hgi⟩ : ∃ gi, w6.heap.size = gi := ⟨_, rfl⟩
      have B67 := Lib.hid (show Below w6.heap.size w6 w7 by rw [← hw7]; exact wbox _ _)
      have BI := Lib.hid (show Box w7 27 gi (.slice pa pl pc) (.slice qa ql qc) by rw [← hw7, ← hgi]; exact Blk.new _ _ _)
      have IR := Lib.hid (IR.out.below B67.out)
      have B := Lib.hid (below_next B.out B67.out)
      have BX := Lib.hid (Box.below BX.out B67.out)
      have RT := Lib.hid (RT.out.below B67.out)
      have RB := Lib.hid (RB.out.below B67.out)
      have V := Lib.hid (V.out.below B67.out)
      have KEPT := Lib.hid (show ∀ w' : World, Below w7.heap.size w7 w' → w'.cell? ⟨gs, 0, none⟩ = some (.slice x1 x2 x3) ∧ w'.cell? ⟨gs, 1, none⟩ = some (.slice y1 y2 y3) ∧ w'.cell? ⟨gi, 0, none⟩ = some (.slice pa pl pc) ∧ w'.cell? ⟨gi, 1, none⟩ = some (.slice qa ql qc) ∧ w'.cell? ⟨r, 0, none⟩ = some (.slice an ln cn) ∧ w'.cell? ⟨r, 1, none⟩ = some (.slice ad ld cd) from fun w' h => ⟨(Box.below BX.out h).c0, (Box.below BX.out h).c1, (Box.below BI.out h).c0, (Box.below BI.out h).c1, (RB.out.below h).cell 0, (RB.out.below h).cell 1⟩)
      have BL := Lib.hid (show Below w7.heap.size w7 w7.drew from (Below.refl w7.heap.size w7).drew)
      go_upto_region 9 with fail
      (try rw [hw7]); (try rw [hgi])
      clear hw7 hgi B67
      by_cases q1 : E2 * sd ≤ sn * P2
      · have t1 : decide (cmpI (E2 * sd) (sn * P2) ≤ 0) = true := by rw [cmpI_le]; exact decide_eq_true q1
        have F2 := Lib.hid (show fb = decide (sn * (D * P2) ≤ (N * P2 + E2 * D) * sd) by rw [FB2.out, decide_eq_true q1, Bool.true_and])
        obtain ⟨c1, hc1⟩ : ∃ c, cmpI (E2 * sd) (sn * P2) = c := ⟨_, rfl⟩
        rw [hc1] at t1
        have HC1 := Lib.hid hc1
        clear q1 hc1
        go_region_held3 (fun w' => w'.cell? ⟨gs, 0, none⟩ = some (.slice x1 x2 x3) ∧ w'.cell? ⟨gs, 1, none⟩ = some (.slice y1 y2 y3) ∧ w'.cell? ⟨gi, 0, none⟩ = some (.slice pa pl pc) ∧ w'.cell? ⟨gi, 1, none⟩ = some (.slice qa ql qc) ∧ w'.cell? ⟨r, 0, none⟩ = some (.slice an ln cn) ∧ w'.cell? ⟨r, 1, none⟩ = some (.slice ad ld cd))
          (with_reducible exact KEPT.out _ BL.out)
          (first
            | (go_at_call 25; (with_reducible refine (rcmp_any _ _ E2 P2 sn sd _ _ 1 (2 * hs.length + 3) _ (IR.out.below BL.out) (RT.out.below BL.out) (by have := HL.out; omega)).mono ?_); rintro e w8 ⟨rfl, hb⟩; rw [HC1.out]; have BL := Lib.hid (below_next BL.out hb); clear hb)
            | (go_at_call 28; (with_reducible refine (rplus_any _ _ N D E2 P2 _ _ L 1 _ (V.out.below BL.out) (IR.out.below BL.out) (by have := LL.out; omega)).mono ?_); rintro e w9 ⟨v9, rfl, hr, hb⟩; have S9 := Lib.hid hr; have BL := Lib.hid (below_next BL.out hb); clear hb hr)
            | (go_at_call 25; (with_reducible refine (rcmp_any _ _ sn sd (N * P2 + E2 * D) (D * P2) _ _ (2 * hs.length + 3) (L + 1 + 1) _ (RT.out.below BL.out) S9.out (by have := HL.out; have := LL.out; omega)).mono ?_); rintro e w10 ⟨rfl, hb⟩; have BL := Lib.hid (below_next BL.out hb); clear hb))
        all_goals
          rw [cmpI_le]
          go_wp2
          go_ret
          exact ⟨by rw [F2.out]; rfl, below_next B.out BL.out⟩
      · have t1 : decide (cmpI (E2 * sd) (sn * P2) ≤ 0) = false := by rw [cmpI_le]; exact decide_eq_false q1
        have F2 := Lib.hid (show fb = false by rw [FB2.out, decide_eq_false q1, Bool.false_and])
        obtain ⟨c1, hc1⟩ : ∃ c, cmpI (E2 * sd) (sn * P2) = c := ⟨_, rfl⟩
        rw [hc1] at t1
        have HC1 := Lib.hid hc1
        clear q1 hc1
        refine wp_region_noPanic ?_
        refine wp_region_held_drew (S := fun w' => w'.cell? ⟨gs, 0, none⟩ = some (.slice x1 x2 x3) ∧ w'.cell? ⟨gs, 1, none⟩ = some (.slice y1 y2 y3) ∧ w'.cell? ⟨gi, 0, none⟩ = some (.slice pa pl pc) ∧ w'.cell? ⟨gi, 1, none⟩ = some (.slice qa ql qc) ∧ w'.cell? ⟨r, 0, none⟩ = some (.slice an ln cn) ∧ w'.cell? ⟨r, 1, none⟩ = some (.slice ad ld cd)) (by kernel_rfl) (KEPT.out _ BL.out) (fun hHeld => ?_)
        refine' takeY (i := 0) (oi := _) (v := _) ?hif0 (by kernel_rfl) (by kernel_rfl) (by kernel_rfl) (fun _ _ _ h => h) ?hwf0 ?hyf0 hHeld ?restf0
        case hif0 => (simp only [List.getElem?_toArray, List.getElem?_cons_zero]; rfl)
        case hwf0 => rfl
        case hyf0 => (intro w hSw; (try dsimp only at hSw); go_simp; try with_reducible rfl)
        try simp only [Act.put, List.setIfInBounds_toArray, List.set_cons_zero, List.set_cons_succ]
        refine' takeY (i := 1) (oi := _) (v := _) ?hif1 (by kernel_rfl) (by kernel_rfl) (by kernel_rfl) (fun _ _ _ h => h) ?hwf1 ?hyf1 hHeld ?restf1
        case hif1 => (simp only [List.getElem?_toArray, List.getElem?_cons_succ, List.getElem?_cons_zero]; rfl)
        case hwf1 => rfl
        case hyf1 => (intro w hSw; (try dsimp only at hSw); go_simp; try with_reducible rfl)
        try simp only [Act.put, List.setIfInBounds_toArray, List.set_cons_zero, List.set_cons_succ]
        refine wpAnyH_ready (rs := [2]) (by kernel_rfl) (by simp) ?_
        refine' AllReadyH.cons (o := _) ?hif2 (fun K hK => ?stepf2) AllReadyH.nil
        case hif2 => (simp only [List.getElem?_toArray, List.getElem?_cons_succ, List.getElem?_cons_zero]; rfl)
        go_simp
        ((with_reducible refine (rcmp_any _ _ E2 P2 sn sd _ _ 1 (2 * hs.length + 3) _ (IR.out.below BL.out) (RT.out.below BL.out) (by have := HL.out; omega)).mono ?_); rintro e w8 ⟨rfl, hb⟩; have BL := Lib.hid (below_next BL.out hb); clear hb; rw [HC1.out])
        go_wp2_with fail
        clear hHeld
        refine hK.out _ _ (KEPT.out _ BL.out) (fun hHeld => ?_)
        clear hK K
        try simp only [Act.put, List.setIfInBounds_toArray, List.set_cons_zero, List.set_cons_succ]
        refine' takeY (i := 3) (oi := _) (v := _) ?hif3 (by kernel_rfl) (by kernel_rfl) (by kernel_rfl) (fun _ _ _ h => h) ?hwf3 ?hyf3 hHeld ?restf3
        case hif3 => (simp only [List.getElem?_toArray, List.getElem?_cons_succ, List.getElem?_cons_zero]; rfl)
        case hwf3 => rfl
        case hyf3 => (intro w hSw; (try dsimp only at hSw); go_simp; try with_reducible rfl)
        try simp only [Act.put, List.setIfInBounds_toArray, List.set_cons_zero, List.set_cons_succ]
        refine' takeY (i := 4) (oi := _) (v := _) ?hif4 (by kernel_rfl) (by kernel_rfl) (by kernel_rfl) (fun _ _ _ h => h) ?hwf4 ?hyf4 hHeld ?restf4
        case hif4 => (simp only [List.getElem?_toArray, List.getElem?_cons_succ, List.getElem?_cons_zero]; rfl)
        case hwf4 => rfl
        case hyf4 => (intro w hSw; (try dsimp only at hSw); go_simp; try with_reducible rfl)
        try simp only [Act.put, List.setIfInBounds_toArray, List.set_cons_zero, List.set_cons_succ]
        refine' takeN (i := 5) (oi := _) ?hif5 (by kernel_rfl) (by kernel_rfl) (by kernel_rfl) (fun _ _ _ h => h) ?hwf5 hHeld ?restf5
        case hif5 => (simp only [List.getElem?_toArray, List.getElem?_cons_succ, List.getElem?_cons_zero]; rfl)
        case hwf5 => rfl
        try simp only [Act.put, List.setIfInBounds_toArray, List.set_cons_zero, List.set_cons_succ]
        refine' takeN (i := 6) (oi := _) ?hif6 (by kernel_rfl) (by kernel_rfl) (by kernel_rfl) (fun _ _ _ h => h) ?hwf6 hHeld ?restf6
        case hif6 => (simp only [List.getElem?_toArray, List.getElem?_cons_succ, List.getElem?_cons_zero]; rfl)
        case hwf6 => rfl
        try simp only [Act.put, List.setIfInBounds_toArray, List.set_cons_zero, List.set_cons_succ]
        refine' takeN (i := 7) (oi := _) ?hif7 (by kernel_rfl) (by kernel_rfl) (by kernel_rfl) (fun _ _ _ h => h) ?hwf7 hHeld ?restf7
        case hif7 => (simp only [List.getElem?_toArray, List.getElem?_cons_succ, List.getElem?_cons_zero]; rfl)
        case hwf7 => rfl
        try simp only [Act.put, List.setIfInBounds_toArray, List.set_cons_zero, List.set_cons_succ]
        refine' takeN (i := 8) (oi := _) ?hif8 (by kernel_rfl) (by kernel_rfl) (by kernel_rfl) (fun _ _ _ h => h) ?hwf8 hHeld ?restf8
        case hif8 => (simp only [List.getElem?_toArray, List.getElem?_cons_succ, List.getElem?_cons_zero]; rfl)
        case hwf8 => rfl
        try simp only [Act.put, List.setIfInBounds_toArray, List.set_cons_zero, List.set_cons_succ]
        refine' takeN (i := 9) (oi := _) ?hif9 (by kernel_rfl) (by kernel_rfl) (by kernel_rfl) (fun _ _ _ h => h) ?hwf9 hHeld ?restf9
        case hif9 => (simp only [List.getElem?_toArray, List.getElem?_cons_succ, List.getElem?_cons_zero]; rfl)
        case hwf9 => rfl
        try simp only [Act.put, List.setIfInBounds_toArray, List.set_cons_zero, List.set_cons_succ]
        refine' takeN (i := 10) (oi := _) ?hif10 (by kernel_rfl) (by kernel_rfl) (by kernel_rfl) (fun _ _ _ h => h) ?hwf10 hHeld ?restf10
        case hif10 => (simp only [List.getElem?_toArray, List.getElem?_cons_succ, List.getElem?_cons_zero]; rfl)
        case hwf10 => rfl
        try simp only [Act.put, List.setIfInBounds_toArray, List.set_cons_zero, List.set_cons_succ]
        refine' takeN (i := 11) (oi := _) ?hif11 (by kernel_rfl) (by kernel_rfl) (by kernel_rfl) (fun _ _ _ h => h) ?hwf11 hHeld ?restf11
        case hif11 => (simp only [List.getElem?_toArray, List.getElem?_cons_succ, List.getElem?_cons_zero]; rfl)
        case hwf11 => rfl
        try simp only [Act.put, List.setIfInBounds_toArray, List.set_cons_zero, List.set_cons_succ]
        refine' takeN (i := 12) (oi := _) ?hif12 (by kernel_rfl) (by kernel_rfl) (by kernel_rfl) (fun _ _ _ h => h) ?hwf12 hHeld ?restf12
        case hif12 => (simp only [List.getElem?_toArray, List.getElem?_cons_succ, List.getElem?_cons_zero]; rfl)
        case hwf12 => rfl
        try simp only [Act.put, List.setIfInBounds_toArray, List.set_cons_zero, List.set_cons_succ]
        refine' takeN (i := 13) (oi := _) ?hif13 (by kernel_rfl) (by kernel_rfl) (by kernel_rfl) (fun _ _ _ h => h) ?hwf13 hHeld ?restf13
        case hif13 => (simp only [List.getElem?_toArray, List.getElem?_cons_succ, List.getElem?_cons_zero]; rfl)
        case hwf13 => rfl
        try simp only [Act.put, List.setIfInBounds_toArray, List.set_cons_zero, List.set_cons_succ]
        refine' takeY (i := 14) (oi := _) (v := _) ?hif14 (by kernel_rfl) (by kernel_rfl) (by kernel_rfl) (fun _ _ _ h => h) ?hwf14 ?hyf14 hHeld ?restf14
        case hif14 => (simp only [List.getElem?_toArray, List.getElem?_cons_succ, List.getElem?_cons_zero]; rfl)
        case hwf14 => rfl
        case hyf14 => (intro w hSw; (try dsimp only at hSw); go_simp; try with_reducible rfl)
        try simp only [Act.put, List.setIfInBounds_toArray, List.set_cons_zero, List.set_cons_succ]
        refine' takeY (i := 15) (oi := _) (v := _) ?hif15 (by kernel_rfl) (by kernel_rfl) (by kernel_rfl) (fun _ _ _ h => h) ?hwf15 ?hyf15 hHeld ?restf15
        case hif15 => (simp only [List.getElem?_toArray, List.getElem?_cons_succ, List.getElem?_cons_zero]; rfl)
        case hwf15 => rfl
        case hyf15 => (intro w hSw; (try dsimp only at hSw); go_simp; try with_reducible rfl)
        try simp only [Act.put, List.setIfInBounds_toArray, List.set_cons_zero, List.set_cons_succ]
        refine wpAnyH_done (by kernel_rfl) ?_ _
        refine NoPanic.normal ?_
        go_wp2
        go_ret
        exact ⟨by rw [F2.out]; rfl, below_next B.out BL.out⟩
    · have fb1 := fitsV_one (N := N) (D := D) (hs := hs) HM.out hM2
      rw [FB.out, hsn, hsd] at fb1
      have FB1 := Lib.hid fb1
      have HM2 := Lib.hid hM2
      clear fb1 hM2 hsn hsd
      go_wp2_with fail
      refine (r4check_any E2 P2 _ false ⟨fun h => (by cases h), fun h => absurd h HM2.out⟩).mono ?_
      rintro e w5 ⟨rfl, hb⟩
      have B := Lib.hid (below_next B.out hb)
      have BX := Lib.hid (Box.below BX.out hb)
      have RT := Lib.hid (RT.out.below hb)
      have RB := Lib.hid (RB.out.below hb)
      have V := Lib.hid (V.out.below hb)
      clear hb k0 k1
      have KEPT := Lib.hid (show ∀ w' : World, Below w5.heap.size w5 w' → w'.cell? ⟨gs, 0, none⟩ = some (.slice x1 x2 x3) ∧ w'.cell? ⟨gs, 1, none⟩ = some (.slice y1 y2 y3) ∧ w'.cell? ⟨r, 0, none⟩ = some (.slice an ln cn) ∧ w'.cell? ⟨r, 1, none⟩ = some (.slice ad ld cd) from fun w' h => ⟨(Box.below BX.out h).c0, (Box.below BX.out h).c1, (RB.out.below h).cell 0, (RB.out.below h).cell 1⟩)
      have BB := Lib.hid (show Below w5.heap.size w5 w5.drew from (Below.refl w5.heap.size w5).drew)
      go_upto_region 7 with fail
      go_region_held3 (fun w' => w'.cell? ⟨gs, 0, none⟩ = some (.slice x1 x2 x3) ∧ w'.cell? ⟨gs, 1, none⟩ = some (.slice y1 y2 y3) ∧ w'.cell? ⟨r, 0, none⟩ = some (.slice an ln cn) ∧ w'.cell? ⟨r, 1, none⟩ = some (.slice ad ld cd))
        (with_reducible exact KEPT.out _ BB.out)
        (first
          | (go_at_call 25; (with_reducible refine (rcmp_any _ _ sn sd N D _ _ (2 * hs.length + 3) L _ (RT.out.below BB.out) (V.out.below BB.out) (by have := HL.out; have := LL.out; omega)).mono ?_); rintro e w6 ⟨rfl, hb⟩; have BB := Lib.hid (below_next BB.out hb); clear hb))
      all_goals
        rw [cmpI_le]
        go_wp2
        go_ret
        exact ⟨by rw [FB1.out]; rfl, below_next B.out BB.out⟩
end Go.Proofs.Ytphlkpkbdnddlaa
