/-
  The document's own ledger (regattaref12): rows of holders that are appended to; Join: contract.
  The document's own ledger (regattaref12): a holder that is changed in place; Ask: contract.
  The document's own ledger (regattaref12): Ask: contract.
-/
import Derived.Test.YtphlkpkbdnddlaaHoA
import Derived.Test.YtphlkpkbdnddlaaRpA
import Derived.Deep.RegionLaw
namespace Go.Proofs.Ytphlkpkbdnddlaa
open Go.RowKit

theorem RowH.news {W : World} {ad : Addr} {len cap : Nat} {hs : List Hd} (h : RowH W (some ad) len cap hs) : ∀ j u, (hs.map Hd.cs).flatten[j]? = some u → W.cell? (ad.add j) = some u := by
  intro j u hu
  have hl := flatH_len hs
  have hj : j < hs.length * 6 := by
    rcases Nat.lt_or_ge j (hs.map Hd.cs).flatten.length with g | g
    · omega
    · rw [List.getElem?_eq_none g] at hu; cases hu
  have hi : j / 6 < hs.length := by omega
  have hs' : hs[j / 6]? = some hs[j / 6] := List.getElem?_eq_getElem hi
  obtain ⟨b, off, ha, hat⟩ := h.at hs'
  simp only [Option.some.injEq] at ha
  subst ha
  have hf := flatH_at hs' (k := j % 6) (by omega)
  rw [show j / 6 * 6 + j % 6 = j by omega, hu] at hf
  rw [addr_plain, show off + j = off + j / 6 * 6 + j % 6 by omega]
  have h6 : j % 6 < 6 := by omega
  obtain ⟨m, hm⟩ : ∃ m, j % 6 = m := ⟨_, rfl⟩
  rw [hm] at hf h6 ⊢
  match m, h6, hf with
  | 0, _, hf => rw [hf]; exact hat.c0
  | 1, _, hf => rw [hf]; exact hat.c1
  | 2, _, hf => rw [hf]; exact hat.c2
  | 3, _, hf => rw [hf]; exact hat.c3
  | 4, _, hf => rw [hf]; exact hat.c4
  | 5, _, hf => rw [hf]; exact hat.c5
theorem step_append_hs {w : World} {ops : Array Oper} {o : Oper} {act : Act} {K : Act → World → Prop} {Q : Exit → Act → World → Prop} {X : Prop} (hgd : o.guard = none) (s x : Operand)
    (ho : o.op = .call { callee := .builtin .append, args := #[s, x], argTypes := #[33, 33] }) (base : Nat) (v : Value) (ps0 : List Hd) (hs : act.eval s = v)
    (hown : w.ownsRow base 49 6 v ps0.length (ps0.map Hd.cs).flatten) (A : Option Addr) (m c : Nat) (ps : List Hd) (hx : act.eval x = .slice A m c) (hr : RowH w A m c ps) (hb : base ≤ w.heap.size) (hsm : ps0.length + m ≤ 1000)
    (h : ∀ v' w', w'.ownsRow base 49 6 v' (ps0 ++ ps).length ((ps0 ++ ps).map Hd.cs).flatten → w.grownBy w' v.ownBlock → (v'.ownBlock = v.ownBlock ∨ v'.ownBlock = some w.heap.size) → K (act.put o.dst v') w') :
    if Region.wanted o (yielded ops act.tmps) = true then Oper.wp Try.prog o act w K Q else X := by
  have hw : Region.wanted o (yielded ops act.tmps) = true := by simp [Region.wanted, hgd]
  rw [if_pos hw]
  obtain ⟨i0, hi, hz0, hz1, hz2⟩ := info_parts Try.infoH
  rcases A with _ | ad
  · have hc : c = 0 := hr.2.2.2.1 rfl
    have hm : m = 0 := by have := hr.2.1; omega
    subst hc hm
    have hps : ps = [] := List.length_eq_zero_iff.mp hr.len
    subst hps
    have hrun := run_append_owned_none (P := Try.prog) (w := w) base 33 o.type _ i0 6 Try.underlying33 hi v _ _ hown
    unfold Oper.wp
    simp [execOp, ho, resolve, invoke, builtin, hs, hx, hrun, Result.andThen]
    exact h v w (by rw [List.append_nil]; exact hown) (World.grownBy.refl w _) (.inl rfl)
  · obtain ⟨v2, w2, hrun, ho2, hg2, _, hat⟩ := run_append_own_at (P := Try.prog) w base 33 o.type _ i0 _ 6 48 Try.underlying33 hi hz0 hz1 hz2 rfl (by decide) v _ _ hown ad m c (ps.map Hd.cs).flatten (by rw [flatH_len, hr.len]) hr.news (onesH ps) (by unfold maxLen; omega) (by omega) hb
    unfold Oper.wp
    simp [execOp, ho, resolve, invoke, builtin, hs, hx, hrun, Result.andThen]
    refine h v2 w2 ?_ hg2 hat
    rw [List.length_append, List.map_append, List.flatten_append, hr.len]
    exact ho2
theorem wpList_append_hs {w : World} {ops : Array Oper} {rest : List Oper} {o : Oper} {act : Act} {Q : Exit → Act → World → Prop} (hgd : o.guard = none) (s x : Operand)
    (ho : o.op = .call { callee := .builtin .append, args := #[s, x], argTypes := #[33, 33] }) (base : Nat) (v : Value) (ps0 : List Hd) (hs : act.eval s = v)
    (hown : w.ownsRow base 49 6 v ps0.length (ps0.map Hd.cs).flatten) (A : Option Addr) (m c : Nat) (ps : List Hd) (hx : act.eval x = .slice A m c) (hr : RowH w A m c ps) (hb : base ≤ w.heap.size) (hsm : ps0.length + m ≤ 1000)
    (h : ∀ v' w', w'.ownsRow base 49 6 v' (ps0 ++ ps).length ((ps0 ++ ps).map Hd.cs).flatten → w.grownBy w' v.ownBlock → (v'.ownBlock = v.ownBlock ∨ v'.ownBlock = some w.heap.size) → wpList Try.prog ops Q rest (act.put o.dst v') w') : wpList Try.prog ops Q (o :: rest) act w := by
  refine wpList_plain hgd fun K hK => ?_
  obtain ⟨i0, hi, hz0, hz1, hz2⟩ := info_parts Try.infoH
  rcases A with _ | ad
  · have hc : c = 0 := hr.2.2.2.1 rfl
    have hm : m = 0 := by have := hr.2.1; omega
    subst hc hm
    have hps : ps = [] := List.length_eq_zero_iff.mp hr.len
    subst hps
    have hrun := run_append_owned_none (P := Try.prog) (w := w) base 33 o.type _ i0 6 Try.underlying33 hi v _ _ hown
    unfold Oper.wp
    simp [execOp, ho, resolve, invoke, builtin, hs, hx, hrun, Result.andThen]
    exact hK _ _ (h v w (by rw [List.append_nil]; exact hown) (World.grownBy.refl w _) (.inl rfl))
  · obtain ⟨v2, w2, hrun, ho2, hg2, _, hat⟩ := run_append_own_at (P := Try.prog) w base 33 o.type _ i0 _ 6 48 Try.underlying33 hi hz0 hz1 hz2 rfl (by decide) v _ _ hown ad m c (ps.map Hd.cs).flatten (by rw [flatH_len, hr.len]) hr.news (onesH ps) (by unfold maxLen; omega) (by omega) hb
    unfold Oper.wp
    simp [execOp, ho, resolve, invoke, builtin, hs, hx, hrun, Result.andThen]
    refine hK _ _ (h v2 w2 ?_ hg2 hat)
    rw [List.length_append, List.map_append, List.flatten_append, hr.len]
    exact ho2
theorem Blk.setH {W : World} {T : TypeId} {g : Nat} {cs : Array Value} (h : Blk W T g cs) (j : Nat) (v : Value) : Blk (W.setCell ⟨g, j, none⟩ v) T g (cs.setIfInBounds j v) := heap_setCell_same W g j cs T v h
theorem own_lit {X : World} {base g : Nat} (h : X.heap[g]? = some (.cells #[] 49 (0, 0))) (hb : base ≤ g) : X.ownsRow base 49 6 (.slice (some ⟨g, 0, none⟩) 0 0) ([] : List Hd).length (([] : List Hd).map Hd.cs).flatten :=
  ⟨rfl, .inr ⟨g, 0, #[], rfl, hb, h, Nat.le_refl _, Nat.zero_le _, rfl, rfl⟩⟩
theorem row_lit {X : World} {g : Nat} {h : Hd} (hg : X.heap[g]? = some (.cells #[.int .i64 h.id, .int .i64 h.E, .int .i64 h.P, .int .i64 h.NE, .int .i64 h.NP, .bool h.asked] 49 (0, 0))) : RowH X (some ⟨g, 0, none⟩) 1 1 [h] := by
  have hb : Blk X 49 g #[.int .i64 h.id, .int .i64 h.E, .int .i64 h.P, .int .i64 h.NE, .int .i64 h.NP, .bool h.asked] := hg
  refine ⟨rfl, by omega, by omega, (fun e => by cases e), fun i hi => ⟨g, 0, rfl, fun j hj => ?_⟩⟩
  obtain rfl : i = 0 := by omega
  rw [show 0 + 0 * 6 + j = j by omega, hb.cell j]
  show _ = h.cs[j]?
  simp [Hd.cs]
theorem hrow_of_owns {W : World} {base : Nat} {v : Value} {hs : List Hd} (h : W.ownsRow base 49 6 v hs.length (hs.map Hd.cs).flatten) : ∃ a cap, v = .slice a hs.length cap ∧ RowH W a hs.length cap hs ∧ Fresh base a := rowF_of_owns (wideH hs) h (by rw [List.length_map])
set_option maxRecDepth 20000 in
set_option maxHeartbeats 8000000 in
theorem r12join_new (r : Nat) (F : Nat → Prop) (v : Value) (hs : List Hd) (id E P N D : Int) (L b : Nat) (w : World) (h : RL w r F v hs) (hv : Rat w b L v N D) (g : ∀ x ∈ hs, GoodH x) (hM : MayBe E P) (hid : ∀ x ∈ hs, x.id ≠ id) (hl : hs.length ≤ 19) (hL : L ≤ 9) (c : Int) (hs' : List Hd) (hc : fitH N D (hs ++ [newH id E P]) = true → c = 0 ∧ hs' = hs ++ [newH id E P]) (hc' : fitH N D (hs ++ [newH id E P]) = false → c = 18 ∧ hs' = hs) :
    Calls Try.prog 24 #[.pointer (some ⟨r, 0, none⟩), .int .i64 id, .agg #[.int .i64 E, .int .i64 P]] w fun e w' => e = .returned (.int .i64 c) ∧ HStay w r F v hs' w' := by
  have HC := Lib.hid hc
  have HC' := Lib.hid hc'
  clear hc hc'
  have H := Lib.hid h
  have V := Lib.hid hv
  have HM := Lib.hid hM
  have HI := Lib.hid hid
  have HL := Lib.hid hl
  have LL := Lib.hid hL
  have G := Lib.hid (show ∀ x ∈ hs ++ [newH id E P], GoodH x from fun x hx => by
    rcases List.mem_append.mp hx with q | q
    · exact g x q
    · simp at q; subst q; exact ⟨hM, fun e => by cases e⟩)
  clear h hv hM hid g hl hL
  have K := Lib.hid (Blk.new w 39 #[.int .i64 E, .int .i64 P])
  go_enter Try.func24, Try.ntmps24
  go_wp2_with fail
  refine (r4check_yes E P _ HM.out).mono ?_
  rintro e w1 ⟨rfl, hb⟩
  have K := Lib.hid (K.out.below hb)
  have B1 := Lib.hid (below_next (wbox _ _) hb)
  clear hb
  go_wp2_with fail
  refine (r12at_any r F v hs id _ (H.out.below B1.out)).mono ?_
  rintro e w2 ⟨k, rfl, hk, rfl⟩
  have hn : k < 0 := by
    rcases at_neg hk with ⟨hn, _, _⟩ | ⟨_, j, x, _, hj, hx⟩
    · exact hn
    · exact absurd hx (HI.out x (List.mem_of_getElem? hj))
  have t : decide (0 ≤ k) = false := decide_eq_false (by omega)
  clear hk hn
  obtain ⟨w2, hw2⟩ : ∃ w2, w1 = w2 := ⟨_, rfl⟩
  rw [hw2] at K B1 ⊢
  clear hw2 w1
  have H2 := Lib.hid (H.out.below B1.out)
  obtain ⟨an, ln, cn, ad, ld, cd, u, hvv, hbl, hq, hnu, hF⟩ := H2.out
  obtain ⟨a, cap, rfl, hr⟩ := hq.row
  obtain ⟨n, hn0⟩ : ∃ n, hs.length = n := ⟨_, rfl⟩
  rw [hn0] at hbl hr
  have c2 := hbl.cell 2
  simp at c2
  have HN := Lib.hid hn0
  have R := Lib.hid hr
  have RB := Lib.hid hbl
  obtain ⟨bw, hbw⟩ : ∃ bw, w.heap.size = bw := ⟨_, rfl⟩
  have SW := Lib.hid (show bw < w2.heap.size by rw [← hbw]; exact K.out.lt)
  rw [hbw] at K ⊢
  have k0 := K.out.cell 0; have k1 := K.out.cell 1
  simp at k0 k1
  have NL := Lib.hid (show ∀ X : World, (Blk X 35 r #[.slice an ln cn, .slice ad ld cd, .slice a n cap] → X.cell? ⟨r, 2, none⟩ = some (.slice a n cap)) from fun X h => by have := h.cell 2; simpa using this)
  have HE := Lib.hid (show newH id E P = ⟨id, E, P, 0, 0, false⟩ from rfl)
  obtain ⟨nh, hnh⟩ : ∃ x, newH id E P = x := ⟨_, rfl⟩
  have NB := Lib.hid (show ∀ (X : World) (g : Nat), X.heap[g]? = some (Obj.cells #[.int .i64 id, .int .i64 E, .int .i64 P, .int .i64 0, .int .i64 0, .bool false] 49) → RowH X (some ⟨g, 0, none⟩) 1 1 [nh] from fun X g h => by rw [← hnh]; exact row_lit (h := newH id E P) h)
  rw [hnh] at G
  have NE := Lib.hid hnh
  have BX1 := Lib.hid (show Below w2.heap.size w2 (World.drew (w2.alloc (Obj.cells #[] 49))) from ((Below.refl w2.heap.size w2).alloc (Nat.le_refl _) _).drew)
  have BX2 := Lib.hid (show Below w2.heap.size w2 (World.drew ((w2.alloc (Obj.cells #[] 49)).alloc (Obj.cells #[.int .i64 id, .int .i64 E, .int .i64 P, .int .i64 0, .int .i64 0, .bool false] 49))) from (((Below.refl w2.heap.size w2).alloc (Nat.le_refl _) _).alloc (by simp) _).drew)
  have BX3 := Lib.hid (show Below w2.heap.size w2 (World.drew ((w2.alloc (Obj.cells #[.int .i64 id, .int .i64 E, .int .i64 P, .int .i64 0, .int .i64 0, .bool false] 49)).alloc (Obj.cells #[] 49))) from (((Below.refl w2.heap.size w2).alloc (Nat.le_refl _) _).alloc (by simp) _).drew)
  have OA1 := Lib.hid (show World.ownsRow (World.drew (w2.alloc (Obj.cells #[] 49))) w2.heap.size 49 6 (.slice (some ⟨w2.heap.size, 0, none⟩) 0 0) ([] : List Hd).length (([] : List Hd).map Hd.cs).flatten from own_lit (X := (World.drew (w2.alloc (Obj.cells #[] 49)))) (heap_alloc_new w2 _) (by omega))
  have OA2 := Lib.hid (show World.ownsRow (World.drew ((w2.alloc (Obj.cells #[] 49)).alloc (Obj.cells #[.int .i64 id, .int .i64 E, .int .i64 P, .int .i64 0, .int .i64 0, .bool false] 49))) w2.heap.size 49 6 (.slice (some ⟨w2.heap.size, 0, none⟩) 0 0) ([] : List Hd).length (([] : List Hd).map Hd.cs).flatten from own_lit (X := (World.drew ((w2.alloc (Obj.cells #[] 49)).alloc (Obj.cells #[.int .i64 id, .int .i64 E, .int .i64 P, .int .i64 0, .int .i64 0, .bool false] 49)))) ((Below.heap_alloc _ _ _ (by simp)).trans (heap_alloc_new w2 _)) (by omega))
  have OA3 := Lib.hid (show World.ownsRow (World.drew ((w2.alloc (Obj.cells #[.int .i64 id, .int .i64 E, .int .i64 P, .int .i64 0, .int .i64 0, .bool false] 49)).alloc (Obj.cells #[] 49))) w2.heap.size 49 6 (.slice (some ⟨w2.heap.size + 1, 0, none⟩) 0 0) ([] : List Hd).length (([] : List Hd).map Hd.cs).flatten from own_lit (X := (World.drew ((w2.alloc (Obj.cells #[.int .i64 id, .int .i64 E, .int .i64 P, .int .i64 0, .int .i64 0, .bool false] 49)).alloc (Obj.cells #[] 49)))) (by rw [← wsize w2 (Obj.cells #[.int .i64 id, .int .i64 E, .int .i64 P, .int .i64 0, .int .i64 0, .bool false] 49)]; exact heap_alloc_new _ _) (by omega))
  have LB2 := Lib.hid (show (World.drew ((w2.alloc (Obj.cells #[] 49)).alloc (Obj.cells #[.int .i64 id, .int .i64 E, .int .i64 P, .int .i64 0, .int .i64 0, .bool false] 49))).heap[w2.heap.size + 1]? = some (Obj.cells #[.int .i64 id, .int .i64 E, .int .i64 P, .int .i64 0, .int .i64 0, .bool false] 49) by rw [← wsize w2 (Obj.cells #[] 49)]; exact heap_alloc_new _ _)
  have LB3 := Lib.hid (show (World.drew ((w2.alloc (Obj.cells #[.int .i64 id, .int .i64 E, .int .i64 P, .int .i64 0, .int .i64 0, .bool false] 49)).alloc (Obj.cells #[] 49))).heap[w2.heap.size]? = some (Obj.cells #[.int .i64 id, .int .i64 E, .int .i64 P, .int .i64 0, .int .i64 0, .bool false] 49) from (Below.heap_alloc _ _ _ (by simp)).trans (heap_alloc_new w2 _))
  have R1 := Lib.hid (R.out.below BX1.out); have R2 := Lib.hid (R.out.below BX2.out); have R3 := Lib.hid (R.out.below BX3.out)
  have SZ1 := Lib.hid (show (World.drew (w2.alloc (Obj.cells #[] 49))).heap.size = w2.heap.size + 1 by simp); have SZ2 := Lib.hid (show (World.drew ((w2.alloc (Obj.cells #[] 49)).alloc (Obj.cells #[.int .i64 id, .int .i64 E, .int .i64 P, .int .i64 0, .int .i64 0, .bool false] 49))).heap.size = w2.heap.size + 2 by simp); have SZ3 := Lib.hid (show (World.drew ((w2.alloc (Obj.cells #[.int .i64 id, .int .i64 E, .int .i64 P, .int .i64 0, .int .i64 0, .bool false] 49)).alloc (Obj.cells #[] 49))).heap.size = w2.heap.size + 2 by simp)
  have ea2 := NL.out (w2.alloc (Obj.cells #[] 49)) (hbl.below (wbox w2 _))
  have ea0 := (K.out.below (wbox w2 _ : Below w2.heap.size w2 (w2.alloc (Obj.cells #[] 49)))).cell 0
  have ea1 := (K.out.below (wbox w2 _ : Below w2.heap.size w2 (w2.alloc (Obj.cells #[] 49)))).cell 1
  have eb2 := NL.out (w2.alloc (Obj.cells #[.int .i64 id, .int .i64 E, .int .i64 P, .int .i64 0, .int .i64 0, .bool false] 49)) (hbl.below (wbox w2 _))
  have eb0 := (K.out.below (wbox w2 _ : Below w2.heap.size w2 (w2.alloc (Obj.cells #[.int .i64 id, .int .i64 E, .int .i64 P, .int .i64 0, .int .i64 0, .bool false] 49)))).cell 0
  have eb1 := (K.out.below (wbox w2 _ : Below w2.heap.size w2 (w2.alloc (Obj.cells #[.int .i64 id, .int .i64 E, .int .i64 P, .int .i64 0, .int .i64 0, .bool false] 49)))).cell 1
  have ec2 := NL.out ((w2.alloc (Obj.cells #[] 49)).alloc (Obj.cells #[.int .i64 id, .int .i64 E, .int .i64 P, .int .i64 0, .int .i64 0, .bool false] 49)) (hbl.below (wbox2 w2 _ _))
  have ec0 := (K.out.below (wbox2 w2 _ _ : Below w2.heap.size w2 ((w2.alloc (Obj.cells #[] 49)).alloc (Obj.cells #[.int .i64 id, .int .i64 E, .int .i64 P, .int .i64 0, .int .i64 0, .bool false] 49)))).cell 0
  have ec1 := (K.out.below (wbox2 w2 _ _ : Below w2.heap.size w2 ((w2.alloc (Obj.cells #[] 49)).alloc (Obj.cells #[.int .i64 id, .int .i64 E, .int .i64 P, .int .i64 0, .int .i64 0, .bool false] 49)))).cell 1
  have ed2 := NL.out ((w2.alloc (Obj.cells #[.int .i64 id, .int .i64 E, .int .i64 P, .int .i64 0, .int .i64 0, .bool false] 49)).alloc (Obj.cells #[] 49)) (hbl.below (wbox2 w2 _ _))
  have ed0 := (K.out.below (wbox2 w2 _ _ : Below w2.heap.size w2 ((w2.alloc (Obj.cells #[.int .i64 id, .int .i64 E, .int .i64 P, .int .i64 0, .int .i64 0, .bool false] 49)).alloc (Obj.cells #[] 49)))).cell 0
  have ed1 := (K.out.below (wbox2 w2 _ _ : Below w2.heap.size w2 ((w2.alloc (Obj.cells #[.int .i64 id, .int .i64 E, .int .i64 P, .int .i64 0, .int .i64 0, .bool false] 49)).alloc (Obj.cells #[] 49)))).cell 1
  simp only [List.getElem?_toArray, List.getElem?_cons_zero, List.getElem?_cons_succ] at ea0 ea1 eb0 eb1 ec0 ec1 ed0 ed1
  clear hbl hq hr hnu hF hn0 hnh hbw
  go_upto_region 6 with fail
  go_cut [8] (fun s8 wx => wx.ownsRow w2.heap.size 49 6 s8 (hs ++ [nh]).length ((hs ++ [nh]).map Hd.cs).flatten ∧ Below w2.heap.size w2 wx)
  case first =>
    go_region_law (first
      | (refine step_append_hs (w := (World.drew ((w2.alloc (Obj.cells #[] 49)).alloc (Obj.cells #[.int .i64 id, .int .i64 E, .int .i64 P, .int .i64 0, .int .i64 0, .bool false] 49)))) rfl _ _ rfl w2.heap.size (.slice (some ⟨w2.heap.size, 0, none⟩) 0 0) [] rfl OA2.out a n cap hs rfl R2.out (by have := SZ2.out; omega) (by have := HL.out; have := HN.out; simp; omega) ?_; intro v1 w3 ho1 hg1 hat1; have O1 := Lib.hid (show w3.ownsRow w2.heap.size 49 6 v1 hs.length (hs.map Hd.cs).flatten from ho1); have BB := Lib.hid (show Below w2.heap.size w2 w3 from BX2.out.grown hg1 (by have := SZ2.out; omega) (fun x e => by simp [Value.ownBlock] at e; omega)); have AT := Lib.hid (show v1.ownBlock = some (w2.heap.size) ∨ v1.ownBlock = some (World.drew ((w2.alloc (Obj.cells #[] 49)).alloc (Obj.cells #[.int .i64 id, .int .i64 E, .int .i64 P, .int .i64 0, .int .i64 0, .bool false] 49))).heap.size from hat1); have LB := Lib.hid (show w3.heap[w2.heap.size + 1]? = some (Obj.cells #[.int .i64 id, .int .i64 E, .int .i64 P, .int .i64 0, .int .i64 0, .bool false] 49) from (hg1.block _ (by have := SZ2.out; omega) (by simp [Value.ownBlock])).trans LB2.out); have K3 := Lib.hid (K.out.below BB.out); have k30 := K3.out.cell 0; have k31 := K3.out.cell 1; simp only [List.getElem?_toArray, List.getElem?_cons_zero, List.getElem?_cons_succ] at k30 k31; clear ho1 hg1 hat1)
      | (refine step_append_hs (w := (World.drew ((w2.alloc (Obj.cells #[.int .i64 id, .int .i64 E, .int .i64 P, .int .i64 0, .int .i64 0, .bool false] 49)).alloc (Obj.cells #[] 49)))) rfl _ _ rfl w2.heap.size (.slice (some ⟨w2.heap.size + 1, 0, none⟩) 0 0) [] rfl OA3.out a n cap hs rfl R3.out (by have := SZ3.out; omega) (by have := HL.out; have := HN.out; simp; omega) ?_; intro v1 w3 ho1 hg1 hat1; have O1 := Lib.hid (show w3.ownsRow w2.heap.size 49 6 v1 hs.length (hs.map Hd.cs).flatten from ho1); have BB := Lib.hid (show Below w2.heap.size w2 w3 from BX3.out.grown hg1 (by have := SZ3.out; omega) (fun x e => by simp [Value.ownBlock] at e; omega)); have AT := Lib.hid (show v1.ownBlock = some (w2.heap.size + 1) ∨ v1.ownBlock = some (World.drew ((w2.alloc (Obj.cells #[.int .i64 id, .int .i64 E, .int .i64 P, .int .i64 0, .int .i64 0, .bool false] 49)).alloc (Obj.cells #[] 49))).heap.size from hat1); have LB := Lib.hid (show w3.heap[w2.heap.size]? = some (Obj.cells #[.int .i64 id, .int .i64 E, .int .i64 P, .int .i64 0, .int .i64 0, .bool false] 49) from (hg1.block _ (by have := SZ3.out; omega) (by simp [Value.ownBlock])).trans LB3.out); have K3 := Lib.hid (K.out.below BB.out); have k30 := K3.out.cell 0; have k31 := K3.out.cell 1; simp only [List.getElem?_toArray, List.getElem?_cons_zero, List.getElem?_cons_succ] at k30 k31; clear ho1 hg1 hat1)
      | (refine step_append_hs (w := (World.drew (w2.alloc (Obj.cells #[] 49)))) rfl _ _ rfl w2.heap.size (.slice (some ⟨w2.heap.size, 0, none⟩) 0 0) [] rfl OA1.out a n cap hs rfl R1.out (by have := SZ1.out; omega) (by have := HL.out; have := HN.out; simp; omega) ?_; intro v1 w3 ho1 hg1 hat1; have O1 := Lib.hid (show w3.ownsRow w2.heap.size 49 6 v1 hs.length (hs.map Hd.cs).flatten from ho1); have BB := Lib.hid (show Below w2.heap.size w2 w3 from BX1.out.grown hg1 (by have := SZ1.out; omega) (fun x e => by simp [Value.ownBlock] at e; omega)); have AT := Lib.hid (show v1.ownBlock = some (w2.heap.size) ∨ v1.ownBlock = some (World.drew (w2.alloc (Obj.cells #[] 49))).heap.size from hat1);  have K3 := Lib.hid (K.out.below BB.out); have k30 := K3.out.cell 0; have k31 := K3.out.cell 1; simp only [List.getElem?_toArray, List.getElem?_cons_zero, List.getElem?_cons_succ] at k30 k31; clear ho1 hg1 hat1)
      | (refine step_append_hs (w := w3) rfl _ _ rfl w2.heap.size v1 hs rfl O1.out (some ⟨w2.heap.size + 1, 0, none⟩) 1 1 [nh] rfl (NB.out w3 _ LB.out) BB.out.size (by have := HL.out; omega) ?_; intro v2 w4 ho2 hg2 _; have O2 := Lib.hid ho2; have B2 := Lib.hid (BB.out.grown hg2 BB.out.size (fun x e => (O1.out.lt x e).1)); clear ho2 hg2)
      | (refine step_append_hs (w := w3) rfl _ _ rfl w2.heap.size v1 hs rfl O1.out (some ⟨w2.heap.size, 0, none⟩) 1 1 [nh] rfl (NB.out w3 _ LB.out) BB.out.size (by have := HL.out; omega) ?_; intro v2 w4 ho2 hg2 _; have O2 := Lib.hid ho2; have B2 := Lib.hid (BB.out.grown hg2 BB.out.size (fun x e => (O1.out.lt x e).1)); clear ho2 hg2)
      | (refine step_append_hs (w := (w3.alloc (Obj.cells #[.int .i64 id, .int .i64 E, .int .i64 P, .int .i64 0, .int .i64 0, .bool false] 49))) rfl _ _ rfl w2.heap.size v1 hs rfl (owns_below O1.out (wbox w3 _)) (some ⟨w3.heap.size, 0, none⟩) 1 1 [nh] rfl (NB.out (w3.alloc (Obj.cells #[.int .i64 id, .int .i64 E, .int .i64 P, .int .i64 0, .int .i64 0, .bool false] 49)) _ (heap_alloc_new w3 _)) (by have := BB.out.size; simp; omega) (by have := HL.out; omega) ?_; intro v2 w4 ho2 hg2 _; have O2 := Lib.hid ho2; have B2 := Lib.hid ((BB.out.alloc BB.out.size _).grown hg2 (by have := BB.out.size; simp; omega) (fun x e => (O1.out.lt x e).1)); clear ho2 hg2))
    all_goals
      go_wp2_with fail
      go_meet
      exact ⟨O2.out, B2.out⟩
  case rest =>
    obtain ⟨hown, hbel⟩ := hcut
    obtain ⟨a8, cap8, rfl, hr8, hf8⟩ := hrow_of_owns hown
    clear ea0 ea1 ea2 eb0 eb1 eb2 ec0 ec1 ec2 ed0 ed1 ed2 c2 k0 k1 OA1 OA2 OA3 LB2 LB3 R1 R2 R3 BX1 BX2 BX3 SZ1 SZ2 SZ3
    have O8 := Lib.hid hown; have B8 := Lib.hid hbel; have R8 := Lib.hid hr8
    have H8 := Lib.hid (H2.out.below hbel)
    have V8 := Lib.hid ((V.out.below B1.out).below hbel)
    have RB8 := Lib.hid (RB.out.below hbel)
    obtain ⟨m, hm⟩ : ∃ m, (hs ++ [nh]).length = m := ⟨_, rfl⟩
    have HMM := Lib.hid (show m = hs.length + 1 by rw [← hm]; simp)
    obtain ⟨ls2, hls2⟩ : ∃ l, hs ++ [nh] = l := ⟨_, rfl⟩
    rw [hls2] at O8 R8 G hm
    rw [hls2]
    rw [hm] at R8
    rw [hm]
    have LS2 := Lib.hid hls2
    have LM := Lib.hid hm
    obtain ⟨fb, hfb⟩ : ∃ fb, fitH N D ls2 = fb := ⟨_, rfl⟩
    have FB := Lib.hid hfb
    clear hown hbel hr8 hf8 hm hls2 hfb
    go_wp2_with fail
    refine (r12fits_any r F v hs N D L b a8 m cap8 ls2 _ H8.out V8.out R8.out G.out (by have := HMM.out; have := HL.out; omega) (by have := HMM.out; have := HL.out; have := LL.out; omega)).mono ?_
    rintro e w5 ⟨rfl, hb⟩
    rw [FB.out]
    have B5 := Lib.hid hb
    have RB5 := Lib.hid (RB8.out.below hb)
    have O5 := Lib.hid (owns_below O8.out hb)
    have BT := Lib.hid (show Below w2.heap.size w2 w5 from below_next B8.out hb)
    clear hb
    cases fb with
    | false =>
      go_wp2
      go_ret
      obtain ⟨q1, q2⟩ := HC'.out (by rw [NE.out, LS2.out, FB.out])
      subst q1 q2
      exact ⟨rfl, H.out.stay (below_next B1.out BT.out)⟩
    | true =>
      have r2 := RB5.out.cell 2
      have f2 := RB5.out.free 2
      simp at r2
      have LR := Lib.hid (show r < w.heap.size from H.out.lies r (by obtain ⟨_, _, _, _, _, _, _, _, _, _, _, q⟩ := H.out; exact (q r).mpr (.inl rfl)))
      have FIN := Lib.hid (show HStay w r F v ls2 (w5.setCell ⟨r, 2, none⟩ (.slice a8 m cap8)) by
        obtain ⟨an', ln', cn', ad', ld', cd', u', hv', hb', hq', hn', hF'⟩ := (H2.out.below BT.out)
        have fr := (hF' r).mpr (.inl rfl)
        have own : ∀ g, (Value.slice a8 m cap8).ownBlock = some g → w2.heap.size ≤ g ∧ g < w5.heap.size := fun g hg => by
          have := O5.out
          rw [LM.out] at this
          exact this.lt g hg
        have S12 := B1.out.size
        have LR' := LR.out
        refine ⟨fun k => k = r ∨ (Value.slice a8 m cap8).ownBlock = some k, ⟨an', ln', cn', ad', ld', cd', .slice a8 m cap8, hv', Blk.setH hb' 2 _, ?_, fun e => by have := own r e; omega, fun k => Iff.rfl⟩, ⟨(Keeps.of (F := F) (below_next B1.out BT.out)).set (.inl fr) _ _, fun k q => ?_, fun k q => ?_⟩⟩
        · have q5 := O5.out
          rw [LM.out] at q5
          unfold QueH
          rw [LM.out]
          exact ((QueR.of_owns q5).base (fun _ _ => Nat.zero_le _)).carry (fun g hg => Below.heap_setCell _ _ _ _ (fun e => by have := own g hg; simp at e; omega))
        · rcases q with rfl | q
          · exact .inl fr
          · exact .inr (by have := own k q; omega)
        · rcases q with rfl | q
          · have := hb'.lt; simpa using this
          · have := own k q; simpa using this.2)
      go_wp2
      go_ret
      obtain ⟨q1, q2⟩ := HC.out (by rw [NE.out, LS2.out, FB.out])
      rw [NE.out, LS2.out] at q2
      subst q1 q2
      exact ⟨rfl, FIN.out⟩
end Go.Proofs.Ytphlkpkbdnddlaa
namespace Go.Proofs.Ytphlkpkbdnddlaa
open Go.RowKit

theorem cOther {w : World} {a b : Addr} {v : Value} (h : a ≠ b) : (w.setCell a v).cell? b = w.cell? b := World.cell?_setCell_other w a b v h
theorem cSame {w : World} {a : Addr} {v u : Value} (h : w.cell? a = some u) : (w.setCell a v).cell? a = some v := World.cell?_setCell_same w a v h
theorem hd_cell {W : World} {g o : Nat} {s : Hd} (h : HdAt W g o s) {k : Nat} (hk : k < 6) : W.cell? ⟨g, o + k, none⟩ = s.cs[k]? := by
  match k, hk with
  | 0, _ => exact h.c0
  | 1, _ => exact h.c1
  | 2, _ => exact h.c2
  | 3, _ => exact h.c3
  | 4, _ => exact h.c4
  | 5, _ => exact h.c5
theorem cs_len (s : Hd) : s.cs.length = 6 := rfl
/-- a row that reads so, in a block of its own -/
theorem QueH.of_at {W : World} {g off cap : Nat} {cur : Array Value} {l : List Hd} (hg : W.heap[g]? = some (.cells cur 49 (0, 0))) (h1 : l.length ≤ cap) (h2 : cap ≤ maxLen) (h3 : off + cap * 6 ≤ cur.size) (h : ∀ i s, l[i]? = some s → HdAt W g (off + i * 6) s) : QueH W (.slice (some ⟨g, off, none⟩) l.length cap) l := by
  refine ⟨flatH_len l, .inr ⟨g, off, cap, cur, rfl, Nat.zero_le _, hg, h1, h2, h3, ?_⟩⟩
  have hm := Nat.mul_le_mul_right 6 h1
  refine List.ext_getElem? fun k => ?_
  rcases Nat.lt_or_ge k (l.length * 6) with hk | hk
  · have hi : k / 6 < l.length := by omega
    have hs : l[k / 6]? = some l[k / 6] := List.getElem?_eq_getElem hi
    have hf := flatH_at hs (k := k % 6) (by omega)
    rw [show k / 6 * 6 + k % 6 = k by omega] at hf
    rw [hf, ← hd_cell (h _ _ hs) (show k % 6 < 6 by omega), show off + k / 6 * 6 + k % 6 = off + k by omega]
    rw [cell_of_row W g (off + k) cur _ (0, 0) hg, List.getElem?_take, if_pos hk, List.getElem?_drop, Array.getElem?_toList]
  · rw [List.getElem?_eq_none (l := (l.map Hd.cs).flatten) (by rw [flatH_len]; exact hk), List.getElem?_eq_none (by rw [List.length_take]; omega)]
/-- where a row of one's own lies -/
theorem own_block {W : World} {base : Nat} {v : Value} {hs : List Hd} (h : W.ownsRow base 49 6 v hs.length (hs.map Hd.cs).flatten) (h0 : 0 < hs.length) : ∃ g cap cur, v = .slice (some ⟨g, 0, none⟩) hs.length cap ∧ base ≤ g ∧ W.heap[g]? = some (.cells cur 49 (0, 0)) ∧ hs.length ≤ cap ∧ cap ≤ maxLen ∧ 0 + cap * 6 ≤ cur.size ∧ ∀ i s, hs[i]? = some s → HdAt W g (0 + i * 6) s := by
  obtain ⟨a, cap', hv, hr, _⟩ := hrow_of_owns h
  rcases h.2 with ⟨_, h2⟩ | ⟨g, cap, cur, hv2, hb, hg, h1, h2, h3, _⟩
  · omega
  · rw [hv2] at hv
    simp only [Value.slice.injEq] at hv
    obtain ⟨rfl, _, rfl⟩ := hv
    refine ⟨g, cap, cur, hv2, hb, hg, h1, h2, by omega, fun i s hs' => ?_⟩
    obtain ⟨b, off, he, hat⟩ := hr.at hs'
    simp only [Option.some.injEq, Addr.mk.injEq, and_true] at he
    obtain ⟨rfl, rfl⟩ := he
    exact hat
theorem addr_ne {g a b : Nat} (h : a ≠ b) : (⟨g, a, none⟩ : Addr) ≠ ⟨g, b, none⟩ := fun e => h (by cases e; rfl)
theorem HdAt.set {W : World} {g o p : Nat} {s : Hd} (h : HdAt W g o s) (u : Value) (hp : p < o ∨ o + 6 ≤ p) : HdAt (W.setCell ⟨g, p, none⟩ u) g o s := by
  have q : ∀ k, k < 6 → (W.setCell ⟨g, p, none⟩ u).cell? ⟨g, o + k, none⟩ = W.cell? ⟨g, o + k, none⟩ := fun k hk => cOther (addr_ne (by omega))
  exact ⟨(q 0 (by omega)).trans h.c0, (q 1 (by omega)).trans h.c1, (q 2 (by omega)).trans h.c2, (q 3 (by omega)).trans h.c3, (q 4 (by omega)).trans h.c4, (q 5 (by omega)).trans h.c5⟩
def askH (x : Hd) (E P : Int) : Hd := ⟨x.id, x.E, x.P, E, P, true⟩
theorem HdAt.ask {W : World} {g o : Nat} {s : Hd} (h : HdAt W g o s) (E P : Int) : HdAt (((W.setCell ⟨g, o + 3, none⟩ (.int .i64 E)).setCell ⟨g, o + 4, none⟩ (.int .i64 P)).setCell ⟨g, o + 5, none⟩ (.bool true)) g o (askH s E P) := by
  have n : ∀ a b : Nat, a ≠ b → (⟨g, o + a, none⟩ : Addr) ≠ ⟨g, o + b, none⟩ := fun a b h => addr_ne (by omega)
  have n0 : ∀ b : Nat, 0 ≠ b → (⟨g, o + b, none⟩ : Addr) ≠ ⟨g, o, none⟩ := fun b h => addr_ne (by omega)
  refine ⟨?_, ?_, ?_, ?_, ?_, ?_⟩
  · rw [cOther (n0 5 (by omega)), cOther (n0 4 (by omega)), cOther (n0 3 (by omega))]; exact h.c0
  · rw [cOther (n 5 1 (by omega)), cOther (n 4 1 (by omega)), cOther (n 3 1 (by omega))]; exact h.c1
  · rw [cOther (n 5 2 (by omega)), cOther (n 4 2 (by omega)), cOther (n 3 2 (by omega))]; exact h.c2
  · rw [cOther (n 5 3 (by omega)), cOther (n 4 3 (by omega))]; exact cSame h.c3
  · rw [cOther (n 5 4 (by omega))]; exact cSame ((cOther (n 3 4 (by omega))).trans h.c4)
  · exact cSame ((cOther (n 4 5 (by omega))).trans ((cOther (n 3 5 (by omega))).trans h.c5))
/-- the row behind it -/
theorem QueH.asked {W : World} {g cap : Nat} {cur : Array Value} {l : List Hd} {j : Nat} {x : Hd} (E P : Int) (hg : W.heap[g]? = some (.cells cur 49 (0, 0))) (h1 : l.length ≤ cap) (h2 : cap ≤ maxLen) (h3 : 0 + cap * 6 ≤ cur.size) (h : ∀ i s, l[i]? = some s → HdAt W g (0 + i * 6) s) (hj : l[j]? = some x) :
    QueH (((W.setCell ⟨g, 0 + j * 6 + 3, none⟩ (.int .i64 E)).setCell ⟨g, 0 + j * 6 + 4, none⟩ (.int .i64 P)).setCell ⟨g, 0 + j * 6 + 5, none⟩ (.bool true)) (.slice (some ⟨g, 0, none⟩) l.length cap) (l.set j (askH x E P)) := by
  have hb := Blk.setH (Blk.setH (Blk.setH (W := W) (T := 49) (g := g) (cs := cur) hg (0 + j * 6 + 3) (.int .i64 E)) (0 + j * 6 + 4) (.int .i64 P)) (0 + j * 6 + 5) (.bool true)
  have hl : (l.set j (askH x E P)).length = l.length := List.length_set
  rw [← hl]
  refine QueH.of_at (off := 0) hb (by rw [hl]; exact h1) h2 (by simp only [Array.size_setIfInBounds]; exact h3) fun i s hi => ?_
  by_cases e : j = i
  · subst e
    have hlt : j < l.length := by
      rcases Nat.lt_or_ge j l.length with q | q
      · exact q
      · rw [List.getElem?_eq_none q] at hj; cases hj
    rw [List.getElem?_set_self hlt] at hi
    cases hi
    exact (h j x hj).ask E P
  · rw [List.getElem?_set_ne e] at hi
    exact (((h i s hi).set _ (by omega)).set _ (by omega)).set _ (by omega)
end Go.Proofs.Ytphlkpkbdnddlaa
namespace Go.Proofs.Ytphlkpkbdnddlaa
open Go.RowKit

set_option maxHeartbeats 2000000 in
theorem r12ask_arg (r : Nat) (F : Nat → Prop) (v : Value) (hs : List Hd) (id E P : Int) (w : World) (h : RL w r F v hs) (hM : ¬ MayBe E P) :
    Calls Try.prog 14 #[.pointer (some ⟨r, 0, none⟩), .int .i64 id, .agg #[.int .i64 E, .int .i64 P]] w fun e w' => e = .returned (.int .i64 1) ∧ HStay w r F v hs w' := by
  have H := Lib.hid h
  have HM := Lib.hid hM
  clear h hM
  go_enter Try.func14, Try.ntmps14
  go_wp2_with fail
  refine (r4check_any E P _ false ⟨fun h => (by cases h), fun h => absurd h HM.out⟩).mono ?_
  rintro e w1 ⟨rfl, hb⟩
  have B := Lib.hid (below_next (wbox _ _) hb)
  clear hb
  go_wp2
  go_ret
  exact ⟨rfl, H.out.stay B.out⟩
set_option maxHeartbeats 2000000 in
theorem r12ask_none (r : Nat) (F : Nat → Prop) (v : Value) (hs : List Hd) (id E P : Int) (w : World) (h : RL w r F v hs) (hM : MayBe E P) (hid : ∀ x ∈ hs, x.id ≠ id) :
    Calls Try.prog 14 #[.pointer (some ⟨r, 0, none⟩), .int .i64 id, .agg #[.int .i64 E, .int .i64 P]] w fun e w' => e = .returned (.int .i64 12) ∧ HStay w r F v hs w' := by
  have H := Lib.hid h
  have HM := Lib.hid hM
  have HI := Lib.hid hid
  clear h hM hid
  go_enter Try.func14, Try.ntmps14
  go_wp2_with fail
  refine (r4check_yes E P _ HM.out).mono ?_
  rintro e w1 ⟨rfl, hb⟩
  have B := Lib.hid (below_next (wbox _ _) hb)
  clear hb
  go_wp2_with fail
  refine (r12at_any r F v hs id _ (H.out.below B.out)).mono ?_
  rintro e w2 ⟨k, rfl, hk, rfl⟩
  have hn : k < 0 := by
    rcases at_neg hk with ⟨hn, _, _⟩ | ⟨_, j, x, _, hj, hx⟩
    · exact hn
    · exact absurd hx (HI.out x (List.mem_of_getElem? hj))
  have t : decide (k < 0) = true := decide_eq_true hn
  clear hk hn
  go_wp2
  go_ret
  exact ⟨rfl, H.out.stay B.out⟩
set_option maxHeartbeats 2000000 in
theorem r12ask_state (r : Nat) (F : Nat → Prop) (v : Value) (hs : List Hd) (id E P : Int) (j : Nat) (x : Hd) (w : World) (h : RL w r F v hs) (hM : MayBe E P) (hj : hs[j]? = some x) (hx : x.id = id) (uq : ∀ i y, hs[i]? = some y → y.id = id → i = j) (ha : x.asked = true) :
    Calls Try.prog 14 #[.pointer (some ⟨r, 0, none⟩), .int .i64 id, .agg #[.int .i64 E, .int .i64 P]] w fun e w' => e = .returned (.int .i64 13) ∧ HStay w r F v hs w' := by
  have H := Lib.hid h
  have HM := Lib.hid hM
  have UQ := Lib.hid uq
  have HJ := Lib.hid hj
  have HX := Lib.hid hx
  clear h hM uq hj hx
  go_enter Try.func14, Try.ntmps14
  go_wp2_with fail
  refine (r4check_yes E P _ HM.out).mono ?_
  rintro e w1 ⟨rfl, hb⟩
  have B := Lib.hid (below_next (wbox _ _) hb)
  clear hb
  go_wp2_with fail
  refine (r12at_any r F v hs id _ (H.out.below B.out)).mono ?_
  rintro e w2 ⟨k, rfl, hk, hw⟩
  have hkj : k = (j : Int) := by
    rcases at_neg hk with ⟨_, _, hn⟩ | ⟨_, i, y, e, hi, hy⟩
    · exact absurd HX.out (hn x (List.mem_of_getElem? HJ.out))
    · rw [e, UQ.out i y hi hy]
  subst hkj hw
  obtain ⟨an, ln, cn, ad, ld, cd, u, hvv, hbl, hq, hnu, hF⟩ := H.out.below B.out
  obtain ⟨a, cap, rfl, hr⟩ := hq.row
  obtain ⟨b, off, rfl, hat⟩ := hr.at HJ.out
  obtain ⟨n, hn0⟩ : ∃ n, hs.length = n := ⟨_, rfl⟩
  have jn : j < n := by
    rw [← hn0]
    rcases Nat.lt_or_ge j hs.length with q | q
    · exact q
    · have := HJ.out; rw [List.getElem?_eq_none q] at this; cases this
  rw [hn0] at hbl hr
  have ⟨c1, c3⟩ := RowF.cap_le hr
  have c2 := hbl.cell 2
  simp at c2
  have y5 := hat.c5
  rw [ha] at y5
  have j1 : (j : Int) < (n : Int) := by omega
  have j2 : 0 ≤ (j : Int) := by omega
  have t : decide ((j : Int) < 0) = false := decide_eq_false (by omega)
  clear hbl hq hr hnu hF hn0 hat hk
  go_wp2
  go_ret
  exact ⟨rfl, H.out.stay B.out⟩
set_option maxRecDepth 20000 in
set_option maxHeartbeats 8000000 in
theorem r12ask_new (r : Nat) (F : Nat → Prop) (v : Value) (hs : List Hd) (id E P N D : Int) (j : Nat) (x : Hd) (L b : Nat) (w : World) (h : RL w r F v hs) (hv : Rat w b L v N D) (g : ∀ x ∈ hs, GoodH x) (hM : MayBe E P) (hj : hs[j]? = some x) (hx : x.id = id) (uq : ∀ i y, hs[i]? = some y → y.id = id → i = j) (ha : x.asked = false) (hl : hs.length ≤ 20) (hL : L ≤ 9) (c : Int) (hs' : List Hd) (hc : fitH N D (hs.set j (askH x E P)) = true → c = 0 ∧ hs' = hs.set j (askH x E P)) (hc' : fitH N D (hs.set j (askH x E P)) = false → c = 18 ∧ hs' = hs) :
    Calls Try.prog 14 #[.pointer (some ⟨r, 0, none⟩), .int .i64 id, .agg #[.int .i64 E, .int .i64 P]] w fun e w' => e = .returned (.int .i64 c) ∧ HStay w r F v hs' w' := by
  have HC := Lib.hid hc
  have HC' := Lib.hid hc'
  have H := Lib.hid h
  have V := Lib.hid hv
  have HM := Lib.hid hM
  have UQ := Lib.hid uq
  have HJ := Lib.hid hj
  have HX := Lib.hid hx
  have HL := Lib.hid hl
  have LL := Lib.hid hL
  have jn0 : j < hs.length := by
    rcases Nat.lt_or_ge j hs.length with q | q
    · exact q
    · rw [List.getElem?_eq_none q] at hj; cases hj
  have G := Lib.hid (show ∀ y ∈ hs.set j (askH x E P), GoodH y from fun y hy => by
    rcases List.mem_or_eq_of_mem_set hy with q | q
    · exact g y q
    · subst q; exact ⟨(g x (List.mem_of_getElem? hj)).now, fun _ => hM⟩)
  clear hc hc' h hv hM uq hj hx hl hL g
  have K := Lib.hid (Blk.new w 39 #[.int .i64 E, .int .i64 P])
  go_enter Try.func14, Try.ntmps14
  go_wp2_with fail
  refine (r4check_yes E P _ HM.out).mono ?_
  rintro e w1 ⟨rfl, hb⟩
  have K := Lib.hid (K.out.below hb)
  have B1 := Lib.hid (below_next (wbox _ _) hb)
  clear hb
  go_wp2_with fail
  refine (r12at_any r F v hs id _ (H.out.below B1.out)).mono ?_
  rintro e w2 ⟨k, rfl, hk, hw⟩
  have hkj : k = (j : Int) := by
    rcases at_neg hk with ⟨_, _, hn⟩ | ⟨_, i, y, e, hi, hy⟩
    · exact absurd HX.out (hn x (List.mem_of_getElem? HJ.out))
    · rw [e, UQ.out i y hi hy]
  clear hk
  subst hkj
  rw [hw] at K B1
  clear hw w1
  have H2 := Lib.hid (H.out.below B1.out)
  obtain ⟨an, ln, cn, ad, ld, cd, u, hvv, hbl, hq, hnu, hF⟩ := H2.out
  obtain ⟨a, cap, rfl, hr⟩ := hq.row
  obtain ⟨b0, off, rfl, hat⟩ := hr.at HJ.out
  obtain ⟨n, hn0⟩ : ∃ n, hs.length = n := ⟨_, rfl⟩
  have HN := Lib.hid hn0
  rw [hn0] at hbl hr jn0
  have ⟨c1, c3⟩ := RowF.cap_le hr
  have c2 := hbl.cell 2
  simp at c2
  have y5 := hat.c5
  rw [ha] at y5
  have j1 : (j : Int) < (n : Int) := by omega
  have j2 : 0 ≤ (j : Int) := by omega
  have t : decide ((j : Int) < 0) = false := decide_eq_false (by omega)
  have R := Lib.hid hr
  have RB := Lib.hid hbl
  have FR := Lib.hid ((hF r).mpr (.inl rfl))
  have e2 := (RB.out.below (wbox w2 (Obj.cells #[] 49))).cell 2
  simp at e2
  clear hbl hq hr hnu hF hn0 hat
  go_upto_region 10 with (at_builtin; refine wpList_append_hs rfl _ _ rfl w2.heap.size (.slice (some ⟨w2.heap.size, 0, none⟩) 0 0) [] rfl (own_lit (heap_alloc_new w2 _) (Nat.le_refl _)) (some ⟨b0, off, none⟩) n cap hs rfl (R.out.below (wbox w2 _)) (by simp) (by have := HL.out; have := HN.out; simp; omega) ?_; intro v1 w3 ho1 hg1 hat1; have O1 := Lib.hid (show w3.ownsRow w2.heap.size 49 6 v1 hs.length (hs.map Hd.cs).flatten from ho1); have BB := Lib.hid (show Below w2.heap.size w2 w3 from (wbox w2 _).grown hg1 (by simp) (fun x e => by simp [Value.ownBlock] at e; omega)); clear ho1 hg1 hat1)
  obtain ⟨g1, cap1, cur1, rfl, hg1, hgb, q1, q2, q3, q4⟩ := own_block O1.out (by have := HN.out; omega)
  have QB := Lib.hid hgb
  have QC := Lib.hid (And.intro q1 (And.intro q2 (And.intro q3 q4)))
  have G1 := Lib.hid hg1
  have K3 := Lib.hid (K.out.below BB.out)
  have k30 := K3.out.cell 0; have k31 := K3.out.cell 1
  simp at k30 k31
  rw [HN.out] at q1 O1 ⊢
  have AT := Lib.hid (q4 j x HJ.out)
  have y3 := (q4 j x HJ.out).c3
  have y4 := (q4 j x HJ.out).c4
  have y5' := (q4 j x HJ.out).c5
  have fg : ∀ o, w3.frozen? ⟨g1, o, none⟩ = false := fun o => frozen_of_row w3 g1 o cur1 _ hgb
  simp only [Nat.zero_add] at y3 y4 y5'
  obtain ⟨W4, hW4⟩ : ∃ W4, ((w3.setCell ⟨g1, j * 6 + 3, none⟩ (.int .i64 E)).setCell ⟨g1, j * 6 + 4, none⟩ (.int .i64 P)).setCell ⟨g1, j * 6 + 5, none⟩ (.bool true) = W4 := ⟨_, rfl⟩
  have Q4 := Lib.hid (show QueH W4 (.slice (some ⟨g1, 0, none⟩) hs.length cap1) (hs.set j (askH x E P)) by
    have := QueH.asked (x := x) E P QB.out QC.out.1 QC.out.2.1 QC.out.2.2.1 QC.out.2.2.2 HJ.out
    simp only [Nat.zero_add] at this
    rw [hW4] at this
    exact this)
  have B4 := Lib.hid (show Below w2.heap.size w2 W4 by rw [← hW4]; exact ((BB.out.setCell G1.out _).setCell G1.out _).setCell G1.out _)
  have Z4 := Lib.hid (show g1 < W4.heap.size by rw [← hW4]; have := lt_of_block QB.out; simpa using this)
  clear q2 q3 q4 hgb hg1
  go_upto_region 12 with fail
  try rw [hW4]
  clear hW4 y3 y4 y5' fg k30 k31 e2 c2 y5
  have H4 := Lib.hid (H2.out.below B4.out)
  have V4 := Lib.hid ((V.out.below B1.out).below B4.out)
  have RB4 := Lib.hid (RB.out.below B4.out)
  obtain ⟨ls2, hls2⟩ : ∃ l, hs.set j (askH x E P) = l := ⟨_, rfl⟩
  have LN := Lib.hid (show ls2.length = n by rw [← hls2, List.length_set, HN.out])
  rw [hls2] at Q4 G
  have LS2 := Lib.hid hls2
  obtain ⟨fb, hfb⟩ : ∃ fb, fitH N D ls2 = fb := ⟨_, rfl⟩
  have FB := Lib.hid hfb
  obtain ⟨a9, cap9, he9, hr9⟩ := Q4.out.row
  rw [HN.out] at he9
  simp only [Value.slice.injEq] at he9
  obtain ⟨rfl, hx9, rfl⟩ := he9
  clear hx9
  rw [LN.out] at hr9
  have R4 := Lib.hid hr9
  clear hls2 hfb hr9
  go_wp2_with fail
  refine (r12fits_any r F v hs N D L b _ n cap1 ls2 _ H4.out V4.out R4.out G.out (by have := HN.out; have := HL.out; omega) (by have := HN.out; have := HL.out; have := LL.out; omega)).mono ?_
  rintro e w5 ⟨rfl, hb⟩
  rw [FB.out]
  have RB5 := Lib.hid (RB4.out.below hb)
  have Q5 := Lib.hid (QueR.below Q4.out hb)
  have BT := Lib.hid (show Below w2.heap.size w2 w5 from below_next B4.out hb)
  have Z5 := Lib.hid (show g1 < w5.heap.size from Nat.lt_of_lt_of_le Z4.out hb.size)
  clear hb
  cases fb with
  | false =>
    go_wp2
    go_ret
    obtain ⟨q1', q2'⟩ := HC'.out (by rw [LS2.out, FB.out])
    subst q1' q2'
    exact ⟨rfl, H.out.stay (below_next B1.out BT.out)⟩
  | true =>
    have r2 := RB5.out.cell 2
    have f2 := RB5.out.free 2
    simp at r2
    have LR := Lib.hid (show r < w.heap.size from H.out.lies r (by obtain ⟨_, _, _, _, _, _, _, _, _, _, _, q⟩ := H.out; exact (q r).mpr (.inl rfl)))
    have FIN := Lib.hid (show HStay w r F v ls2 (w5.setCell ⟨r, 2, none⟩ (.slice (some ⟨g1, 0, none⟩) n cap1)) by
      obtain ⟨an', ln', cn', ad', ld', cd', u', hv', hb', hq', hn', hF'⟩ := (H2.out.below BT.out)
      have fr := (hF' r).mpr (.inl rfl)
      have S12 := B1.out.size
      have LR' := LR.out
      have G1' := G1.out
      have Z5' := Z5.out
      refine ⟨fun k => k = r ∨ (Value.slice (some ⟨g1, 0, none⟩) n cap1).ownBlock = some k, ⟨an', ln', cn', ad', ld', cd', .slice (some ⟨g1, 0, none⟩) n cap1, hv', Blk.setH hb' 2 _, ?_, fun e => by simp [Value.ownBlock] at e; omega, fun k => Iff.rfl⟩, ⟨(Keeps.of (F := F) (below_next B1.out BT.out)).set (.inl fr) _ _, fun k q => ?_, fun k q => ?_⟩⟩
      · have q5 := Q5.out
        rw [HN.out] at q5
        exact QueR.carry q5 (fun g hg => Below.heap_setCell _ _ _ _ (fun e => by simp [Value.ownBlock] at hg; simp at e; omega))
      · rcases q with rfl | q
        · exact .inl fr
        · exact .inr (by simp [Value.ownBlock] at q; omega)
      · rcases q with rfl | q
        · have := lt_of_block hb'; simpa using this
        · simp [Value.ownBlock] at q; subst q; simpa using Z5')
    go_wp2
    go_ret
    obtain ⟨q1', q2'⟩ := HC.out (by rw [LS2.out, FB.out])
    rw [LS2.out] at q2'
    subst q1' q2'
    exact ⟨rfl, FIN.out⟩
end Go.Proofs.Ytphlkpkbdnddlaa
