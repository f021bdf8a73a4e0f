/-
  The document's own tree (regattaref13): rows of holders that are appended to; Join: contract.
-/
import Derived.Test.YtbonilmlfelmpaaGreatQb6
import Derived.Test.YtbonilmlfelmpaaGreatRpA
namespace Go.Proofs.YtbonilmlfelmpaaGreat
open Go.RowKit

theorem Tryz.infoQ : (Tryz.prog.info? 54).map (fun i => (i.zero, i.size, i.bytes)) = some (some (.agg #[.int .i64 0, .int .i64 0, .int .i64 0, .int .i64 0, .int .i64 0, .int .i64 0, .bool false]), 7, 56) := by kernel_rfl
/-- what is asked, and what is told of it -/
def QStay (w : World) (r : Nat) (F : Nat → Prop) (v sv : Value) (hs : List Hq) (w' : World) : Prop := ∃ F', RQ w' r F' v sv hs ∧ Moves F F' w w'
theorem RQ.stay {w w' : World} {r : Nat} {F : Nat → Prop} {v sv : Value} {hs : List Hq} (h : RQ w r F v sv hs) (hb : Below w.heap.size w w') : QStay w r F v sv hs w' := ⟨F, h.below hb, Moves.of hb h.lies⟩
theorem atq_neg {l : List Hq} {id k : Int} (h : AtV (lst l) id k) : k < 0 ∧ k = -1 ∧ (∀ q ∈ l, q.h.id ≠ id) ∨ 0 ≤ k ∧ ∃ (j : Nat) (q : Hq), k = j ∧ l[j]? = some q ∧ q.h.id = id := by
  rcases at_neg h with ⟨a, b, c⟩ | ⟨a, j, x, e, hj, hx⟩
  · exact .inl ⟨a, b, fun q hq => c q.h (List.mem_map_of_mem hq)⟩
  · obtain ⟨q, hq, rfl⟩ := lst_at' hj
    exact .inr ⟨a, j, q, e, hq, hx⟩
theorem pathT_empty {S : List Sv} {s : Int} (h : hasB S s = false) : pathT S s = [] := by unfold pathT; rw [h]; rfl
theorem pathT_some {S : List Sv} {s : Int} (h : hasB S s = true) : 0 < (pathT S s).length := by
  unfold pathT
  rw [h, if_pos rfl]
  exact List.length_pos_iff.mpr (path_ne S s)
theorem RowQ.news {W : World} {ad : Addr} {len cap : Nat} {hs : List Hq} (h : RowQ W (some ad) len cap hs) : ∀ j u, (hs.map Hq.cs).flatten[j]? = some u → W.cell? (ad.add j) = some u := by
  intro j u hu
  have hl := flatQ_len hs
  have hj : j < hs.length * 7 := by
    rcases Nat.lt_or_ge j (hs.map Hq.cs).flatten.length with g | g
    · omega
    · rw [List.getElem?_eq_none g] at hu; cases hu
  have hi : j / 7 < hs.length := by omega
  have hs' : hs[j / 7]? = some hs[j / 7] := List.getElem?_eq_getElem hi
  obtain ⟨b, off, ha, hat⟩ := h.at hs'
  simp only [Option.some.injEq] at ha
  subst ha
  have hf := flatQ_at hs' (k := j % 7) (by omega)
  rw [show j / 7 * 7 + j % 7 = j by omega, hu] at hf
  rw [addr_plain, show off + j = off + j / 7 * 7 + j % 7 by omega]
  have h6 : j % 7 < 7 := by omega
  obtain ⟨m, hm⟩ : ∃ m, j % 7 = m := ⟨_, rfl⟩
  rw [hm] at hf h6 ⊢
  match m, h6, hf with
  | 0, _, hf => rw [hf]; exact hat.c0
  | 1, _, hf => rw [hf]; exact hat.c1
  | 2, _, hf => rw [hf]; exact hat.c2
  | 3, _, hf => rw [hf]; exact hat.c3
  | 4, _, hf => rw [hf]; exact hat.c4
  | 5, _, hf => rw [hf]; exact hat.c5
  | 6, _, hf => rw [hf]; exact hat.c6
theorem step_append_qs {w : World} {ops : Array Oper} {o : Oper} {act : Act} {K : Act → World → Prop} {Q : Exit → Act → World → Prop} {X : Prop} (hgd : o.guard = none) (s x : Operand)
    (ho : o.op = .call { callee := .builtin .append, args := #[s, x], argTypes := #[38, 38] }) (base : Nat) (v : Value) (ps0 : List Hq) (hs : act.eval s = v)
    (hown : w.ownsRow base 54 7 v ps0.length (ps0.map Hq.cs).flatten) (A : Option Addr) (m c : Nat) (ps : List Hq) (hx : act.eval x = .slice A m c) (hr : RowQ w A m c ps) (hb : base ≤ w.heap.size) (hsm : ps0.length + m ≤ 1000)
    (h : ∀ v' w', w'.ownsRow base 54 7 v' (ps0 ++ ps).length ((ps0 ++ ps).map Hq.cs).flatten → w.grownBy w' v.ownBlock → (v'.ownBlock = v.ownBlock ∨ v'.ownBlock = some w.heap.size) → K (act.put o.dst v') w') :
    if Region.wanted o (yielded ops act.tmps) = true then Oper.wp Tryz.prog o act w K Q else X := by
  have hw : Region.wanted o (yielded ops act.tmps) = true := by simp [Region.wanted, hgd]
  rw [if_pos hw]
  obtain ⟨i0, hi, hz0, hz1, hz2⟩ := info_parts Tryz.infoQ
  rcases A with _ | ad
  · have hc : c = 0 := hr.2.2.2.1 rfl
    have hm : m = 0 := by have := hr.2.1; omega
    subst hc hm
    have hps : ps = [] := List.length_eq_zero_iff.mp hr.len
    subst hps
    have hrun := run_append_owned_none (P := Tryz.prog) (w := w) base 38 o.type _ i0 7 Tryz.underlying38 hi v _ _ hown
    unfold Oper.wp
    simp [execOp, ho, resolve, invoke, builtin, hs, hx, hrun, Result.andThen]
    exact h v w (by rw [List.append_nil]; exact hown) (World.grownBy.refl w _) (.inl rfl)
  · obtain ⟨v2, w2, hrun, ho2, hg2, _, hat⟩ := run_append_own_at (P := Tryz.prog) w base 38 o.type _ i0 _ 7 56 Tryz.underlying38 hi hz0 hz1 hz2 rfl (by decide) v _ _ hown ad m c (ps.map Hq.cs).flatten (by rw [flatQ_len, hr.len]) hr.news (onesQ ps) (by unfold maxLen; omega) (by omega) hb
    unfold Oper.wp
    simp [execOp, ho, resolve, invoke, builtin, hs, hx, hrun, Result.andThen]
    refine h v2 w2 ?_ hg2 hat
    rw [List.length_append, List.map_append, List.flatten_append, hr.len]
    exact ho2
theorem wpList_append_qs {w : World} {ops : Array Oper} {rest : List Oper} {o : Oper} {act : Act} {Q : Exit → Act → World → Prop} (hgd : o.guard = none) (s x : Operand)
    (ho : o.op = .call { callee := .builtin .append, args := #[s, x], argTypes := #[38, 38] }) (base : Nat) (v : Value) (ps0 : List Hq) (hs : act.eval s = v)
    (hown : w.ownsRow base 54 7 v ps0.length (ps0.map Hq.cs).flatten) (A : Option Addr) (m c : Nat) (ps : List Hq) (hx : act.eval x = .slice A m c) (hr : RowQ w A m c ps) (hb : base ≤ w.heap.size) (hsm : ps0.length + m ≤ 1000)
    (h : ∀ v' w', w'.ownsRow base 54 7 v' (ps0 ++ ps).length ((ps0 ++ ps).map Hq.cs).flatten → w.grownBy w' v.ownBlock → (v'.ownBlock = v.ownBlock ∨ v'.ownBlock = some w.heap.size) → wpList Tryz.prog ops Q rest (act.put o.dst v') w') : wpList Tryz.prog ops Q (o :: rest) act w := by
  refine wpList_plain hgd fun K hK => ?_
  obtain ⟨i0, hi, hz0, hz1, hz2⟩ := info_parts Tryz.infoQ
  rcases A with _ | ad
  · have hc : c = 0 := hr.2.2.2.1 rfl
    have hm : m = 0 := by have := hr.2.1; omega
    subst hc hm
    have hps : ps = [] := List.length_eq_zero_iff.mp hr.len
    subst hps
    have hrun := run_append_owned_none (P := Tryz.prog) (w := w) base 38 o.type _ i0 7 Tryz.underlying38 hi v _ _ hown
    unfold Oper.wp
    simp [execOp, ho, resolve, invoke, builtin, hs, hx, hrun, Result.andThen]
    exact hK _ _ (h v w (by rw [List.append_nil]; exact hown) (World.grownBy.refl w _) (.inl rfl))
  · obtain ⟨v2, w2, hrun, ho2, hg2, _, hat⟩ := run_append_own_at (P := Tryz.prog) w base 38 o.type _ i0 _ 7 56 Tryz.underlying38 hi hz0 hz1 hz2 rfl (by decide) v _ _ hown ad m c (ps.map Hq.cs).flatten (by rw [flatQ_len, hr.len]) hr.news (onesQ ps) (by unfold maxLen; omega) (by omega) hb
    unfold Oper.wp
    simp [execOp, ho, resolve, invoke, builtin, hs, hx, hrun, Result.andThen]
    refine hK _ _ (h v2 w2 ?_ hg2 hat)
    rw [List.length_append, List.map_append, List.flatten_append, hr.len]
    exact ho2
theorem own_litQ {X : World} {base g : Nat} (h : X.heap[g]? = some (.cells #[] 54 (0, 0))) (hb : base ≤ g) : X.ownsRow base 54 7 (.slice (some ⟨g, 0, none⟩) 0 0) ([] : List Hq).length (([] : List Hq).map Hq.cs).flatten :=
  ⟨rfl, .inr ⟨g, 0, #[], rfl, hb, h, Nat.le_refl _, Nat.zero_le _, rfl, rfl⟩⟩
theorem row_litQ {X : World} {g : Nat} {q : Hq} (hg : X.heap[g]? = some (.cells #[.int .i64 q.h.id, .int .i64 q.srv, .int .i64 q.h.E, .int .i64 q.h.P, .int .i64 q.h.NE, .int .i64 q.h.NP, .bool q.h.asked] 54 (0, 0))) : RowQ X (some ⟨g, 0, none⟩) 1 1 [q] := by
  have hb : Blk X 54 g #[.int .i64 q.h.id, .int .i64 q.srv, .int .i64 q.h.E, .int .i64 q.h.P, .int .i64 q.h.NE, .int .i64 q.h.NP, .bool q.h.asked] := hg
  refine ⟨rfl, by omega, by omega, (fun e => by cases e), fun i hi => ⟨g, 0, rfl, fun j hj => ?_⟩⟩
  obtain rfl : i = 0 := by omega
  rw [show 0 + 0 * 7 + j = j by omega, hb.cell j]
  show _ = q.cs[j]?
  simp [Hq.cs]
theorem qrow_of_owns {W : World} {base : Nat} {v : Value} {hs : List Hq} (h : W.ownsRow base 54 7 v hs.length (hs.map Hq.cs).flatten) : ∃ a cap, v = .slice a hs.length cap ∧ RowQ W a hs.length cap hs ∧ Fresh base a := rowF_of_owns (wideQ hs) h (by rw [List.length_map])
set_option maxHeartbeats 2000000 in
theorem r13join_arg (r : Nat) (F : Nat → Prop) (v : Value) (sa : Option Addr) (n0 sc : Nat) (S : List Sv) (hs : List Hq) (id s E P : Int) (w : World) (h : RQ w r F v (.slice sa n0 sc) hs) (hS : RowS w sa n0 sc S) (gS : GoodSv S) (hM : ¬ MayBe E P) :
    Calls Tryz.prog 21 #[.pointer (some ⟨r, 0, none⟩), .int .i64 id, .int .i64 s, .agg #[.int .i64 E, .int .i64 P]] w fun e w' => e = .returned (.int .i64 1) ∧ QStay w r F v (.slice sa n0 sc) hs w' := by
  have H := Lib.hid h
  have RS := Lib.hid hS
  have GS := Lib.hid gS
  have HM := Lib.hid hM
  clear h hS gS hM
  go_enter Tryz.func21, Tryz.ntmps21
  go_wp2_with fail
  refine (r4check_any E P _ false ⟨fun h => (by cases h), fun h => absurd h HM.out⟩).mono ?_
  rintro e w1 ⟨rfl, hb⟩
  have B := Lib.hid (below_next (wbox _ _) hb)
  clear hb
  go_wp2_with fail
  refine (r13path_any r F v sa n0 sc S hs s _ (H.out.below B.out) (RS.out.below B.out) GS.out).mono ?_
  rintro e w2 ⟨pa, plen, pcap, rfl, hr, _, hb⟩
  have B := Lib.hid (below_next B.out hb)
  have PL := Lib.hid hr.len
  clear hb hr
  go_wp2
  go_ret
  exact ⟨rfl, H.out.stay B.out⟩
set_option maxHeartbeats 2000000 in
theorem r13join_srv (r : Nat) (F : Nat → Prop) (v : Value) (sa : Option Addr) (n0 sc : Nat) (S : List Sv) (hs : List Hq) (id s E P : Int) (w : World) (h : RQ w r F v (.slice sa n0 sc) hs) (hS : RowS w sa n0 sc S) (gS : GoodSv S) (hM : MayBe E P) (hv : hasB S s = false) :
    Calls Tryz.prog 21 #[.pointer (some ⟨r, 0, none⟩), .int .i64 id, .int .i64 s, .agg #[.int .i64 E, .int .i64 P]] w fun e w' => e = .returned (.int .i64 1) ∧ QStay w r F v (.slice sa n0 sc) hs w' := by
  have H := Lib.hid h
  have RS := Lib.hid hS
  have GS := Lib.hid gS
  have HM := Lib.hid hM
  have NV := Lib.hid (pathT_empty hv)
  clear h hS gS hM hv
  go_enter Tryz.func21, Tryz.ntmps21
  go_wp2_with fail
  refine (r4check_yes E P _ HM.out).mono ?_
  rintro e w1 ⟨rfl, hb⟩
  have B := Lib.hid (below_next (wbox _ _) hb)
  clear hb
  go_wp2_with fail
  refine (r13path_any r F v sa n0 sc S hs s _ (H.out.below B.out) (RS.out.below B.out) GS.out).mono ?_
  rintro e w2 ⟨pa, plen, pcap, rfl, hr, _, hb⟩
  have B := Lib.hid (below_next B.out hb)
  have PL := Lib.hid hr.len
  clear hb hr
  obtain rfl : plen = 0 := by rw [← PL.out, NV.out]; rfl
  go_wp2
  go_ret
  exact ⟨rfl, H.out.stay B.out⟩
set_option maxHeartbeats 2000000 in
theorem r13join_there (r : Nat) (F : Nat → Prop) (v : Value) (sa : Option Addr) (n0 sc : Nat) (S : List Sv) (hs : List Hq) (id s E P : Int) (w : World) (h : RQ w r F v (.slice sa n0 sc) hs) (hS : RowS w sa n0 sc S) (gS : GoodSv S) (hM : MayBe E P) (hv : hasB S s = true) (hid : ∃ x ∈ hs, x.h.id = id) :
    Calls Tryz.prog 21 #[.pointer (some ⟨r, 0, none⟩), .int .i64 id, .int .i64 s, .agg #[.int .i64 E, .int .i64 P]] w fun e w' => e = .returned (.int .i64 14) ∧ QStay w r F v (.slice sa n0 sc) hs w' := by
  have H := Lib.hid h
  have RS := Lib.hid hS
  have GS := Lib.hid gS
  have HM := Lib.hid hM
  have NV := Lib.hid (pathT_some hv)
  have HI := Lib.hid hid
  clear h hS gS hM hv hid
  go_enter Tryz.func21, Tryz.ntmps21
  go_wp2_with fail
  refine (r4check_yes E P _ HM.out).mono ?_
  rintro e w1 ⟨rfl, hb⟩
  have B := Lib.hid (below_next (wbox _ _) hb)
  clear hb
  go_wp2_with fail
  refine (r13path_any r F v sa n0 sc S hs s _ (H.out.below B.out) (RS.out.below B.out) GS.out).mono ?_
  rintro e w2 ⟨pa, plen, pcap, rfl, hr, _, hb⟩
  have B := Lib.hid (below_next B.out hb)
  have PL := Lib.hid hr.len
  clear hb hr
  have tp : ((plen : Int) == 0) = false := by have h1 := NV.out; rw [PL.out] at h1; simp; omega
  go_wp2_with fail
  refine (r13at_any r F v _ hs id _ (H.out.below B.out)).mono ?_
  rintro e w3 ⟨k, rfl, hk, rfl⟩
  rcases atq_neg hk with ⟨_, _, hn⟩ | ⟨hp, _⟩
  · obtain ⟨x, hx, e⟩ := HI.out
    exact absurd e (hn x hx)
  · have t : decide (0 ≤ k) = true := decide_eq_true hp
    clear hk
    go_wp2
    go_ret
    exact ⟨rfl, H.out.stay B.out⟩
set_option maxRecDepth 20000 in
set_option maxHeartbeats 8000000 in
theorem r13join_new (r : Nat) (F : Nat → Prop) (v : Value) (sa : Option Addr) (n0 sc : Nat) (S : List Sv) (hs : List Hq) (id s E P : Int) (N D : Int) (L b : Nat) (w : World) (h : RQ w r F v (.slice sa n0 sc) hs) (hS : RowS w sa n0 sc S) (gS : GoodSv S) (hv : Rat w b L v N D) (g : ∀ q ∈ hs, GoodH q.h) (gs : ∀ q ∈ hs, hasB S q.srv = true) (hM : MayBe E P) (hsv : hasB S s = true) (hid : ∀ x ∈ hs, x.h.id ≠ id) (hl : hs.length ≤ 19) (hL : L ≤ 9) (c : Int) (hs' : List Hq) (hc : fitsP S N D s (hs ++ [newQ s id E P]) = true → c = 0 ∧ hs' = hs ++ [newQ s id E P]) (hc' : fitsP S N D s (hs ++ [newQ s id E P]) = false → c = 18 ∧ hs' = hs) :
    Calls Tryz.prog 21 #[.pointer (some ⟨r, 0, none⟩), .int .i64 id, .int .i64 s, .agg #[.int .i64 E, .int .i64 P]] w fun e w' => e = .returned (.int .i64 c) ∧ QStay w r F v (.slice sa n0 sc) hs' w' := by
  have HC := Lib.hid hc
  have HC' := Lib.hid hc'
  clear hc hc'
  have H := Lib.hid h
  have V := Lib.hid hv
  have HM := Lib.hid hM
  have HI := Lib.hid hid
  have HL := Lib.hid hl
  have LL := Lib.hid hL
  have RS := Lib.hid hS
  have GS := Lib.hid gS
  have HSV := Lib.hid hsv
  have NV := Lib.hid (pathT_some hsv)
  have G := Lib.hid (show ∀ x ∈ hs ++ [newQ s id E P], GoodH x.h from fun x hx => by
    rcases List.mem_append.mp hx with q | q
    · exact g x q
    · simp at q; subst q; exact ⟨hM, fun e => by cases e⟩)
  have GV := Lib.hid (show ∀ x ∈ hs ++ [newQ s id E P], hasB S x.srv = true from fun x hx => by
    rcases List.mem_append.mp hx with q | q
    · exact gs x q
    · simp at q; subst q; exact hsv)
  clear h hv hM hid g hl hL hS gS hsv gs
  have K := Lib.hid (Blk.new w 46 #[.int .i64 E, .int .i64 P])
  go_enter Tryz.func21, Tryz.ntmps21
  go_wp2_with fail
  refine (r4check_yes E P _ HM.out).mono ?_
  rintro e w1 ⟨rfl, hb⟩
  have K := Lib.hid (K.out.below hb)
  have B1 := Lib.hid (below_next (wbox _ _) hb)
  clear hb
  go_wp2_with fail
  refine (r13path_any r F v sa n0 sc S hs s _ (H.out.below B1.out) (RS.out.below B1.out) GS.out).mono ?_
  rintro e w1' ⟨pa, plen, pcap, rfl, hr, _, hb⟩
  have K := Lib.hid (K.out.below hb)
  have B1 := Lib.hid (below_next B1.out hb)
  have PL := Lib.hid hr.len
  have tp : ((plen : Int) == 0) = false := by have h1 := NV.out; rw [PL.out] at h1; simp; omega
  clear hb hr
  go_wp2_with fail
  refine (r13at_any r F v _ hs id _ (H.out.below B1.out)).mono ?_
  rintro e w2 ⟨k, rfl, hk, rfl⟩
  have hn : k < 0 := by
    rcases atq_neg hk with ⟨hn, _, _⟩ | ⟨_, j, x, _, hj, hx⟩
    · exact hn
    · exact absurd hx (HI.out x (List.mem_of_getElem? hj))
  have t : decide (0 ≤ k) = false := decide_eq_false (by omega)
  clear hk hn
  obtain ⟨w2, hw2⟩ : ∃ w2, w1' = w2 := ⟨_, rfl⟩
  rw [hw2] at K B1 ⊢
  clear hw2
  have H2 := Lib.hid (H.out.below B1.out)
  obtain ⟨an, ln, cn, ad, ld, cd, sa', sl', sc', u, hvv, hsv', hbl, hq, hnu, hF⟩ := H2.out
  cases hsv'
  obtain ⟨a, cap, rfl, hr⟩ := hq.row
  obtain ⟨n, hn0⟩ : ∃ n, hs.length = n := ⟨_, rfl⟩
  rw [hn0] at hbl hr
  have c2 := hbl.cell 3
  simp at c2
  have HN := Lib.hid hn0
  have R := Lib.hid hr
  have RB := Lib.hid hbl
  obtain ⟨bw, hbw⟩ : ∃ bw, w.heap.size = bw := ⟨_, rfl⟩
  have SW := Lib.hid (show bw < w2.heap.size by rw [← hbw]; exact K.out.lt)
  rw [hbw] at K ⊢
  have k0 := K.out.cell 0; have k1 := K.out.cell 1
  simp at k0 k1
  have NL := Lib.hid (show ∀ X : World, (Blk X 40 r #[.slice an ln cn, .slice ad ld cd, .slice sa n0 sc, .slice a n cap] → X.cell? ⟨r, 3, none⟩ = some (.slice a n cap)) from fun X h => by have := h.cell 3; simpa using this)
  obtain ⟨nh, hnh⟩ : ∃ x, newQ s id E P = x := ⟨_, rfl⟩
  have NB := Lib.hid (show ∀ (X : World) (g : Nat), X.heap[g]? = some (Obj.cells #[.int .i64 id, .int .i64 s, .int .i64 E, .int .i64 P, .int .i64 0, .int .i64 0, .bool false] 54) → RowQ X (some ⟨g, 0, none⟩) 1 1 [nh] from fun X g h => by rw [← hnh]; exact row_litQ (q := newQ s id E P) h)
  rw [hnh] at G GV
  have NE := Lib.hid hnh
  have BX1 := Lib.hid (show Below w2.heap.size w2 (World.drew (w2.alloc (Obj.cells #[] 54))) from ((Below.refl w2.heap.size w2).alloc (Nat.le_refl _) _).drew)
  have BX2 := Lib.hid (show Below w2.heap.size w2 (World.drew ((w2.alloc (Obj.cells #[] 54)).alloc (Obj.cells #[.int .i64 id, .int .i64 s, .int .i64 E, .int .i64 P, .int .i64 0, .int .i64 0, .bool false] 54))) from (((Below.refl w2.heap.size w2).alloc (Nat.le_refl _) _).alloc (by simp) _).drew)
  have BX3 := Lib.hid (show Below w2.heap.size w2 (World.drew ((w2.alloc (Obj.cells #[.int .i64 id, .int .i64 s, .int .i64 E, .int .i64 P, .int .i64 0, .int .i64 0, .bool false] 54)).alloc (Obj.cells #[] 54))) from (((Below.refl w2.heap.size w2).alloc (Nat.le_refl _) _).alloc (by simp) _).drew)
  have OA1 := Lib.hid (show World.ownsRow (World.drew (w2.alloc (Obj.cells #[] 54))) w2.heap.size 54 7 (.slice (some ⟨w2.heap.size, 0, none⟩) 0 0) ([] : List Hq).length (([] : List Hq).map Hq.cs).flatten from own_litQ (X := (World.drew (w2.alloc (Obj.cells #[] 54)))) (heap_alloc_new w2 _) (by omega))
  have OA2 := Lib.hid (show World.ownsRow (World.drew ((w2.alloc (Obj.cells #[] 54)).alloc (Obj.cells #[.int .i64 id, .int .i64 s, .int .i64 E, .int .i64 P, .int .i64 0, .int .i64 0, .bool false] 54))) w2.heap.size 54 7 (.slice (some ⟨w2.heap.size, 0, none⟩) 0 0) ([] : List Hq).length (([] : List Hq).map Hq.cs).flatten from own_litQ (X := (World.drew ((w2.alloc (Obj.cells #[] 54)).alloc (Obj.cells #[.int .i64 id, .int .i64 s, .int .i64 E, .int .i64 P, .int .i64 0, .int .i64 0, .bool false] 54)))) ((Below.heap_alloc _ _ _ (by simp)).trans (heap_alloc_new w2 _)) (by omega))
  have OA3 := Lib.hid (show World.ownsRow (World.drew ((w2.alloc (Obj.cells #[.int .i64 id, .int .i64 s, .int .i64 E, .int .i64 P, .int .i64 0, .int .i64 0, .bool false] 54)).alloc (Obj.cells #[] 54))) w2.heap.size 54 7 (.slice (some ⟨w2.heap.size + 1, 0, none⟩) 0 0) ([] : List Hq).length (([] : List Hq).map Hq.cs).flatten from own_litQ (X := (World.drew ((w2.alloc (Obj.cells #[.int .i64 id, .int .i64 s, .int .i64 E, .int .i64 P, .int .i64 0, .int .i64 0, .bool false] 54)).alloc (Obj.cells #[] 54)))) (by rw [← wsize w2 (Obj.cells #[.int .i64 id, .int .i64 s, .int .i64 E, .int .i64 P, .int .i64 0, .int .i64 0, .bool false] 54)]; exact heap_alloc_new _ _) (by omega))
  have LB2 := Lib.hid (show (World.drew ((w2.alloc (Obj.cells #[] 54)).alloc (Obj.cells #[.int .i64 id, .int .i64 s, .int .i64 E, .int .i64 P, .int .i64 0, .int .i64 0, .bool false] 54))).heap[w2.heap.size + 1]? = some (Obj.cells #[.int .i64 id, .int .i64 s, .int .i64 E, .int .i64 P, .int .i64 0, .int .i64 0, .bool false] 54) by rw [← wsize w2 (Obj.cells #[] 54)]; exact heap_alloc_new _ _)
  have LB3 := Lib.hid (show (World.drew ((w2.alloc (Obj.cells #[.int .i64 id, .int .i64 s, .int .i64 E, .int .i64 P, .int .i64 0, .int .i64 0, .bool false] 54)).alloc (Obj.cells #[] 54))).heap[w2.heap.size]? = some (Obj.cells #[.int .i64 id, .int .i64 s, .int .i64 E, .int .i64 P, .int .i64 0, .int .i64 0, .bool false] 54) from (Below.heap_alloc _ _ _ (by simp)).trans (heap_alloc_new w2 _))
  have R1 := Lib.hid (R.out.below BX1.out); have R2 := Lib.hid (R.out.below BX2.out); have R3 := Lib.hid (R.out.below BX3.out)
  have SZ1 := Lib.hid (show (World.drew (w2.alloc (Obj.cells #[] 54))).heap.size = w2.heap.size + 1 by simp); have SZ2 := Lib.hid (show (World.drew ((w2.alloc (Obj.cells #[] 54)).alloc (Obj.cells #[.int .i64 id, .int .i64 s, .int .i64 E, .int .i64 P, .int .i64 0, .int .i64 0, .bool false] 54))).heap.size = w2.heap.size + 2 by simp); have SZ3 := Lib.hid (show (World.drew ((w2.alloc (Obj.cells #[.int .i64 id, .int .i64 s, .int .i64 E, .int .i64 P, .int .i64 0, .int .i64 0, .bool false] 54)).alloc (Obj.cells #[] 54))).heap.size = w2.heap.size + 2 by simp)
  have ea2 := NL.out (w2.alloc (Obj.cells #[] 54)) (hbl.below (wbox w2 _))
  have ea0 := (K.out.below (wbox w2 _ : Below w2.heap.size w2 (w2.alloc (Obj.cells #[] 54)))).cell 0
  have ea1 := (K.out.below (wbox w2 _ : Below w2.heap.size w2 (w2.alloc (Obj.cells #[] 54)))).cell 1
  have eb2 := NL.out (w2.alloc (Obj.cells #[.int .i64 id, .int .i64 s, .int .i64 E, .int .i64 P, .int .i64 0, .int .i64 0, .bool false] 54)) (hbl.below (wbox w2 _))
  have eb0 := (K.out.below (wbox w2 _ : Below w2.heap.size w2 (w2.alloc (Obj.cells #[.int .i64 id, .int .i64 s, .int .i64 E, .int .i64 P, .int .i64 0, .int .i64 0, .bool false] 54)))).cell 0
  have eb1 := (K.out.below (wbox w2 _ : Below w2.heap.size w2 (w2.alloc (Obj.cells #[.int .i64 id, .int .i64 s, .int .i64 E, .int .i64 P, .int .i64 0, .int .i64 0, .bool false] 54)))).cell 1
  have ec2 := NL.out ((w2.alloc (Obj.cells #[] 54)).alloc (Obj.cells #[.int .i64 id, .int .i64 s, .int .i64 E, .int .i64 P, .int .i64 0, .int .i64 0, .bool false] 54)) (hbl.below (wbox2 w2 _ _))
  have ec0 := (K.out.below (wbox2 w2 _ _ : Below w2.heap.size w2 ((w2.alloc (Obj.cells #[] 54)).alloc (Obj.cells #[.int .i64 id, .int .i64 s, .int .i64 E, .int .i64 P, .int .i64 0, .int .i64 0, .bool false] 54)))).cell 0
  have ec1 := (K.out.below (wbox2 w2 _ _ : Below w2.heap.size w2 ((w2.alloc (Obj.cells #[] 54)).alloc (Obj.cells #[.int .i64 id, .int .i64 s, .int .i64 E, .int .i64 P, .int .i64 0, .int .i64 0, .bool false] 54)))).cell 1
  have ed2 := NL.out ((w2.alloc (Obj.cells #[.int .i64 id, .int .i64 s, .int .i64 E, .int .i64 P, .int .i64 0, .int .i64 0, .bool false] 54)).alloc (Obj.cells #[] 54)) (hbl.below (wbox2 w2 _ _))
  have ed0 := (K.out.below (wbox2 w2 _ _ : Below w2.heap.size w2 ((w2.alloc (Obj.cells #[.int .i64 id, .int .i64 s, .int .i64 E, .int .i64 P, .int .i64 0, .int .i64 0, .bool false] 54)).alloc (Obj.cells #[] 54)))).cell 0
  have ed1 := (K.out.below (wbox2 w2 _ _ : Below w2.heap.size w2 ((w2.alloc (Obj.cells #[.int .i64 id, .int .i64 s, .int .i64 E, .int .i64 P, .int .i64 0, .int .i64 0, .bool false] 54)).alloc (Obj.cells #[] 54)))).cell 1
  simp only [List.getElem?_toArray, List.getElem?_cons_zero, List.getElem?_cons_succ] at ea0 ea1 eb0 eb1 ec0 ec1 ed0 ed1
  clear hbl hq hr hnu hF hn0 hnh hbw
  go_upto_region 7 with fail
  go_cut [11] (fun s8 wx => wx.ownsRow w2.heap.size 54 7 s8 (hs ++ [nh]).length ((hs ++ [nh]).map Hq.cs).flatten ∧ Below w2.heap.size w2 wx)
  case first =>
    go_region_law (first
      | (refine step_append_qs (w := (World.drew ((w2.alloc (Obj.cells #[] 54)).alloc (Obj.cells #[.int .i64 id, .int .i64 s, .int .i64 E, .int .i64 P, .int .i64 0, .int .i64 0, .bool false] 54)))) rfl _ _ rfl w2.heap.size (.slice (some ⟨w2.heap.size, 0, none⟩) 0 0) [] rfl OA2.out a n cap hs rfl R2.out (by have := SZ2.out; omega) (by have := HL.out; have := HN.out; simp; omega) ?_; intro v1 w3 ho1 hg1 hat1; have O1 := Lib.hid (show w3.ownsRow w2.heap.size 54 7 v1 hs.length (hs.map Hq.cs).flatten from ho1); have BB := Lib.hid (show Below w2.heap.size w2 w3 from BX2.out.grown hg1 (by have := SZ2.out; omega) (fun x e => by simp [Value.ownBlock] at e; omega)); have AT := Lib.hid (show v1.ownBlock = some (w2.heap.size) ∨ v1.ownBlock = some (World.drew ((w2.alloc (Obj.cells #[] 54)).alloc (Obj.cells #[.int .i64 id, .int .i64 s, .int .i64 E, .int .i64 P, .int .i64 0, .int .i64 0, .bool false] 54))).heap.size from hat1); have LB := Lib.hid (show w3.heap[w2.heap.size + 1]? = some (Obj.cells #[.int .i64 id, .int .i64 s, .int .i64 E, .int .i64 P, .int .i64 0, .int .i64 0, .bool false] 54) from (hg1.block _ (by have := SZ2.out; omega) (by simp [Value.ownBlock])).trans LB2.out); have K3 := Lib.hid (K.out.below BB.out); have k30 := K3.out.cell 0; have k31 := K3.out.cell 1; simp only [List.getElem?_toArray, List.getElem?_cons_zero, List.getElem?_cons_succ] at k30 k31; clear ho1 hg1 hat1)
      | (refine step_append_qs (w := (World.drew ((w2.alloc (Obj.cells #[.int .i64 id, .int .i64 s, .int .i64 E, .int .i64 P, .int .i64 0, .int .i64 0, .bool false] 54)).alloc (Obj.cells #[] 54)))) rfl _ _ rfl w2.heap.size (.slice (some ⟨w2.heap.size + 1, 0, none⟩) 0 0) [] rfl OA3.out a n cap hs rfl R3.out (by have := SZ3.out; omega) (by have := HL.out; have := HN.out; simp; omega) ?_; intro v1 w3 ho1 hg1 hat1; have O1 := Lib.hid (show w3.ownsRow w2.heap.size 54 7 v1 hs.length (hs.map Hq.cs).flatten from ho1); have BB := Lib.hid (show Below w2.heap.size w2 w3 from BX3.out.grown hg1 (by have := SZ3.out; omega) (fun x e => by simp [Value.ownBlock] at e; omega)); have AT := Lib.hid (show v1.ownBlock = some (w2.heap.size + 1) ∨ v1.ownBlock = some (World.drew ((w2.alloc (Obj.cells #[.int .i64 id, .int .i64 s, .int .i64 E, .int .i64 P, .int .i64 0, .int .i64 0, .bool false] 54)).alloc (Obj.cells #[] 54))).heap.size from hat1); have LB := Lib.hid (show w3.heap[w2.heap.size]? = some (Obj.cells #[.int .i64 id, .int .i64 s, .int .i64 E, .int .i64 P, .int .i64 0, .int .i64 0, .bool false] 54) from (hg1.block _ (by have := SZ3.out; omega) (by simp [Value.ownBlock])).trans LB3.out); have K3 := Lib.hid (K.out.below BB.out); have k30 := K3.out.cell 0; have k31 := K3.out.cell 1; simp only [List.getElem?_toArray, List.getElem?_cons_zero, List.getElem?_cons_succ] at k30 k31; clear ho1 hg1 hat1)
      | (refine step_append_qs (w := (World.drew (w2.alloc (Obj.cells #[] 54)))) rfl _ _ rfl w2.heap.size (.slice (some ⟨w2.heap.size, 0, none⟩) 0 0) [] rfl OA1.out a n cap hs rfl R1.out (by have := SZ1.out; omega) (by have := HL.out; have := HN.out; simp; omega) ?_; intro v1 w3 ho1 hg1 hat1; have O1 := Lib.hid (show w3.ownsRow w2.heap.size 54 7 v1 hs.length (hs.map Hq.cs).flatten from ho1); have BB := Lib.hid (show Below w2.heap.size w2 w3 from BX1.out.grown hg1 (by have := SZ1.out; omega) (fun x e => by simp [Value.ownBlock] at e; omega)); have AT := Lib.hid (show v1.ownBlock = some (w2.heap.size) ∨ v1.ownBlock = some (World.drew (w2.alloc (Obj.cells #[] 54))).heap.size from hat1);  have K3 := Lib.hid (K.out.below BB.out); have k30 := K3.out.cell 0; have k31 := K3.out.cell 1; simp only [List.getElem?_toArray, List.getElem?_cons_zero, List.getElem?_cons_succ] at k30 k31; clear ho1 hg1 hat1)
      | (refine step_append_qs (w := w3) rfl _ _ rfl w2.heap.size v1 hs rfl O1.out (some ⟨w2.heap.size + 1, 0, none⟩) 1 1 [nh] rfl (NB.out w3 _ LB.out) BB.out.size (by have := HL.out; omega) ?_; intro v2 w4 ho2 hg2 _; have O2 := Lib.hid ho2; have B2 := Lib.hid (BB.out.grown hg2 BB.out.size (fun x e => (O1.out.lt x e).1)); clear ho2 hg2)
      | (refine step_append_qs (w := w3) rfl _ _ rfl w2.heap.size v1 hs rfl O1.out (some ⟨w2.heap.size, 0, none⟩) 1 1 [nh] rfl (NB.out w3 _ LB.out) BB.out.size (by have := HL.out; omega) ?_; intro v2 w4 ho2 hg2 _; have O2 := Lib.hid ho2; have B2 := Lib.hid (BB.out.grown hg2 BB.out.size (fun x e => (O1.out.lt x e).1)); clear ho2 hg2)
      | (refine step_append_qs (w := (w3.alloc (Obj.cells #[.int .i64 id, .int .i64 s, .int .i64 E, .int .i64 P, .int .i64 0, .int .i64 0, .bool false] 54))) rfl _ _ rfl w2.heap.size v1 hs rfl (owns_below O1.out (wbox w3 _)) (some ⟨w3.heap.size, 0, none⟩) 1 1 [nh] rfl (NB.out (w3.alloc (Obj.cells #[.int .i64 id, .int .i64 s, .int .i64 E, .int .i64 P, .int .i64 0, .int .i64 0, .bool false] 54)) _ (heap_alloc_new w3 _)) (by have := BB.out.size; simp; omega) (by have := HL.out; omega) ?_; intro v2 w4 ho2 hg2 _; have O2 := Lib.hid ho2; have B2 := Lib.hid ((BB.out.alloc BB.out.size _).grown hg2 (by have := BB.out.size; simp; omega) (fun x e => (O1.out.lt x e).1)); clear ho2 hg2))
    all_goals
      go_wp2_with fail
      go_meet
      exact ⟨O2.out, B2.out⟩
  case rest =>
    obtain ⟨hown, hbel⟩ := hcut
    obtain ⟨a8, cap8, rfl, hr8, hf8⟩ := qrow_of_owns hown
    clear ea0 ea1 ea2 eb0 eb1 eb2 ec0 ec1 ec2 ed0 ed1 ed2 c2 k0 k1 OA1 OA2 OA3 LB2 LB3 R1 R2 R3 BX1 BX2 BX3 SZ1 SZ2 SZ3
    have O8 := Lib.hid hown; have B8 := Lib.hid hbel; have R8 := Lib.hid hr8
    have H8 := Lib.hid (H2.out.below hbel)
    have V8 := Lib.hid ((V.out.below B1.out).below hbel)
    have RS8 := Lib.hid ((RS.out.below B1.out).below hbel)
    have RB8 := Lib.hid (RB.out.below hbel)
    obtain ⟨m, hm⟩ : ∃ m, (hs ++ [nh]).length = m := ⟨_, rfl⟩
    have HMM := Lib.hid (show m = hs.length + 1 by rw [← hm]; simp)
    obtain ⟨ls2, hls2⟩ : ∃ l, hs ++ [nh] = l := ⟨_, rfl⟩
    rw [hls2] at O8 R8 G GV hm
    rw [hls2]
    rw [hm] at R8
    rw [hm]
    have LS2 := Lib.hid hls2
    have LM := Lib.hid hm
    obtain ⟨fb, hfb⟩ : ∃ fb, fitsP S N D s ls2 = fb := ⟨_, rfl⟩
    have FB := Lib.hid hfb
    clear hown hbel hr8 hf8 hm hls2 hfb
    go_wp2_with fail
    refine (r13fits_any r F v sa n0 sc S hs N D L b a8 m cap8 ls2 s _ H8.out V8.out RS8.out GS.out R8.out G.out GV.out (by have := HMM.out; have := HL.out; omega) LL.out HSV.out).mono ?_
    rintro e w5 ⟨rfl, hb⟩
    rw [FB.out]
    have B5 := Lib.hid hb
    have RB5 := Lib.hid (RB8.out.below hb)
    have O5 := Lib.hid (owns_below O8.out hb)
    have BT := Lib.hid (show Below w2.heap.size w2 w5 from below_next B8.out hb)
    clear hb
    cases fb with
    | false =>
      go_wp2
      go_ret
      obtain ⟨q1, q2⟩ := HC'.out (by rw [NE.out, LS2.out, FB.out])
      subst q1 q2
      exact ⟨rfl, H.out.stay (below_next B1.out BT.out)⟩
    | true =>
      have r2 := RB5.out.cell 3
      have f2 := RB5.out.free 3
      simp at r2
      have LR := Lib.hid (show r < w.heap.size from H.out.lies r (by obtain ⟨_, _, _, _, _, _, _, _, _, _, _, _, _, _, _, q⟩ := H.out; exact (q r).mpr (.inl rfl)))
      have FIN := Lib.hid (show QStay w r F v (.slice sa n0 sc) ls2 (w5.setCell ⟨r, 3, none⟩ (.slice a8 m cap8)) by
        obtain ⟨an', ln', cn', ad', ld', cd', sa', sl', sc', u', hv', hsv', hb', hq', hn', hF'⟩ := (H2.out.below BT.out)
        cases hsv'
        have fr := (hF' r).mpr (.inl rfl)
        have own : ∀ g, (Value.slice a8 m cap8).ownBlock = some g → w2.heap.size ≤ g ∧ g < w5.heap.size := fun g hg => by
          have := O5.out
          rw [LM.out] at this
          exact this.lt g hg
        have S12 := B1.out.size
        have LR' := LR.out
        refine ⟨fun k => k = r ∨ (Value.slice a8 m cap8).ownBlock = some k, ⟨an', ln', cn', ad', ld', cd', sa, n0, sc, .slice a8 m cap8, hv', rfl, Blk.setH hb' 3 _, ?_, fun e => by have := own r e; omega, fun k => Iff.rfl⟩, ⟨(Keeps.of (F := F) (below_next B1.out BT.out)).set (.inl fr) _ _, fun k q => ?_, fun k q => ?_⟩⟩
        · have q5 := O5.out
          rw [LM.out] at q5
          unfold QueQ
          rw [LM.out]
          exact ((QueR.of_owns q5).base (fun _ _ => Nat.zero_le _)).carry (fun g hg => Below.heap_setCell _ _ _ _ (fun e => by have := own g hg; simp at e; omega))
        · rcases q with rfl | q
          · exact .inl fr
          · exact .inr (by have := own k q; omega)
        · rcases q with rfl | q
          · have := hb'.lt; simpa using this
          · have := own k q; simpa using this.2)
      go_wp2
      go_ret
      obtain ⟨q1, q2⟩ := HC.out (by rw [NE.out, LS2.out, FB.out])
      rw [NE.out, LS2.out] at q2
      subst q1 q2
      exact ⟨rfl, FIN.out⟩
end Go.Proofs.YtbonilmlfelmpaaGreat
