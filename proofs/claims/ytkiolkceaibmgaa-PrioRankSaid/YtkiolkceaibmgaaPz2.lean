/-
  Package prio: plain facts on insertion from behind, the closure by which Sort compares, slices.Clone: contracts.
-/
import Derived.Test.YtkiolkceaibmgaaPz1
import Derived.BigRegion
import Derived.Lib.SliceRun
namespace Go.Proofs.Ytkiolkceaibmgaa
open Go.RowKit

/-- what the closure tells -/
def cmpE (a b : Ent) : Int := if lessB a b then -1 else if lessB b a then 1 else 0
theorem cmpE_neg (a b : Ent) : decide (cmpE a b < 0) = lessB a b := by
  unfold cmpE
  cases lessB a b <;> cases lessB b a <;> simp
theorem pless_at (a b : Ent) (p : Bool) (w : World) (h : lessB a b = p) : Calls Try.prog 18 #[.agg #[.int .i64 a.id, .int .i64 a.idx, .int .i64 a.rel, .int .i64 a.dl, .int .i64 a.bit, .int .i64 a.grp], .agg #[.int .i64 b.id, .int .i64 b.idx, .int .i64 b.rel, .int .i64 b.dl, .int .i64 b.bit, .int .i64 b.grp]] w fun e w' => e = .returned (.bool p) ∧ Below w.heap.size w w' := h ▸ pless_any a b w
set_option maxHeartbeats 1000000 in
theorem pcmp_at (a b : Ent) (c : Int) (w : World) (h : cmpE a b = c) : Calls Try.prog 24 #[.agg #[.int .i64 a.id, .int .i64 a.idx, .int .i64 a.rel, .int .i64 a.dl, .int .i64 a.bit, .int .i64 a.grp], .agg #[.int .i64 b.id, .int .i64 b.idx, .int .i64 b.rel, .int .i64 b.dl, .int .i64 b.bit, .int .i64 b.grp]] w fun e w' => e = .returned (.int .i64 c) ∧ Below w.heap.size w w' := by
  subst h
  have A := Lib.hid ((Blk.new w 27 #[.int .i64 a.id, .int .i64 a.idx, .int .i64 a.rel, .int .i64 a.dl, .int .i64 a.bit, .int .i64 a.grp]).alloc (Obj.cells #[.int .i64 b.id, .int .i64 b.idx, .int .i64 b.rel, .int .i64 b.dl, .int .i64 b.bit, .int .i64 b.grp] 27))
  have B := Lib.hid (Blk.new2 w (Obj.cells #[.int .i64 a.id, .int .i64 a.idx, .int .i64 a.rel, .int .i64 a.dl, .int .i64 a.bit, .int .i64 a.grp] 27) 27 #[.int .i64 b.id, .int .i64 b.idx, .int .i64 b.rel, .int .i64 b.dl, .int .i64 b.bit, .int .i64 b.grp])
  have BB := Lib.hid (below_next (wbox w (Obj.cells #[.int .i64 a.id, .int .i64 a.idx, .int .i64 a.rel, .int .i64 a.dl, .int .i64 a.bit, .int .i64 a.grp] 27)) (wbox _ (Obj.cells #[.int .i64 b.id, .int .i64 b.idx, .int .i64 b.rel, .int .i64 b.dl, .int .i64 b.bit, .int .i64 b.grp] 27)))
  obtain ⟨x, hx⟩ : ∃ x, lessB a b = x := ⟨_, rfl⟩
  obtain ⟨y, hy⟩ : ∃ y, lessB b a = y := ⟨_, rfl⟩
  have V := Lib.hid (show cmpE a b = if x then -1 else if y then 1 else 0 by unfold cmpE; rw [hx, hy])
  have X := Lib.hid hx
  have Y := Lib.hid hy
  clear hx hy
  go_enter Try.func24, Try.ntmps24
  go_wp2_with fail
  refine (pless_at a b x _ X.out).mono ?_
  rintro e w4 ⟨rfl, hb⟩
  have A := Lib.hid (A.out.below hb)
  have B := Lib.hid (B.out.below hb)
  have BB := Lib.hid (below_next BB.out hb)
  clear hb
  cases x with
  | true =>
    go_wp2
    go_ret
    exact ⟨ret_one (by rw [V.out]; rfl), BB.out⟩
  | false =>
    have a0 : _ = some _ := A.out.cell 0; have a1 : _ = some _ := A.out.cell 1; have a2 : _ = some _ := A.out.cell 2; have a3 : _ = some _ := A.out.cell 3; have a4 : _ = some _ := A.out.cell 4; have a5 : _ = some _ := A.out.cell 5
    have b0 : _ = some _ := B.out.cell 0; have b1 : _ = some _ := B.out.cell 1; have b2 : _ = some _ := B.out.cell 2; have b3 : _ = some _ := B.out.cell 3; have b4 : _ = some _ := B.out.cell 4; have b5 : _ = some _ := B.out.cell 5
    go_wp2_with fail
    refine (pless_at b a y _ Y.out).mono ?_
    rintro e w5 ⟨rfl, hb⟩
    have BB := Lib.hid (below_next BB.out hb)
    clear hb
    cases y with
    | true =>
      go_wp2
      go_ret
      exact ⟨ret_one (by rw [V.out]; rfl), BB.out⟩
    | false =>
      go_wp2
      go_ret
      exact ⟨ret_one (by rw [V.out]; rfl), BB.out⟩

/-! ### insertion from behind -/
theorem ins_at {x : Ent} {p q : List Ent} (hp : ∀ y ∈ p, lessB x y = false) (hq : ∀ y ∈ q, lessB x y = true) : ins x (p ++ q) = p ++ x :: q := by
  induction p with
  | nil =>
    cases q with
    | nil => rfl
    | cons y q => exact ins_step_put x y q (hq y (List.mem_cons_self ..))
  | cons y p ih =>
    rw [List.cons_append, ins_step_on _ _ _ (hp y (List.mem_cons_self ..)), ih (fun z hz => hp z (List.mem_cons_of_mem _ hz))]
    rfl
/-- all ahead of one that it does not go ahead of -/
theorem before_all {s : List Ent} (h : Sorted s) {k : Nat} {y x : Ent} (hy : s[k]? = some y) (hx : lessB x y = false) : ∀ z ∈ s.take (k + 1), lessB x z = false := by
  intro z hz
  have hk : k < s.length := by
    rcases Nat.lt_or_ge k s.length with g | g
    · exact g
    · rw [List.getElem?_eq_none g] at hy; cases hy
  rw [List.take_add_one, hy] at hz
  have nx : ¬ Ahead x y := fun e => by rw [lessB_yes e] at hx; cases hx
  rcases List.mem_append.mp hz with g | g
  · obtain ⟨i, hi, e⟩ := List.mem_iff_getElem.mp g
    rw [List.length_take] at hi
    rw [List.getElem_take] at e
    unfold Sorted at h
    rw [List.pairwise_iff_getElem] at h
    have := h i k (by omega) hk (by omega)
    rw [List.getElem?_eq_getElem hk] at hy
    simp at hy
    rw [e, hy] at this
    exact lessB_no (behind_trans nx this)
  · simp at g
    rw [g]; exact hx
theorem flat_setj {c : Nat} {j : Nat} (hj : j < c) (u : Value) (rs : List (List Value)) (hw : Wide c rs) (i : Nat) (r : List Value) (hr : rs[i]? = some r) : rs.flatten.set (i * c + j) u = (rs.set i (r.set j u)).flatten := by
  induction rs generalizing i with
  | nil => simp at hr
  | cons s rs ih =>
    have hs : s.length = c := hw s (List.mem_cons_self ..)
    cases i with
    | zero =>
      simp at hr
      subst hr
      rw [Nat.zero_mul, Nat.zero_add, List.flatten_cons, List.set_append_left _ _ (by omega)]
      rfl
    | succ i =>
      rw [List.flatten_cons, List.set_append_right _ _ (by rw [hs, Nat.succ_mul]; omega), show (i + 1) * c + j - s.length = i * c + j by rw [hs, Nat.succ_mul]; omega]
      rw [ih (fun r' h => hw r' (List.mem_cons_of_mem _ h)) i (by simpa using hr)]
      rfl
theorem Wide.set {c : Nat} {rs : List (List Value)} (h : Wide c rs) (i : Nat) {r : List Value} (hr : r.length = c) : Wide c (rs.set i r) := fun x hx => by
  rcases List.mem_or_eq_of_mem_set hx with g | g
  · exact h x g
  · rw [g]; exact hr
/-- an entry is stored cell by cell -/
theorem ent_set (es : List Ent) (i : Nat) (x e : Ent) (hx : es[i]? = some x) :
    ((((((es.map Ent.cs).flatten.set (i * 6) (.int .i64 e.id)).set (i * 6 + 1) (.int .i64 e.idx)).set (i * 6 + 2) (.int .i64 e.rel)).set (i * 6 + 3) (.int .i64 e.dl)).set (i * 6 + 4) (.int .i64 e.bit)).set (i * 6 + 5) (.int .i64 e.grp) = ((es.set i e).map Ent.cs).flatten := by
  have hi : i < es.length := by
    rcases Nat.lt_or_ge i es.length with g | g
    · exact g
    · rw [List.getElem?_eq_none g] at hx; cases hx
  have h0 : (es.map Ent.cs)[i]? = some x.cs := by rw [List.getElem?_map, hx]; rfl
  have step : ∀ (rs : List (List Value)) (r : List Value) (j : Nat) (u : Value), Wide 6 rs → rs[i]? = some r → j < 6 → rs.flatten.set (i * 6 + j) u = (rs.set i (r.set j u)).flatten ∧ Wide 6 (rs.set i (r.set j u)) ∧ (rs.set i (r.set j u))[i]? = some (r.set j u) := by
    intro rs r j u hw hr hj
    have hl : i < rs.length := by
      rcases Nat.lt_or_ge i rs.length with g | g
      · exact g
      · rw [List.getElem?_eq_none g] at hr; cases hr
    refine ⟨flat_setj hj u rs hw i r hr, hw.set i ?_, by rw [List.getElem?_set]; simp [hl]⟩
    rw [List.length_set]
    have := hw.getD hl
    rw [List.getD_eq_getElem?_getD, hr] at this
    exact this
  obtain ⟨e0, w0, g0⟩ := step _ _ 0 (.int .i64 e.id) (wideE es) h0 (by omega)
  obtain ⟨e1, w1, g1⟩ := step _ _ 1 (.int .i64 e.idx) w0 g0 (by omega)
  obtain ⟨e2, w2, g2⟩ := step _ _ 2 (.int .i64 e.rel) w1 g1 (by omega)
  obtain ⟨e3, w3, g3⟩ := step _ _ 3 (.int .i64 e.dl) w2 g2 (by omega)
  obtain ⟨e4, w4, g4⟩ := step _ _ 4 (.int .i64 e.bit) w3 g3 (by omega)
  obtain ⟨e5, w5, g5⟩ := step _ _ 5 (.int .i64 e.grp) w4 g4 (by omega)
  rw [Nat.add_zero] at e0
  rw [e0, e1, e2, e3, e4, e5]
  congr 1
  rw [List.set_set, List.set_set, List.set_set, List.set_set, List.set_set, List.map_set]
  rfl
/-- what is owned, with an entry stored -/
theorem owns_ent {w : World} {base g n cap : Nat} {T : TypeId} {es : List Ent} (h : w.ownsRow base T 6 (.slice (some ⟨g, 0, none⟩) n cap) n (es.map Ent.cs).flatten) (i : Nat) {x : Ent} (e : Ent) (hx : es[i]? = some x) :
    ((((((w.setCell ⟨g, i * 6, none⟩ (.int .i64 e.id)).setCell ⟨g, i * 6 + 1, none⟩ (.int .i64 e.idx)).setCell ⟨g, i * 6 + 2, none⟩ (.int .i64 e.rel)).setCell ⟨g, i * 6 + 3, none⟩ (.int .i64 e.dl)).setCell ⟨g, i * 6 + 4, none⟩ (.int .i64 e.bit)).setCell ⟨g, i * 6 + 5, none⟩ (.int .i64 e.grp)).ownsRow base T 6 (.slice (some ⟨g, 0, none⟩) n cap) n ((es.set i e).map Ent.cs).flatten := by
  rw [← ent_set es i x e hx]
  exact ((((((h.stored _ _).1.stored _ _).1.stored _ _).1.stored _ _).1.stored _ _).1.stored _ _).1
theorem owns_at {w : World} {base g n cap : Nat} {T : TypeId} {es : List Ent} (h : w.ownsRow base T 6 (.slice (some ⟨g, 0, none⟩) n cap) n (es.map Ent.cs).flatten) {i : Nat} {e : Ent} (he : es[i]? = some e) : EntAt w g (i * 6) e := by
  have hl : es.length = n := by
    have := h.1
    rw [flat_len _ (wideE es), List.length_map] at this
    omega
  have hi : i < n := by
    rw [← hl]
    rcases Nat.lt_or_ge i es.length with g | g
    · exact g
    · rw [List.getElem?_eq_none g] at he; cases he
  have hg : (es.map Ent.cs).getD i [] = e.cs := by rw [List.getD_eq_getElem?_getD, List.getElem?_map, he]; rfl
  have key : ∀ j, j < 6 → w.cell? ⟨g, i * 6 + j, none⟩ = e.cs[j]? := fun j hj => by
    rw [h.cellAt (i * 6 + j) (by omega), flat_at _ (wideE es) i (by rw [List.length_map, hl]; exact hi) j hj, hg]
  exact ⟨key 0 (by omega), key 1 (by omega), key 2 (by omega), key 3 (by omega), key 4 (by omega), key 5 (by omega)⟩
set_option maxHeartbeats 1000000 in
theorem pclone_any (a : Option Addr) (len cap : Nat) (es : List Ent) (w : World) (h : RowE w a len cap es) (hl : len ≤ 1000) :
    Calls Try.prog 22 #[.slice a len cap] w fun e w' => ∃ v, e = .returned v ∧ w'.ownsRow w.heap.size 27 6 v len (es.map Ent.cs).flatten ∧ Below w.heap.size w w' := by
  have qT : ∀ (w : World) (a : Option Addr) (n c n' c' : Nat), (binOp .eql 22 (.slice a n c) (.slice none n' c')).run Try.prog w = .ok (.bool a.isNone) w := fun w a n c n' c' => Lib.run_eql_slice_nil w _ _ a n c n' c' Try.underlying22
  rcases a with _ | ad
  · obtain ⟨rfl, rfl, hes⟩ := RowF.none_cap h
    obtain rfl : es = [] := by simpa using hes
    clear h hes
    go_enter Try.func22, Try.ntmps22
    go_wp2
    go_ret
    exact ⟨_, rfl, World.ownsRow_nil _ _ _ _, Below.refl _ _⟩
  · obtain ⟨i0, hi, hz0, hz1, hz2⟩ := info_parts Try.infoE
    have HI := Lib.hid hi
    have HZ0 := Lib.hid hz0
    have HZ1 := Lib.hid hz1
    have HZ2 := Lib.hid hz2
    have R := Lib.hid (h.below (wbox w (Obj.cells #[] 27)))
    have B := Lib.hid (wbox w (Obj.cells #[] 27))
    have O0 := Lib.hid (show (w.alloc (Obj.cells #[] 27)).ownsRow w.heap.size 27 6 (.slice (some ⟨w.heap.size, 0, none⟩) 0 0) 0 (([] : List (List Value)).flatten) from World.ownsRow_made w #[] 0 (Nat.le_refl _) (by decide) rfl)
    clear hi hz0 hz1 hz2 h
    go_enter Try.func22, Try.ntmps22
    go_wp2_with (at_builtin; refine wpList_append_rowF rfl _ _ _ rfl w.heap.size 27 i0 _ 6 48 Try.underlying22 HI.out HZ0.out HZ1.out HZ2.out rfl (by decide) (by decide) _ [] 0 rfl O0.out (some ad) len cap (es.map Ent.cs) rfl R.out (wideE _) (oneE _) B.out.size (by omega) ?_; intro v2 w2 hown2 hgrow2; rw [Nat.zero_add, List.nil_append] at hown2; have HO := Lib.hid hown2; have B2 := Lib.hid (B.out.grown hgrow2 B.out.size (fun g hg => (O0.out.lt g hg).1)); clear hown2 hgrow2)
    go_ret
    exact ⟨_, rfl, HO.out, B2.out⟩
end Go.Proofs.Ytkiolkceaibmgaa
