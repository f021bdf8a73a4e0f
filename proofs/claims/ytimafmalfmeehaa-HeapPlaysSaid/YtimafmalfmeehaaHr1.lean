/-
  Things in memory; the document's own heap (regattaref07): Less, At, Push, take, Remove: contracts.
-/
import Derived.Test.YtimafmalfmeehaaSep
import Derived.Deep.DeepCutAuto
import Derived.Deep.RegionHeld3
import Derived.OneCell
namespace Go.Proofs.Ytimafmalfmeehaa
open Go.RowKit

/-- a thing: its number, and what is there by it -/
structure Th where
  id : Int
  x : Int
def t0 : Th := ⟨0, 0⟩
def Th.cs (t : Th) : List Value := [.int .i64 t.id, .int .i64 t.x]
theorem wideT (ts : List Th) : Wide 2 (ts.map Th.cs) := fun r hr => by
  rw [List.mem_map] at hr
  obtain ⟨e, _, rfl⟩ := hr
  rfl
structure ThAt (W : World) (b o : Nat) (t : Th) : Prop where
  c0 : W.cell? ⟨b, o, none⟩ = some (.int .i64 t.id)
  c1 : W.cell? ⟨b, o + 1, none⟩ = some (.int .i64 t.x)
def RowT (W : World) (a : Option Addr) (len cap : Nat) (ts : List Th) : Prop := RowF W a len cap 2 (ts.map Th.cs)
theorem RowT.len {W : World} {a : Option Addr} {len cap : Nat} {ts : List Th} (h : RowT W a len cap ts) : ts.length = len := by have := h.1; rwa [List.length_map] at this
theorem RowT.at {W : World} {a : Option Addr} {len cap : Nat} {ts : List Th} (h : RowT W a len cap ts) {i : Nat} {t : Th} (he : ts[i]? = some t) : ∃ b off, a = some ⟨b, off, none⟩ ∧ ThAt W b (off + i * 2) t := by
  have hi : i < len := by
    rw [← h.len]
    rcases Nat.lt_or_ge i ts.length with g | g
    · exact g
    · rw [List.getElem?_eq_none g] at he; cases he
  obtain ⟨b, off, ha, hc⟩ := h.2.2.2.2 i hi
  have hg : (ts.map Th.cs).getD i [] = t.cs := by rw [List.getD_eq_getElem?_getD, List.getElem?_map, he]; rfl
  rw [hg] at hc
  exact ⟨b, off, ha, hc 0 (by omega), hc 1 (by omega)⟩
theorem getT {ts : List Th} {i : Nat} (hi : i < ts.length) : ∃ t, ts[i]? = some t := ⟨ts[i], List.getElem?_eq_getElem hi⟩
theorem Try.infoT : (Try.prog.info? 36).map (fun i => (i.zero, i.size, i.bytes)) = some (some (.agg #[.int .i64 0, .int .i64 0]), 2, 16) := by kernel_rfl
/-- append of one thing to what is owned -/
theorem app_thing {w : World} {ops : Array Oper} {rest : List Oper} {o : Oper} {act : Act} {Q : Exit → Act → World → Prop} (hgd : o.guard = none) (s x : Operand)
    (ho : o.op = .call { callee := .builtin .append, args := #[s, x], argTypes := #[28, 28] }) (base : Nat)
    (v : Value) (ns : List Th) (hs : act.eval s = v) (hown : w.ownsRow base 36 2 v ns.length (ns.map Th.cs).flatten) (g : Nat) (e : Th) (hx : act.eval x = .slice (some ⟨g, 0, none⟩) 1 1)
    (hg : w.heap[g]? = some (.cells #[.int .i64 e.id, .int .i64 e.x] 36 (0, 0))) (hb : base ≤ w.heap.size) (hsm : ns.length ≤ 100000)
    (h : ∀ v' w', w'.ownsRow base 36 2 v' (ns.length + 1) ((ns ++ [e]).map Th.cs).flatten → w.grownBy w' v.ownBlock → (∃ g cap, v' = .slice (some ⟨g, 0, none⟩) (ns.length + 1) cap ∧ (v.ownBlock = some g ∨ g = w.heap.size)) → wpList Try.prog ops Q rest (act.put o.dst v') w') : wpList Try.prog ops Q (o :: rest) act w := by
  obtain ⟨i0, hi, hz0, hz1, hz2⟩ := info_parts Try.infoT
  refine wpList_append_lies _ hgd s x _ ho base _ i0 _ 2 16 Try.underlying28 hi hz0 hz1 hz2 rfl (by decide) v _ _ hs hown ⟨g, 0, none⟩ 1 1 e.cs hx rfl (World.news_of_block (cs := #[.int .i64 e.id, .int .i64 e.x]) (t := 36) (fr := (0, 0)) hg) (by simp [Th.cs, Value.oneCell']) (by decide) (by unfold maxLen; omega) (by omega) hb w.heap.size rfl ?_
  intro g' cap w2 ho2 hg2 hl _
  refine h _ w2 ?_ hg2 ⟨g', cap, rfl, hl⟩
  rw [List.map_append, List.flatten_append]
  simpa using ho2
theorem rowT_of_owns {W : World} {base : Nat} {e : TypeId} {v : Value} {n : Nat} {ts : List Th} (h : W.ownsRow base e 2 v n (ts.map Th.cs).flatten) (hn : ts.length = n) :
    ∃ a cap, v = .slice a n cap ∧ RowT W a n cap ts ∧ Fresh base a := rowF_of_owns (wideT ts) h (by rw [List.length_map]; exact hn)

/-- the document's heap at block g, in the blocks of F, holds these things -/
def RH (W : World) (g : Nat) (F : Nat → Prop) (ts : List Th) : Prop :=
  ∃ v, Blk W 30 g #[v] ∧ W.ownsRow 0 36 2 v ts.length (ts.map Th.cs).flatten ∧ (∀ k, F k ↔ k = g ∨ v.ownBlock = some k) ∧ v.ownBlock ≠ some g
theorem RH.lies {W : World} {g : Nat} {F : Nat → Prop} {ts : List Th} (h : RH W g F ts) : Lies F W := by
  obtain ⟨v, hb, ho, hF, _⟩ := h
  intro k q
  rcases (hF k).mp q with rfl | e
  · exact hb.lt
  · exact (ho.lt k e).2
theorem RH.keeps {W W' : World} {g : Nat} {F G : Nat → Prop} {ts : List Th} (h : RH W g F ts) (k : Keeps G W W') (ap : Apart F G) : RH W' g F ts := by
  obtain ⟨v, hb, ho, hF, hne⟩ := h
  exact ⟨v, hb.keeps k (ap g ((hF g).mpr (.inl rfl))), owns_keeps ho k (fun x e => ap x ((hF x).mpr (.inr e))), hF, hne⟩
theorem RH.below {W W' : World} {g : Nat} {F : Nat → Prop} {ts : List Th} (h : RH W g F ts) (k : Below W.heap.size W W') : RH W' g F ts := h.keeps (G := fun _ => False) (Keeps.of k) (fun _ _ q => q)

theorem Blk.setB {W : World} {T : TypeId} {g : Nat} {cs : Array Value} (h : Blk W T g cs) (j : Nat) (v : Value) : Blk (W.setCell ⟨g, j, none⟩ v) T g (cs.setIfInBounds j v) := heap_setCell_same W g j cs T v h
/-! ### Less -/
def m15 (x : Int) : Int := bits .and .i64 x 15
theorem r7less_any (a b : Int) (w : World) : Calls Try.prog 10 #[.int .i64 a, .int .i64 b] w fun e w' => e = .returned (.bool (decide (m15 a < m15 b))) ∧ w = w' := by
  obtain ⟨p, hp⟩ : ∃ p, bits .and .i64 a 15 = p := ⟨_, rfl⟩
  obtain ⟨q, hq⟩ : ∃ q, bits .and .i64 b 15 = q := ⟨_, rfl⟩
  have V := Lib.hid (show decide (p < q) = decide (m15 a < m15 b) by unfold m15; rw [hp, hq])
  go_enter Try.func10, Try.ntmps10
  go_wp2
  go_ret
  exact ⟨congrArg (fun b => Ending.returned (.bool b)) V.out, rfl⟩

/-! ### At -/
def placeT (ts : List Th) (id : Int) : Int := match ts.findIdx? (fun t => decide (t.id = id)) with | some i => (i : Int) | none => -1
theorem place_none {ts : List Th} {id : Int} (h : ∀ t ∈ ts, t.id ≠ id) : placeT ts id = -1 := by
  unfold placeT
  rw [List.findIdx?_eq_none_iff.mpr (fun t ht => by simp [h t ht])]
theorem place_found {ts : List Th} {id : Int} {i : Nat} {t : Th} (ht : ts[i]? = some t) (q : t.id = id) (h : ∀ s ∈ ts.take i, s.id ≠ id) : placeT ts id = (i : Int) := by
  have hi : i < ts.length := by
    rcases Nat.lt_or_ge i ts.length with g | g
    · exact g
    · rw [List.getElem?_eq_none g] at ht; cases ht
  unfold placeT
  have : ts.findIdx? (fun t => decide (t.id = id)) = some i := by
    rw [List.findIdx?_eq_some_iff_getElem]
    refine ⟨hi, ?_, fun j hj => ?_⟩
    · rw [List.getElem?_eq_getElem hi] at ht
      simp at ht
      rw [ht]; simp [q]
    · have := h ts[j] (List.mem_take_iff_getElem.mpr ⟨j, by omega, rfl⟩)
      simp [this]
  rw [this]
theorem r7at_any (g : Nat) (F : Nat → Prop) (ts : List Th) (id : Int) (w : World) (h : RH w g F ts) (hl : ts.length ≤ 1000) :
    Calls Try.prog 16 #[.pointer (some ⟨g, 0, none⟩), .int .i64 id] w fun e w' => e = .returned (.int .i64 (placeT ts id)) ∧ w = w' := by
  obtain ⟨v, hb, ho, _, _⟩ := h
  obtain ⟨a, cap, rfl, hr, _⟩ := rowT_of_owns ho rfl
  have R := Lib.hid hr
  have c0 := hb.cell 0
  simp at c0
  obtain ⟨len, hlen⟩ : ∃ len, ts.length = len := ⟨_, rfl⟩
  rw [hlen] at R c0 hl
  have LN := Lib.hid hlen
  clear hb ho hr hlen
  go_enter Try.func16, Try.ntmps16
  go_wp2
  go_loopw [5] (fun u wr => ∃ i : Nat, u = .int .i64 i ∧ i ≤ len ∧ (∀ s ∈ ts.take i, s.id ≠ id) ∧ w = wr) (fun u _ => len - (intOf u).toNat)
  case atStart => exact ⟨0, rfl, by omega, by simp, rfl⟩
  case round =>
    obtain ⟨i, rfl, il, hno, rfl⟩ := hrel
    have NO := Lib.hid hno
    clear hno
    by_cases go : i < len
    · have b1 : decide (i < len) = true := by simp; omega
      have b2 : decide ((i : Int) < (len : Int)) = true := by simp; omega
      obtain ⟨t, ht⟩ := getT (ts := ts) (i := i) (by rw [LN.out]; exact go)
      have TS := Lib.hid (show ts.take (i + 1) = ts.take i ++ [t] by rw [List.take_add_one, ht]; rfl)
      obtain ⟨bl, ol, rfl, hat⟩ := R.out.at ht
      have x0 := hat.c0
      have HT := Lib.hid ht
      clear ht hat
      have i1 : (i : Int) < (len : Int) := by omega
      have i2 : 0 ≤ (i : Int) := by omega
      by_cases q : t.id = id
      · have t1 : (t.id == id) = true := by simp [q]
        have V := Lib.hid (place_found HT.out q NO.out)
        clear q
        go_wp2
        go_ret
        exact ⟨ret_one V.out.symm, rfl⟩
      · have t1 : (t.id == id) = false := by simp [q]
        have Q := Lib.hid q
        clear q
        go_wp2
        go_roundw
        case rel =>
          refine ⟨i + 1, by go_num, by omega, ?_, by trivial⟩
          rw [TS.out]
          intro z hz
          rcases List.mem_append.mp hz with y | y
          · exact NO.out z y
          · rw [List.mem_singleton.mp y]; exact Q.out
        case measure => simp [intOf]; omega
    · have b1 : decide (i < len) = false := by simp; omega
      have b2 : decide ((i : Int) < (len : Int)) = false := by simp; omega
      have EF := Lib.hid (show ts.take i = ts from List.take_of_length_le (by rw [LN.out]; omega))
      go_wp2
      go_ret
      exact ⟨ret_one (by rw [place_none (EF.out ▸ NO.out)]), rfl⟩

/-! ### Push -/
theorem r7push_any (g : Nat) (F : Nat → Prop) (ts : List Th) (id x : Int) (w : World) (h : RH w g F ts) (hl : ts.length ≤ 1000) :
    Calls Try.prog 20 #[.pointer (some ⟨g, 0, none⟩), .int .i64 id, .int .i64 x] w
      fun e w' => (0 ≤ placeT ts id ∧ e = .returned (.bool false) ∧ w = w') ∨ (placeT ts id < 0 ∧ e = .returned (.bool true) ∧ ∃ F', RH w' g F' (ts ++ [⟨id, x⟩]) ∧ Moves F F' w w') := by
  have H := Lib.hid h
  obtain ⟨p, hp⟩ : ∃ p, placeT ts id = p := ⟨_, rfl⟩
  have AT := Lib.hid (r7at_any g F ts id w h hl)
  rw [hp] at AT
  rw [hp]
  obtain ⟨v, hb, ho, hF, hne⟩ := h
  have c0 := hb.cell 0
  have f0 := hb.free 0
  simp at c0
  have BK := Lib.hid hb
  have HO := Lib.hid ho
  have HF := Lib.hid hF
  have NE := Lib.hid hne
  clear hb ho hF hne hp
  by_cases q : 0 ≤ p
  · have t1 : decide (0 ≤ p) = true := by simp; omega
    go_enter Try.func20, Try.ntmps20
    go_wp2_with fail
    refine AT.out.mono ?_
    rintro e w1 ⟨rfl, rfl⟩
    go_wp2
    go_ret
    exact .inl ⟨q, rfl, rfl⟩
  · have t1 : decide (0 ≤ p) = false := by simp; omega
    have gl : g < w.heap.size := BK.out.lt
    go_enter Try.func20, Try.ntmps20
    go_wp2_with fail
    refine AT.out.mono ?_
    rintro e w1 ⟨rfl, rfl⟩
    have B1 := Lib.hid (BK.out.alloc (Obj.cells #[.int .i64 id, .int .i64 x] 36))
    go_wp2_with (at_builtin; refine app_thing rfl _ _ rfl 0 _ ts rfl (HO.out.alloc _) w.heap.size ⟨id, x⟩ rfl (heap_alloc_new w _) (by omega) (by omega) ?_; intro v2 w2 hown2 hgrow2 hform; have HO2 := Lib.hid hown2; have HG2 := Lib.hid hgrow2; obtain ⟨g2, cap2, hv2, hor⟩ := hform; subst hv2; have HOR := Lib.hid (show v.ownBlock = some g2 ∨ g2 = (w.alloc (Obj.cells #[.int .i64 id, .int .i64 x] 36)).heap.size from hor); have c2 := ((show Blk w2 30 g #[v] from (hgrow2.block g (Nat.lt_of_lt_of_le gl (wbox w _).size) (fun e => NE.out e.symm)).trans B1.out)).cell 0; have f2 := ((show Blk w2 30 g #[v] from (hgrow2.block g (Nat.lt_of_lt_of_le gl (wbox w _).size) (fun e => NE.out e.symm)).trans B1.out)).free 0; simp at c2; have B2 := Lib.hid ((show Blk w2 30 g #[v] from (hgrow2.block g (Nat.lt_of_lt_of_le gl (wbox w _).size) (fun e => NE.out e.symm)).trans B1.out)); clear hown2 hgrow2 hor)
    go_ret
    have SR := Lib.hid (show g2 ≠ g from fun e => by
      rcases HOR.out with q | q
      · exact NE.out (by rw [q, e])
      · simp at q; omega)
    refine .inr ⟨by omega, rfl, (fun k => k = g ∨ k = g2), ⟨_, B2.out.setB 0 _, (by rw [show (ts ++ [(⟨id, x⟩ : Th)]).length = ts.length + 1 from by simp]; exact ownsRow_setCell_other HO2.out (a := ⟨g, 0, none⟩) (fun e => SR.out (by simpa [Value.ownBlock] using e)) _), fun k => by simp [Value.ownBlock, eq_comm], fun e => SR.out (by simpa [Value.ownBlock] using e)⟩, ?_⟩
    refine ⟨((((Keeps.refl F w).alloc _).grown HG2.out (fun k e => .inl ((HF.out k).mpr (.inr e)))).set (.inl ((HF.out g).mpr (.inl rfl))) 0 _), fun k q => ?_, fun k q => ?_⟩
    · rcases q with q | q
      · exact .inl ((HF.out k).mpr (.inl q))
      · subst q
        rcases HOR.out with q | q
        · exact .inl ((HF.out k).mpr (.inr q))
        · exact .inr (by rw [q]; simp)
    · rcases q with q | q
      · subst q
        have := B2.out.lt
        simpa using this
      · subst q
        have := (HO2.out.lt k rfl).2
        simpa using this
end Go.Proofs.Ytimafmalfmeehaa
