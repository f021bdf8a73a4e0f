/-
  Events in memory; the document's own calendar (regattaref08): before, Find: contracts.
-/
import Derived.Test.YtfeemdljlikpbaaHe0
namespace Go.Proofs.Ytfeemdljlikpbaa
open Go.RowKit

theorem ret_b {x y : Bool} (h : x = y) : Ending.returned (.bool x) = .returned (.bool y) := by rw [h]
def Ev.cs (e : Ev) : List Value := [.int .i64 e.d, .int .i64 e.i, .int .i64 e.k]
structure EvAt (W : World) (b o : Nat) (e : Ev) : Prop where
  c0 : W.cell? ⟨b, o, none⟩ = some (.int .i64 e.d)
  c1 : W.cell? ⟨b, o + 1, none⟩ = some (.int .i64 e.i)
  c2 : W.cell? ⟨b, o + 2, none⟩ = some (.int .i64 e.k)
theorem EvAt.lt {W : World} {b o : Nat} {e : Ev} (h : EvAt W b o e) : b < W.heap.size := World.block_lt_of_cell? _ _ h.c0
theorem EvAt.below {W W' : World} {b o : Nat} {e : Ev} (h : EvAt W b o e) (hb : Below W.heap.size W W') : EvAt W' b o e :=
  ⟨(hb.cell h.lt).trans h.c0, (hb.cell h.lt).trans h.c1, (hb.cell h.lt).trans h.c2⟩
/-- the slice that leads to 'a' reads as these events -/
def RowV (W : World) (a : Option Addr) (len cap : Nat) (es : List Ev) : Prop := RowF W a len cap 3 (es.map Ev.cs)
theorem wideV (es : List Ev) : Wide 3 (es.map Ev.cs) := fun r hr => by
  rw [List.mem_map] at hr
  obtain ⟨e, _, rfl⟩ := hr
  rfl
theorem oneV (es : List Ev) : ∀ r ∈ es.map Ev.cs, ∀ u ∈ r, u.oneCell' = true := fun r hr u hu => by
  rw [List.mem_map] at hr
  obtain ⟨e, _, rfl⟩ := hr
  unfold Ev.cs at hu
  simp at hu
  rcases hu with rfl | rfl | rfl <;> rfl
theorem RowV.len {W : World} {a : Option Addr} {len cap : Nat} {es : List Ev} (h : RowV W a len cap es) : es.length = len := by have := h.1; rwa [List.length_map] at this
theorem RowV.cap_le {W : World} {a : Option Addr} {len cap : Nat} {es : List Ev} (h : RowV W a len cap es) : len ≤ cap ∧ cap ≤ 9223372036854775807 := RowF.cap_le h
theorem RowV.below {W W' : World} {a : Option Addr} {len cap : Nat} {es : List Ev} (h : RowV W a len cap es) (hb : Below W.heap.size W W') : RowV W' a len cap es := RowF.below (wideV es) h hb
theorem RowV.nil {W : World} : RowV W none 0 0 [] := RowF.nil
theorem RowV.take {W : World} {a : Option Addr} {len cap m : Nat} {es : List Ev} (h : RowV W a len cap es) (hm : m ≤ len) : RowV W a m cap (es.take m) := by
  unfold RowV; rw [List.map_take]; exact RowF.take h hm
/-- what is left of a row behind its first m -/
theorem RowF.dropped {W : World} {b off len cap c m : Nat} {rs : List (List Value)} (h : RowF W (some ⟨b, off, none⟩) len cap c rs) (hm : m ≤ len) : RowF W (some ⟨b, off + m * c, none⟩) (len - m) (cap - m) c (rs.drop m) := by
  have hc := h.cap_le
  refine ⟨by rw [List.length_drop, h.1], by omega, by omega, (fun e => by cases e), fun i hi => ?_⟩
  obtain ⟨b', off', ha, hcell⟩ := h.2.2.2.2 (m + i) (by omega)
  simp only [Option.some.injEq, Addr.mk.injEq, and_true] at ha
  obtain ⟨rfl, rfl⟩ := ha
  refine ⟨_, _, rfl, fun j hj => ?_⟩
  have := hcell j hj
  rw [List.getD_eq_getElem?_getD, List.getElem?_drop, ← List.getD_eq_getElem?_getD]
  rw [← this, Nat.add_mul, Nat.add_assoc off (m * c)]
theorem getV {es : List Ev} {i : Nat} (hi : i < es.length) : ∃ e, es[i]? = some e := ⟨es[i], List.getElem?_eq_getElem hi⟩
theorem RowV.at {W : World} {a : Option Addr} {len cap : Nat} {es : List Ev} (h : RowV W a len cap es) {i : Nat} {e : Ev} (he : es[i]? = some e) : ∃ b off, a = some ⟨b, off, none⟩ ∧ EvAt W b (off + i * 3) e := by
  have hi : i < len := by
    rw [← h.len]
    rcases Nat.lt_or_ge i es.length with g | g
    · exact g
    · rw [List.getElem?_eq_none g] at he; cases he
  obtain ⟨b, off, ha, hc⟩ := h.2.2.2.2 i hi
  have hg : (es.map Ev.cs).getD i [] = e.cs := by rw [List.getD_eq_getElem?_getD, List.getElem?_map, he]; rfl
  rw [hg] at hc
  exact ⟨b, off, ha, hc 0 (by omega), hc 1 (by omega), hc 2 (by omega)⟩
theorem rowV_of_owns {W : World} {base : Nat} {e : TypeId} {v : Value} {n : Nat} {es : List Ev} (h : W.ownsRow base e 3 v n (es.map Ev.cs).flatten) (hn : es.length = n) :
    ∃ a cap, v = .slice a n cap ∧ RowV W a n cap es ∧ Fresh base a := rowF_of_owns (wideV es) h (by rw [List.length_map]; exact hn)
def GivesV (w : World) (es : List Ev) (e : Ending) (w' : World) : Prop := ∃ a len cap, e = .returned (.slice a len cap) ∧ RowV w' a len cap es ∧ Below w.heap.size w w' ∧ Fresh w.heap.size a
theorem Try.infoV : (Try.prog.info? 31).map (fun i => (i.zero, i.size, i.bytes)) = some (some (.agg #[.int .i64 0, .int .i64 0, .int .i64 0]), 3, 24) := by kernel_rfl
/-- append of one event to what is owned -/
theorem app_event {w : World} {ops : Array Oper} {rest : List Oper} {o : Oper} {act : Act} {Q : Exit → Act → World → Prop} (hgd : o.guard = none) (s x : Operand)
    (ho : o.op = .call { callee := .builtin .append, args := #[s, x], argTypes := #[27, 27] }) (base : Nat)
    (v : Value) (ns : List Ev) (hs : act.eval s = v) (hown : w.ownsRow base 31 3 v ns.length (ns.map Ev.cs).flatten) (g : Nat) (e : Ev) (hx : act.eval x = .slice (some ⟨g, 0, none⟩) 1 1)
    (hg : w.heap[g]? = some (.cells #[.int .i64 e.d, .int .i64 e.i, .int .i64 e.k] 31 (0, 0))) (hb : base ≤ w.heap.size) (hsm : ns.length ≤ 100000)
    (h : ∀ v' w', w'.ownsRow base 31 3 v' (ns ++ [e]).length ((ns ++ [e]).map Ev.cs).flatten → w.grownBy w' v.ownBlock → wpList Try.prog ops Q rest (act.put o.dst v') w') : wpList Try.prog ops Q (o :: rest) act w := by
  obtain ⟨i0, hi, hz0, hz1, hz2⟩ := info_parts Try.infoV
  refine wpList_append_own _ hgd s x _ ho base _ i0 _ 3 24 Try.underlying27 hi hz0 hz1 hz2 rfl (by decide) v _ _ hs hown ⟨g, 0, none⟩ 1 1 e.cs hx rfl (World.news_of_block (cs := #[.int .i64 e.d, .int .i64 e.i, .int .i64 e.k]) (t := 31) (fr := (0, 0)) hg) (by simp [Ev.cs, Value.oneCell']) (by unfold maxLen; omega) (by omega) hb ?_
  intro v2 w2 ho2 hg2 _
  refine h v2 w2 ?_ hg2
  rw [List.length_append, List.map_append, List.flatten_append]
  simpa using ho2

/-- the document's calendar at block g, in the blocks of F, holds these events -/
def RC (W : World) (g : Nat) (F : Nat → Prop) (es : List Ev) : Prop :=
  ∃ a cap, Blk W 29 g #[.slice a es.length cap] ∧ RowV W a es.length cap es ∧ (∀ k, F k ↔ k = g ∨ ∃ ad : Addr, a = some ad ∧ ad.block = k) ∧ (∀ ad : Addr, a = some ad → ad.block ≠ g ∧ ad.block < W.heap.size ∧ ad.spot = none)
theorem RC.lies {W : World} {g : Nat} {F : Nat → Prop} {es : List Ev} (h : RC W g F es) : Lies F W := by
  obtain ⟨a, cap, hb, hr, hF, hl⟩ := h
  intro k q
  rcases (hF k).mp q with rfl | ⟨ad, e, rfl⟩
  · exact hb.lt
  · exact (hl ad e).2.1
theorem RC.keeps {W W' : World} {g : Nat} {F G : Nat → Prop} {es : List Ev} (h : RC W g F es) (k : Keeps G W W') (ap : Apart F G) : RC W' g F es := by
  obtain ⟨a, cap, hb, hr, hF, hl⟩ := h
  exact ⟨a, cap, hb.keeps k (ap g ((hF g).mpr (.inl rfl))), RowF.keeps hr (wideV es) (by decide) k (fun ad e => ap _ ((hF _).mpr (.inr ⟨ad, e, rfl⟩))), hF, fun ad e => ⟨(hl ad e).1, Nat.lt_of_lt_of_le (hl ad e).2.1 k.size, (hl ad e).2.2⟩⟩
theorem RC.below {W W' : World} {g : Nat} {F : Nat → Prop} {es : List Ev} (h : RC W g F es) (k : Below W.heap.size W W') : RC W' g F es := h.keeps (G := fun _ => False) (Keeps.of k) (fun _ _ q => q)

/-! ### before -/
/-- one event comes ahead of another one -/
def befB (a b : Ev) : Bool := decide (a.d < b.d ∨ (a.d = b.d ∧ (a.k < b.k ∨ (a.k = b.k ∧ a.i < b.i))))
set_option maxHeartbeats 1000000 in
theorem r8before_any (a b : Ev) (w : World) : Calls Try.prog 33 #[.agg #[.int .i64 a.d, .int .i64 a.i, .int .i64 a.k], .agg #[.int .i64 b.d, .int .i64 b.i, .int .i64 b.k]] w fun e w' => e = .returned (.bool (befB a b)) ∧ Below w.heap.size w w' := by
  have B2 := Lib.hid (below_next (wbox w (Obj.cells #[.int .i64 a.d, .int .i64 a.i, .int .i64 a.k] 31)) (wbox _ (Obj.cells #[.int .i64 b.d, .int .i64 b.i, .int .i64 b.k] 31)))
  by_cases h1 : a.d = b.d
  · have t1 : (a.d != b.d) = false := by simp [h1]
    by_cases h2 : a.k = b.k
    · have t2 : (a.k != b.k) = false := by simp [h2]
      have V := Lib.hid (show decide (a.i < b.i) = befB a b by unfold befB; simp [h1, h2])
      clear h1 h2
      go_enter Try.func33, Try.ntmps33
      go_wp2
      go_ret
      exact ⟨ret_b V.out, B2.out⟩
    · have t2 : (a.k != b.k) = true := by simp [h2]
      have V := Lib.hid (show decide (a.k < b.k) = befB a b by unfold befB; simp [h1, h2])
      clear h1 h2
      go_enter Try.func33, Try.ntmps33
      go_wp2
      go_ret
      exact ⟨ret_b V.out, B2.out⟩
  · have t1 : (a.d != b.d) = true := by simp [h1]
    have V := Lib.hid (show decide (a.d < b.d) = befB a b by unfold befB; simp [h1])
    clear h1
    go_enter Try.func33, Try.ntmps33
    go_wp2
    go_ret
    exact ⟨ret_b V.out, B2.out⟩

/-! ### Find -/
def isE (id kind : Int) (e : Ev) : Bool := decide (e.i = id ∧ e.k = kind)
def placeV (es : List Ev) (id kind : Int) : Int := match es.findIdx? (isE id kind) with | some i => (i : Int) | none => -1
theorem placeV_none {es : List Ev} {id kind : Int} (h : ∀ t ∈ es, isE id kind t = false) : placeV es id kind = -1 := by
  unfold placeV
  rw [List.findIdx?_eq_none_iff.mpr h]
theorem placeV_found {es : List Ev} {id kind : Int} {i : Nat} {t : Ev} (ht : es[i]? = some t) (q : isE id kind t = true) (h : ∀ s ∈ es.take i, isE id kind s = false) : placeV es id kind = (i : Int) := by
  have hi : i < es.length := by
    rcases Nat.lt_or_ge i es.length with g | g
    · exact g
    · rw [List.getElem?_eq_none g] at ht; cases ht
  unfold placeV
  have : es.findIdx? (isE id kind) = some i := by
    rw [List.findIdx?_eq_some_iff_getElem]
    refine ⟨hi, ?_, fun j hj => ?_⟩
    · rw [List.getElem?_eq_getElem hi] at ht
      simp at ht
      rw [ht]; exact q
    · have := h es[j] (List.mem_take_iff_getElem.mpr ⟨j, by omega, rfl⟩)
      simp [this]
  rw [this]
theorem placeV_bound (es : List Ev) (id kind : Int) : placeV es id kind < (es.length : Int) ∧ -1 ≤ placeV es id kind := by
  unfold placeV
  split
  · rename_i i h
    rw [List.findIdx?_eq_some_iff_getElem] at h
    obtain ⟨hi, _⟩ := h
    omega
  · omega
set_option maxHeartbeats 1000000 in
theorem r8find_any (g : Nat) (F : Nat → Prop) (es : List Ev) (id kind : Int) (w : World) (h : RC w g F es) (hl : es.length ≤ 1000) :
    Calls Try.prog 18 #[.pointer (some ⟨g, 0, none⟩), .int .i64 id, .int .i64 kind] w fun e w' => e = .returned (.int .i64 (placeV es id kind)) ∧ w = w' := by
  obtain ⟨a, cap, hb, hr, _, _⟩ := h
  have R := Lib.hid hr
  have c0 := hb.cell 0
  simp at c0
  obtain ⟨len, hlen⟩ : ∃ len, es.length = len := ⟨_, rfl⟩
  rw [hlen] at R c0 hl
  have LN := Lib.hid hlen
  clear hb hr hlen
  go_enter Try.func18, Try.ntmps18
  go_wp2
  go_loopw [7] (fun u wr => ∃ i : Nat, u = .int .i64 i ∧ i ≤ len ∧ (∀ s ∈ es.take i, isE id kind s = false) ∧ w = wr) (fun u _ => len - (intOf u).toNat)
  case atStart => exact ⟨0, rfl, by omega, by simp, rfl⟩
  case round =>
    obtain ⟨i, rfl, il, hno, rfl⟩ := hrel
    have NO := Lib.hid hno
    clear hno
    by_cases go : i < len
    · have b1 : decide (i < len) = true := by simp; omega
      have b2 : decide ((i : Int) < (len : Int)) = true := by simp; omega
      obtain ⟨t, ht⟩ := getV (es := es) (i := i) (by rw [LN.out]; exact go)
      have TS := Lib.hid (show es.take (i + 1) = es.take i ++ [t] by rw [List.take_add_one, ht]; rfl)
      obtain ⟨bl, ol, rfl, hat⟩ := R.out.at ht
      have x1 := hat.c1
      have x2 := hat.c2
      have HT := Lib.hid ht
      clear ht hat
      have i1 : (i : Int) < (len : Int) := by omega
      have i2 : 0 ≤ (i : Int) := by omega
      have STEP := Lib.hid (show isE id kind t = false → ∀ s ∈ es.take (i + 1), isE id kind s = false from fun q z hz => by
        rw [TS.out] at hz
        rcases List.mem_append.mp hz with y | y
        · exact NO.out z y
        · rw [List.mem_singleton.mp y]; exact q)
      by_cases q : t.i = id
      · have t1 : (t.i == id) = true := by simp [q]
        by_cases p : t.k = kind
        · have t2 : (t.k == kind) = true := by simp [p]
          have V := Lib.hid (placeV_found HT.out (show isE id kind t = true by unfold isE; simp [q, p]) NO.out)
          clear q p
          go_wp2
          go_ret
          exact ⟨ret_one V.out.symm, rfl⟩
        · have t2 : (t.k == kind) = false := by simp [p]
          have S := Lib.hid (STEP.out (show isE id kind t = false by unfold isE; simp [p]))
          clear q p
          go_wp2
          go_roundw
          case rel => exact ⟨i + 1, by go_num, by omega, S.out, by trivial⟩
          case measure => simp [intOf]; omega
      · have t1 : (t.i == id) = false := by simp [q]
        have S := Lib.hid (STEP.out (show isE id kind t = false by unfold isE; simp [q]))
        clear q
        go_wp2
        go_roundw
        case rel => exact ⟨i + 1, by go_num, by omega, S.out, by trivial⟩
        case measure => simp [intOf]; omega
    · have b1 : decide (i < len) = false := by simp; omega
      have b2 : decide ((i : Int) < (len : Int)) = false := by simp; omega
      have EF := Lib.hid (show es.take i = es from List.take_of_length_le (by rw [LN.out]; omega))
      go_wp2
      go_ret
      exact ⟨ret_one (by rw [placeV_none (EF.out ▸ NO.out)]), rfl⟩
end Go.Proofs.Ytfeemdljlikpbaa
