/-
  The document's own heap (regattaref07): take, Remove: contracts.
-/
import Derived.Test.YtimafmalfmeehaaHr1
namespace Go.Proofs.Ytimafmalfmeehaa
open Go.RowKit

theorem erase_snoc (l : List Th) (t : Th) (k : Nat) (h : k ≠ l.length) : (l ++ [t]).eraseIdx k = l.eraseIdx k ++ [t] := by
  rcases Nat.lt_or_ge k l.length with g | g
  · rw [List.eraseIdx_append_of_lt_length g]
  · rw [List.eraseIdx_of_length_le (by simp; omega), List.eraseIdx_of_length_le g]
theorem erase_self (l : List Th) (t : Th) : (l ++ [t]).eraseIdx l.length = l.eraseIdx l.length := by
  rw [List.eraseIdx_append_of_length_le (Nat.le_refl _), Nat.sub_self, List.eraseIdx_of_length_le (Nat.le_refl _)]
  simp
theorem below_appF {w wr w2 : World} {e : TypeId} {c : Nat} {v : Value} {n : Nat} {xs : List Value} {o : Obj} (hb : Below w.heap.size w wr) (ho : wr.ownsRow w.heap.size e c v n xs) (hg : (wr.alloc o).grownBy w2 v.ownBlock) : Below w.heap.size w w2 :=
  (hb.alloc hb.size _).grown hg (by have := hb.size; simp; omega) (fun g hg => (ho.lt g hg).1)
theorem owns_mono {w : World} {base base' : Nat} {e : TypeId} {size : Nat} {v : Value} {n : Nat} {xs : List Value} (h : w.ownsRow base e size v n xs) (hb : base' ≤ base) : w.ownsRow base' e size v n xs := by
  refine ⟨h.1, ?_⟩
  rcases h.2 with q | ⟨g, cap, cur, h1, h2, h3⟩
  · exact .inl q
  · exact .inr ⟨g, cap, cur, h1, Nat.le_trans hb h2, h3⟩
theorem RowT.below {W W' : World} {a : Option Addr} {len cap : Nat} {ts : List Th} (h : RowT W a len cap ts) (hb : Below W.heap.size W W') : RowT W' a len cap ts := RowF.below (wideT ts) h hb
set_option maxHeartbeats 2000000 in
theorem r7take_any (g : Nat) (F : Nat → Prop) (ts : List Th) (k : Nat) (w : World) (h : RH w g F ts) (hl : ts.length ≤ 1000) :
    Calls Try.prog 27 #[.pointer (some ⟨g, 0, none⟩), .int .i64 (k : Int)] w
      fun e w' => (∃ u, e = .returned u) ∧ ∃ F', RH w' g F' (ts.eraseIdx k) ∧ Moves F F' w w' := by
  obtain ⟨v, hb, ho, hF, hne⟩ := h
  have gl := hb.lt
  obtain ⟨a, cap, rfl, hr, _⟩ := rowT_of_owns ho rfl
  have R := Lib.hid hr
  obtain ⟨len, hlen⟩ : ∃ len, ts.length = len := ⟨_, rfl⟩
  rw [hlen] at R hl hb
  have BK := Lib.hid hb
  have LN := Lib.hid hlen
  have HF := Lib.hid hF
  clear hb ho hr hlen hF hne
  have c0 := BK.out.cell 0
  simp at c0
  go_enter Try.func27, Try.ntmps27
  go_wp2
  go_loopw [4, 5] (fun v u wr => ∃ (i : Nat) (ns : List Th), u = .int .i64 i ∧ i ≤ len ∧ ns = (ts.take i).eraseIdx k ∧ wr.ownsRow w.heap.size 36 2 v ns.length (ns.map Th.cs).flatten ∧ Below w.heap.size w wr) (fun _ u _ => len - (intOf u).toNat)
  case atStart => exact ⟨0, [], rfl, by omega, rfl, World.ownsRow_nil _ _ _ _, Below.refl _ _⟩
  case round =>
    obtain ⟨i, ns, rfl, il, hns, hown, hbel⟩ := hrel
    have HO := Lib.hid hown
    have B := Lib.hid hbel
    have NS := Lib.hid hns
    have hsz := hbel.size
    have BW := Lib.hid (BK.out.below hbel)
    have c1 := BW.out.cell 0
    simp at c1
    have nl : ns.length ≤ 1000 := by
      rw [hns]
      have := List.length_eraseIdx_le (ts.take i) k
      rw [List.length_take] at this
      omega
    clear hown hbel hns
    by_cases go : i < len
    · have b1 : decide (i < len) = true := by simp; omega
      have b2 : decide ((i : Int) < (len : Int)) = true := by simp; omega
      obtain ⟨t, ht⟩ := getT (ts := ts) (i := i) (by rw [LN.out]; exact go)
      have TS := Lib.hid (show ts.take (i + 1) = ts.take i ++ [t] by rw [List.take_add_one, ht]; rfl)
      have TL := Lib.hid (show (ts.take i).length = i by rw [List.length_take, LN.out]; omega)
      have i1 : (i : Int) < (len : Int) := by omega
      have i2 : 0 ≤ (i : Int) := by omega
      by_cases q : i = k
      · have t1 : ((i : Int) != (k : Int)) = false := by simp; omega
        have t2 : (i != k) = false := by simp; omega
        have EQ := Lib.hid (show ns = (ts.take (i + 1)).eraseIdx k by
          rw [TS.out, NS.out, ← q]
          have := erase_self (ts.take i) t
          rw [TL.out] at this
          exact this.symm)
        clear q ht
        go_wp2
        go_roundw
        case rel => exact ⟨i + 1, ns, by go_num, by omega, EQ.out, HO.out, B.out⟩
        case measure => simp [intOf]; omega
      · have t1 : ((i : Int) != (k : Int)) = true := by simp; omega
        have t2 : (i != k) = true := by simp; omega
        have EQ := Lib.hid (show ns ++ [t] = (ts.take (i + 1)).eraseIdx k by
          rw [TS.out, NS.out, erase_snoc _ _ _ (by rw [TL.out]; omega)])
        obtain ⟨bl, ol, rfl, hat⟩ := (R.out.below B.out).at ht
        have x0 := hat.c0
        have x1 := hat.c1
        clear q ht hat
        go_wp2_with (at_builtin; refine app_thing rfl _ _ rfl w.heap.size _ ns rfl (HO.out.alloc _) wr.heap.size t rfl (heap_alloc_new wr _) (by simp; omega) (by omega) ?_; intro v2 w2 hown2 hgrow2 _; have HO2 := Lib.hid hown2; have B2 := Lib.hid (below_appF B.out HO.out hgrow2); clear hown2 hgrow2)
        go_roundw
        case rel => exact ⟨i + 1, ns ++ [t], by go_num, by omega, EQ.out, by rw [show (ns ++ [t]).length = ns.length + 1 from by simp]; exact HO2.out, B2.out⟩
        case measure => simp [intOf]; omega
    · have b1 : decide (i < len) = false := by simp; omega
      have b2 : decide ((i : Int) < (len : Int)) = false := by simp; omega
      have EF := Lib.hid (show ns = ts.eraseIdx k by rw [NS.out, List.take_of_length_le (by rw [LN.out]; omega)])
      obtain ⟨a', cap', hv, _, hfr⟩ := rowT_of_owns HO.out rfl
      subst hv
      have FR := Lib.hid hfr
      have f1 := BW.out.free 0
      have NG := Lib.hid (show (Value.slice a' ns.length cap').ownBlock ≠ some g from fun e => by have := (HO.out.lt g e).1; omega)
      clear hfr
      go_wp2
      refine bodyPost_end (v := .tuple #[]) (by simp [results, Try.results27, go_sem]) rfl ?_
      refine ⟨⟨_, rfl⟩, (fun x => x = g ∨ (Value.slice a' ns.length cap').ownBlock = some x), ⟨_, BW.out.setB 0 _, ?_, fun _ => Iff.rfl, NG.out⟩, ⟨(Keeps.of B.out).set (.inl ((HF.out g).mpr (.inl rfl))) 0 _, fun x q => ?_, fun x q => ?_⟩⟩
      · rw [← EF.out]
        exact owns_mono (ownsRow_setCell_other HO.out (a := ⟨g, 0, none⟩) NG.out _) (Nat.zero_le _)
      · rcases q with q | q
        · exact .inl ((HF.out x).mpr (.inl q))
        · exact .inr (HO.out.lt x q).1
      · rcases q with q | q
        · subst q
          have := BW.out.lt
          simpa using this
        · have := (HO.out.lt x q).2
          simpa using this
theorem place_bound (ts : List Th) (id : Int) : placeT ts id < (ts.length : Int) ∧ -1 ≤ placeT ts id := by
  unfold placeT
  split
  · rename_i i h
    rw [List.findIdx?_eq_some_iff_getElem] at h
    obtain ⟨hi, _⟩ := h
    omega
  · omega
/-- Remove -/
theorem r7remove_any (g : Nat) (F : Nat → Prop) (ts : List Th) (id : Int) (w : World) (h : RH w g F ts) (hl : ts.length ≤ 1000) :
    Calls Try.prog 14 #[.pointer (some ⟨g, 0, none⟩), .int .i64 id] w
      fun e w' => (placeT ts id < 0 ∧ e = .returned (.tuple #[.int .i64 0, .bool false]) ∧ w = w') ∨ (∃ (k : Nat) (t : Th), placeT ts id = k ∧ ts[k]? = some t ∧ e = .returned (.tuple #[.int .i64 t.x, .bool true]) ∧ ∃ F', RH w' g F' (ts.eraseIdx k) ∧ Moves F F' w w') := by
  have H := Lib.hid h
  have pb := place_bound ts id
  obtain ⟨p, hp⟩ : ∃ p, placeT ts id = p := ⟨_, rfl⟩
  have AT := Lib.hid (r7at_any g F ts id w h hl)
  rw [hp] at AT pb
  rw [hp]
  obtain ⟨v, hb, ho, hF, hne⟩ := h
  clear hp hF hne
  by_cases q : p < 0
  · have t1 : decide (p < 0) = true := by simp; omega
    clear hb ho
    go_enter Try.func14, Try.ntmps14
    go_wp2_with fail
    refine AT.out.mono ?_
    rintro e w1 ⟨rfl, rfl⟩
    go_wp2
    exact bodyPost_ret (v := .tuple #[.int .i64 0, .bool false]) (by simp [results, Try.results14, go_sem]) rfl (.inl ⟨q, rfl, rfl⟩)
  · obtain ⟨k, rfl⟩ : ∃ k : Nat, p = (k : Int) := ⟨p.toNat, by omega⟩
    have t1 : decide ((k : Int) < 0) = false := decide_eq_false (by omega)
    obtain ⟨len, hlen⟩ : ∃ len, ts.length = len := ⟨_, rfl⟩
    obtain ⟨t, ht⟩ := getT (ts := ts) (i := k) (by omega)
    obtain ⟨a, cap, rfl, hr, _⟩ := rowT_of_owns ho rfl
    obtain ⟨bl, ol, rfl, hat⟩ := hr.at ht
    have x1 := hat.c1
    have c0 := hb.cell 0
    simp at c0
    rw [hlen] at c0 pb
    have HT := Lib.hid ht
    have k1 : (k : Int) < (len : Int) := by omega
    have k2 : 0 ≤ (k : Int) := by omega
    have HL := Lib.hid hl
    clear hb ho hr hat ht hlen q pb
    go_enter Try.func14, Try.ntmps14
    go_wp2_with fail
    refine AT.out.mono ?_
    rintro e w1 ⟨rfl, rfl⟩
    go_wp2_with fail
    refine (r7take_any g F ts k w H.out HL.out).mono ?_
    rintro e w2 ⟨⟨u, rfl⟩, F', hr, hm⟩
    have RR := Lib.hid hr; have MM := Lib.hid hm
    clear hr hm
    go_wp2
    exact bodyPost_ret (v := .tuple #[.int .i64 t.x, .bool true]) (by simp [results, Try.results14, go_sem]) rfl (.inr ⟨k, t, rfl, HT.out, rfl, F', RR.out, MM.out⟩)
end Go.Proofs.Ytimafmalfmeehaa
