/-
  The document's own calendar (regattaref08): Put, what it puts: contract. (Written by wip/tools/gen_cr6.py.)
-/
import Derived.Test.YtfeemdljlikpbaaCr5
namespace Go.Proofs.Ytfeemdljlikpbaa
open Go.RowKit

theorem below_appV {w wr w2 : World} {e : TypeId} {c : Nat} {v : Value} {n : Nat} {xs : List Value} {o : Obj} (hb : Below w.heap.size w wr) (ho : wr.ownsRow w.heap.size e c v n xs) (hg : (wr.alloc o).grownBy w2 v.ownBlock) : Below w.heap.size w w2 :=
  (hb.alloc hb.size _).grown hg (by have := hb.size; simp; omega) (fun g hg => (ho.lt g hg).1)
set_option maxRecDepth 20000 in
set_option maxHeartbeats 4000000 in
theorem r8put_ok (g : Nat) (F : Nat → Prop) (es : List Ev) (e : Ev) (w : World) (h : RC w g F es) (hl : es.length ≤ 1000) (hb : ¬ BadE e) (hp : placeV es e.i e.k < 0) :
    Calls Try.prog 20 #[.pointer (some ⟨g, 0, none⟩), .agg #[.int .i64 e.d, .int .i64 e.i, .int .i64 e.k]] w fun z w' => z = .returned (.int .i64 0) ∧ ∃ F', RC w' g F' (insV e es) ∧ Moves F F' w w' := by
  unfold BadE at hb
  obtain ⟨W1, hW1⟩ : ∃ W1, w.alloc (.cells #[.int .i64 e.d, .int .i64 e.i, .int .i64 e.k] 31) = W1 := ⟨_, rfl⟩
  have B1 := Lib.hid (show Below w.heap.size w W1 by rw [← hW1]; exact wbox _ _)
  have N1 := Lib.hid (show Blk W1 31 w.heap.size #[.int .i64 e.d, .int .i64 e.i, .int .i64 e.k] by rw [← hW1]; exact Blk.new w _ _)
  have H0 := Lib.hid h
  have H1 := Lib.hid (h.below B1.out)
  have FI := Lib.hid (r8find_any g F es e.i e.k W1 H1.out hl)
  obtain ⟨p, hpp⟩ : ∃ p, placeV es e.i e.k = p := ⟨_, rfl⟩
  rw [hpp] at FI hp
  have t1 : decide (e.i < 0) = false := by simp; omega
  have t2 : decide (1023 < e.i) = false := by simp; omega
  have t3 : decide (e.k < 0) = false := by simp; omega
  have t4 : decide (7 < e.k) = false := by simp; omega
  have t5 : decide (e.d < 0) = false := by simp; omega
  have t6 : decide (0 ≤ p) = false := by simp; omega
  have x0 := N1.out.cell 0
  have x1 := N1.out.cell 1
  have x2 := N1.out.cell 2
  simp at x0 x1 x2
  have n1 : W1.heap.size = w.heap.size + 1 := by rw [← hW1]; simp
  have N1S := Lib.hid n1
  obtain ⟨a, cap, hbk, hr, _, _⟩ := H1.out
  obtain ⟨len, hlen⟩ : ∃ len, es.length = len := ⟨_, rfl⟩
  rw [hlen] at hbk hr hl
  have LN := Lib.hid hlen
  have R := Lib.hid hr
  have BK := Lib.hid hbk
  have c0 := hbk.cell 0
  simp at c0
  clear h hb hp hpp hbk hr hlen n1
  go_enter Try.func20, Try.ntmps20
  go_wp2_with fail
  refine FI.out.mono ?_
  rintro z w1 ⟨rfl, rfl⟩
  clear FI hW1
  go_wp2
  go_loopw [5, 6, 7] (fun v p u wr => ∃ (i : Nat) (b : Bool) (ns : List Ev), u = .int .i64 i ∧ i ≤ len ∧ p = .bool b ∧ wr.ownsRow W1.heap.size 31 3 v ns.length (ns.map Ev.cs).flatten ∧ insV e es = ns ++ (if b then es.drop i else insV e (es.drop i)) ∧ Below W1.heap.size W1 wr) (fun _ _ u _ => len - (intOf u).toNat)
  case atStart => exact ⟨0, false, [], rfl, by omega, rfl, World.ownsRow_nil _ _ _ _, rfl, Below.refl _ _⟩
  case round =>
    obtain ⟨i, b, ns, rfl, il, rfl, hown, heq, hbel⟩ := hrel
    have HO := Lib.hid hown
    have EQ := Lib.hid heq
    have HBE := Lib.hid hbel
    have hsz := hbel.size
    have nl : ns.length ≤ len + 1 := by
      have := congrArg List.length heq
      rw [insV_len, LN.out, List.length_append] at this
      omega
    have BW := Lib.hid (BK.out.below hbel)
    have NW := Lib.hid (N1.out.below hbel)
    have c1 := BW.out.cell 0
    simp at c1
    clear hown heq hbel
    by_cases go : i < len
    · have b1 : decide (i < len) = true := by simp; omega
      have b2 : decide ((i : Int) < (len : Int)) = true := by simp; omega
      obtain ⟨y, hy⟩ := getV (es := es) (i := i) (by rw [LN.out]; exact go)
      have ED := Lib.hid (show es.drop i = y :: es.drop (i + 1) by
        rw [List.drop_eq_getElem_cons (by rw [LN.out]; exact go)]
        rw [List.getElem?_eq_getElem (by rw [LN.out]; exact go)] at hy
        simp at hy; rw [hy])
      obtain ⟨bl, ol, rfl, hat⟩ := R.out.at hy
      have YW := Lib.hid hat
      have YA := Lib.hid (hat.below HBE.out)
      clear hy hat
      have i1 : (i : Int) < (len : Int) := by omega
      have i2 : 0 ≤ (i : Int) := by omega
      go_upto_region 10 with fail
      have DB := Lib.hid (show Below wr.heap.size wr wr.drew from (Below.refl _ _).drew)
      have YA := Lib.hid (YA.out.below DB.out)
      have BW := Lib.hid (BW.out.below DB.out)
      have NW := Lib.hid (NW.out.below DB.out)
      have HO := Lib.hid HO.out.drew
      have HBE := Lib.hid HBE.out.drew
      have KEPT := Lib.hid (show ∀ w' : World, Below wr.drew.heap.size wr.drew w' → w'.cell? ⟨g, 0, none⟩ = some (.slice (some ⟨bl, ol, none⟩) len cap) ∧ w'.cell? ⟨w.heap.size, 0, none⟩ = some (.int .i64 e.d) ∧ w'.cell? ⟨w.heap.size, 1, none⟩ = some (.int .i64 e.i) ∧ w'.cell? ⟨w.heap.size, 2, none⟩ = some (.int .i64 e.k) ∧ w'.cell? ⟨bl, ol + i * 3, none⟩ = some (.int .i64 y.d) ∧ w'.cell? ⟨bl, ol + i * 3 + 1, none⟩ = some (.int .i64 y.i) ∧ w'.cell? ⟨bl, ol + i * 3 + 2, none⟩ = some (.int .i64 y.k) from fun w' h => ⟨(BW.out.below h).cell 0, (NW.out.below h).cell 0, (NW.out.below h).cell 1, (NW.out.below h).cell 2, (YA.out.below h).c0, (YA.out.below h).c1, (YA.out.below h).c2⟩)
      have BL := Lib.hid (Below.refl wr.drew.heap.size wr.drew)
      go_region_held3 (fun w' => w'.cell? ⟨g, 0, none⟩ = some (.slice (some ⟨bl, ol, none⟩) len cap) ∧ w'.cell? ⟨w.heap.size, 0, none⟩ = some (.int .i64 e.d) ∧ w'.cell? ⟨w.heap.size, 1, none⟩ = some (.int .i64 e.i) ∧ w'.cell? ⟨w.heap.size, 2, none⟩ = some (.int .i64 e.k) ∧ w'.cell? ⟨bl, ol + i * 3, none⟩ = some (.int .i64 y.d) ∧ w'.cell? ⟨bl, ol + i * 3 + 1, none⟩ = some (.int .i64 y.i) ∧ w'.cell? ⟨bl, ol + i * 3 + 2, none⟩ = some (.int .i64 y.k))
        (exact KEPT.out _ BL.out)
        (first | (go_at_call 33; (with_reducible refine (r8before_any e y _).mono ?_); rintro z w4 ⟨rfl, hb⟩; have BL := Lib.hid hb; clear hb))
      all_goals
        have YA := Lib.hid (YA.out.below BL.out)
        have BW := Lib.hid (BW.out.below BL.out)
        have NW := Lib.hid (NW.out.below BL.out)
        have HO := Lib.hid (owns_below HO.out BL.out)
        have HBE := Lib.hid (below_next HBE.out BL.out)
        have hsz := HBE.out.size
        clear BL KEPT DB
        have c1 := BW.out.cell 0
        have x0 := NW.out.cell 0; have x1 := NW.out.cell 1; have x2 := NW.out.cell 2
        simp at c1 x0 x1 x2
        have y0 := YA.out.c0; have y1 := YA.out.c1; have y2 := YA.out.c2
        obtain ⟨f, hf⟩ : ∃ f, befB e y = f := ⟨_, rfl⟩
        rw [hf]
        have HF := Lib.hid hf
        clear hf
        cases b with
        | true =>
          go_wp2_with (at_builtin; refine app_event rfl _ _ rfl W1.heap.size _ ns rfl (HO.out.alloc _) w4.heap.size y rfl (heap_alloc_new w4 _) (by simp; omega) (by omega) ?_; intro v2 w2 hown2 hgrow2; have HO2 := Lib.hid hown2; have BE2 := Lib.hid (below_appV HBE.out HO.out hgrow2); clear hown2 hgrow2)
          go_roundw
          case rel => exact ⟨i + 1, true, ns ++ [y], by go_num, by omega, rfl, HO2.out, by rw [EQ.out, if_pos rfl, if_pos rfl, ED.out, List.append_assoc]; rfl, BE2.out⟩
          case measure => simp [intOf]; omega
        | false =>
          cases f with
          | false =>
            go_wp2_with (at_builtin; refine app_event rfl _ _ rfl W1.heap.size _ ns rfl (HO.out.alloc _) w4.heap.size y rfl (heap_alloc_new w4 _) (by simp; omega) (by omega) ?_; intro v2 w2 hown2 hgrow2; have HO2 := Lib.hid hown2; have BE2 := Lib.hid (below_appV HBE.out HO.out hgrow2); clear hown2 hgrow2)
            go_roundw
            case rel => exact ⟨i + 1, false, ns ++ [y], by go_num, by omega, rfl, HO2.out, by rw [EQ.out, if_neg (by decide), if_neg (by decide), ED.out, insV_on _ _ _ HF.out, List.append_assoc]; rfl, BE2.out⟩
            case measure => simp [intOf]; omega
          | true =>
            go_wp2_with (first | (at_builtin; refine app_event rfl _ _ rfl W1.heap.size _ ns rfl (HO.out.alloc _) w4.heap.size e rfl (heap_alloc_new w4 _) (by simp; omega) (by omega) ?_; intro v2 w2 hown2 hgrow2; have HO2 := Lib.hid hown2; have BE2 := Lib.hid (below_appV HBE.out HO.out hgrow2); clear hown2 hgrow2; have YB := Lib.hid (YW.out.below BE2.out); have GB := Lib.hid (BK.out.below BE2.out); have c2 := GB.out.cell 0; simp at c2; have q0 := YB.out.c0; have q1 := YB.out.c1; have q2 := YB.out.c2; have ns1 : (ns ++ [e]).length ≤ 100000 := (by simp; omega); have wa2 := BE2.out.size) | (at_builtin; refine app_event rfl _ _ rfl W1.heap.size _ (ns ++ [e]) rfl (HO2.out.alloc _) w2.heap.size y rfl (heap_alloc_new w2 _) (by simp; omega) ns1 ?_; intro v3 w3 hown3 hgrow3; have HO3 := Lib.hid hown3; have BE3 := Lib.hid (below_appV BE2.out HO2.out hgrow3); clear hown3 hgrow3))
            go_roundw
            case rel => exact ⟨i + 1, true, ns ++ [e] ++ [y], by go_num, by omega, rfl, HO3.out, by rw [EQ.out, if_neg (by decide), if_pos rfl, ED.out, insV_put _ _ _ HF.out, List.append_assoc, List.append_assoc]; rfl, BE3.out⟩
            case measure => simp [intOf]; omega
    · have b1 : decide (i < len) = false := by simp; omega
      have b2 : decide ((i : Int) < (len : Int)) = false := by simp; omega
      have ED := Lib.hid (show es.drop i = [] from List.drop_eq_nil_of_le (by rw [LN.out]; omega))
      have f1 := BW.out.free 0
      cases b with
      | true =>
        have EN := Lib.hid (show ns = insV e es by rw [EQ.out, if_pos rfl, ED.out, List.append_nil])
        obtain ⟨a2, cap2, hv, _, _⟩ := rowV_of_owns HO.out rfl
        subst hv
        go_wp2
        go_ret
        refine ⟨rfl, ?_⟩
        rw [← EN.out]
        exact H0.out.store (Keeps.next (Keeps.of B1.out) HBE.out) _ BW.out HO.out B1.out.size _ rfl
      | false =>
        have EN := Lib.hid (show ns ++ [e] = insV e es by rw [EQ.out, if_neg (by decide), ED.out]; rfl)
        have x0 := NW.out.cell 0; have x1 := NW.out.cell 1; have x2 := NW.out.cell 2
        simp at x0 x1 x2
        go_wp2_with (at_builtin; refine app_event rfl _ _ rfl W1.heap.size _ ns rfl (HO.out.alloc _) wr.heap.size e rfl (heap_alloc_new wr _) (by simp; omega) (by omega) ?_; intro v2 w2 hown2 hgrow2; have HO2 := Lib.hid hown2; have BE2 := Lib.hid (below_appV HBE.out HO.out hgrow2); clear hown2 hgrow2; have BN := Lib.hid (show Below W1.heap.size W1 w2 from BE2.out); have GB := Lib.hid (BK.out.below BN.out); have c2 := GB.out.cell 0; have f2 := GB.out.free 0; simp at c2; obtain ⟨a2, cap2, hv, _, _⟩ := rowV_of_owns HO2.out rfl; subst hv)
        go_ret
        refine ⟨rfl, ?_⟩
        rw [← EN.out]
        exact H0.out.store (Keeps.next (Keeps.of B1.out) BE2.out) _ GB.out HO2.out B1.out.size _ (by simp)
/-- Put -/
theorem r8put_any (g : Nat) (F : Nat → Prop) (es : List Ev) (e : Ev) (w : World) (h : RC w g F es) (hl : es.length ≤ 1000) :
    Calls Try.prog 20 #[.pointer (some ⟨g, 0, none⟩), .agg #[.int .i64 e.d, .int .i64 e.i, .int .i64 e.k]] w
      fun z w' => (BadE e ∧ z = .returned (.int .i64 1) ∧ Below w.heap.size w w') ∨ (¬ BadE e ∧ 0 ≤ placeV es e.i e.k ∧ z = .returned (.int .i64 14) ∧ Below w.heap.size w w') ∨ (¬ BadE e ∧ placeV es e.i e.k = -1 ∧ z = .returned (.int .i64 0) ∧ ∃ F', RC w' g F' (insV e es) ∧ Moves F F' w w') := by
  by_cases hb : BadE e
  · exact (r8put_bad g e w hb).mono fun z w' q => .inl ⟨hb, q⟩
  · have pb := placeV_bound es e.i e.k
    rcases Int.lt_or_le (placeV es e.i e.k) 0 with q | q
    · exact (r8put_ok g F es e w h hl hb q).mono fun z w' r => .inr (.inr ⟨hb, by omega, r⟩)
    · exact (r8put_there g F es e w h hl hb q).mono fun z w' r => .inr (.inl ⟨hb, q, r⟩)
end Go.Proofs.Ytfeemdljlikpbaa
