/-
  The walk of the law PrioSorts.
-/
import Derived.Test.YtkiolkceaibmgaaPr5
namespace Go.Proofs.Ytkiolkceaibmgaa
open Go.RowKit

section
variable {P : Program} {ops : Array Oper} {Q : Exit → Act → World → Prop} {md : Region.Mode} {S : World → Prop}
/-- take number i first: it is wanted -/
theorem takeY {i : Nat} {oi : Oper} {v : Value} {fuel : Nat} {listed : Array Bool} {a : Act} {w : World} (hi : ops[i]? = some oi)
    (hs : Region.noSelect ops = true) (hf : Region.free md ops listed i = true) (hr : (Region.ready md ops listed).contains i = true)
    (hQ : ∀ c a w, Q (.panic c) (a.put oi.dst v) w → Q (.panic c) a w) (hw : Region.wanted oi (yielded ops a.tmps) = true) (hy : ∀ w, S w → (execOp a.eval oi).run P w = .ok (.value v) w) (hS : S w)
    (h : wpAnyH P md ops Q S fuel (listed.setIfInBounds i true) (a.put oi.dst v) w) : wpAnyH P md ops Q S (fuel + 1) listed a w :=
  wpAnyH_take hi hs hf hr hQ (.inl ⟨hw, hy⟩) hS h
/-- .. it is not wanted -/
theorem takeN {i : Nat} {oi : Oper} {fuel : Nat} {listed : Array Bool} {a : Act} {w : World} (hi : ops[i]? = some oi)
    (hs : Region.noSelect ops = true) (hf : Region.free md ops listed i = true) (hr : (Region.ready md ops listed).contains i = true)
    (hQ : ∀ c a w, Q (.panic c) (a.put oi.dst undef) w → Q (.panic c) a w) (hw : Region.wanted oi (yielded ops a.tmps) = false) (hS : S w)
    (h : wpAnyH P md ops Q S fuel (listed.setIfInBounds i true) (a.put oi.dst undef) w) : wpAnyH P md ops Q S (fuel + 1) listed a w :=
  wpAnyH_take hi hs hf hr hQ (.inr ⟨hw, rfl⟩) hS h
end
theorem own_perm {l m : List Ent} (p : l.Perm m) (h : Own m) : Own l := by
  have e : ∀ l : List Ent, Own l ↔ (l.map Ent.id).Nodup := fun l => by unfold Own List.Nodup; rw [List.pairwise_map]
  rw [e] at h ⊢
  exact (p.map Ent.id).nodup_iff.mpr h
theorem sorted_rank {l : List Ent} (h : Own l) {i : Nat} {x : Ent} (hx : (sortE l)[i]? = some x) : l.countP (fun y => lessB y x) = i := by
  have o := own_perm (sortE_perm l) h
  have s := sortE_sorted l
  rw [← (sortE_perm l).countP_eq]
  obtain ⟨m, hm⟩ : ∃ m, sortE l = m := ⟨_, rfl⟩
  rw [hm] at hx o s ⊢
  have hi : i < m.length := by
    rcases Nat.lt_or_ge i m.length with g | g
    · exact g
    · rw [List.getElem?_eq_none g] at hx; cases hx
  have ex : m[i] = x := by rw [List.getElem?_eq_getElem hi] at hx; simpa using hx
  have hs : m = m.take i ++ x :: m.drop (i + 1) := by
    conv => lhs; rw [← List.take_append_drop i m]
    rw [List.drop_eq_getElem_cons hi, ex]
  unfold Own at o
  unfold Sorted at s
  rw [hs] at o s ⊢
  rw [List.pairwise_append] at o s
  rw [List.pairwise_cons] at s
  rw [List.countP_append, List.countP_cons, lessB_self]
  have c1 : (m.take i).countP (fun y => lessB y x) = (m.take i).length := List.countP_eq_length.mpr (fun y hy => by
    have h1 := o.2.2 y hy x (List.mem_cons_self ..)
    have h2 := s.2.2 y hy x (List.mem_cons_self ..)
    rcases ahead_one h1 with g | g
    · exact lessB_yes g
    · exact absurd g h2)
  have c2 : (m.drop (i + 1)).countP (fun y => lessB y x) = 0 := List.countP_eq_zero.mpr (fun y hy => by
    rw [lessB_no (s.2.1.1 y hy)]; decide)
  rw [c1, c2, List.length_take]
  simp
  omega
theorem sorted_pair {l : List Ent} {i : Nat} {x y : Ent} (hx : (sortE l)[i + 1]? = some x) (hy : (sortE l)[i]? = some y) : lessB x y = false := by
  have s := sortE_sorted l
  unfold Sorted at s
  rw [List.pairwise_iff_getElem] at s
  have lt : ∀ {k : Nat} {z : Ent}, (sortE l)[k]? = some z → ∃ h : k < (sortE l).length, (sortE l)[k] = z := fun {k z} h => by
    rcases Nat.lt_or_ge k (sortE l).length with g | g
    · exact ⟨g, by rw [List.getElem?_eq_getElem g] at h; simpa using h⟩
    · rw [List.getElem?_eq_none g] at h; cases h
  obtain ⟨h1, e1⟩ := lt hx
  obtain ⟨h2, e2⟩ := lt hy
  have := s i (i + 1) h2 h1 (by omega)
  rw [e1, e2] at this
  exact lessB_no this
theorem sorted_from {l : List Ent} {i : Nat} {x : Ent} (hx : (sortE l)[i]? = some x) : ∃ j : Nat, l[j]? = some x := by
  have := (sortE_perm l).mem_iff.mp (List.mem_of_getElem? hx)
  obtain ⟨j, hj, e⟩ := List.mem_iff_getElem.mp this
  exact ⟨j, by rw [List.getElem?_eq_getElem hj, e]⟩
theorem prank_at (a : Option Addr) (len cap : Nat) (es : List Ent) (id r : Int) (w : World) (h : RowE w a len cap es) (hl : len ≤ 1000) (hr : rankE es id = r) :
    Calls Try.prog 16 #[.slice a len cap, .int .i64 id] w fun e w' => e = .returned (.int .i64 r) ∧ Below w.heap.size w w' := hr ▸ prank_any a len cap es id w h hl
set_option maxRecDepth 20000 in
set_option maxHeartbeats 4000000 in
theorem sorts_walk (a : Option Addr) (len cap : Nat) (es : List Ent) (w : World) (h : RowE w a len cap es) : Calls Try.prog 5 #[.slice a len cap] w fun e w' => e = .returned (.bool true) ∧ Below w.heap.size w w' := by
  have H := Lib.hid h
  clear h
  obtain ⟨i0, hi, hz0, hz1, hz2⟩ := info_parts Try.infoE
  have HI := Lib.hid hi; have HZ0 := Lib.hid hz0; have HZ1 := Lib.hid hz1; have HZ2 := Lib.hid hz2
  clear hi hz0 hz1 hz2
  go_enter Try.func5, Try.ntmps5
  go_wp2_with fail
  refine (l6awake_any _).mono ?_
  rintro e w1 ⟨rfl, hb⟩
  have B := Lib.hid hb
  have H := Lib.hid (H.out.below hb)
  clear hb
  go_wp2_with fail
  refine (l6few_any a len cap es _ (H.out.below (wbox _ _))).mono ?_
  rintro e wz ⟨m, rfl, hrow, m20, rfl⟩
  have R := Lib.hid hrow
  have LM := Lib.hid hrow.len
  have B0 := Lib.hid B.out
  have B := Lib.hid (below_next B.out (wbox w1 (Obj.cells #[] 27)))
  have O0 := Lib.hid (show (w1.alloc (Obj.cells #[] 27)).ownsRow w.heap.size 27 6 (.slice (some ⟨w1.heap.size, 0, none⟩) 0 0) 0 (([] : List (List Value)).flatten) from World.ownsRow_made w1 #[] 0 B0.out.size (by decide) rfl)
  clear hrow
  obtain ⟨W0, hW0⟩ : ∃ W0, w1.alloc (Obj.cells #[] 27) = W0 := ⟨_, rfl⟩
  rw [hW0] at R B O0 ⊢
  clear hW0
  go_wp2_with (at_builtin; refine wpList_append_rowF rfl _ _ _ rfl w.heap.size 27 i0 _ 6 48 Try.underlying22 HI.out HZ0.out HZ1.out HZ2.out rfl (by decide) (by decide) _ [] 0 rfl O0.out a m cap ((es.take 20).map Ent.cs) rfl R.out (wideE _) (oneE _) B.out.size (by omega) ?_; intro v2 w2 hown2 hgrow2; rw [Nat.zero_add, List.nil_append] at hown2; have HO := Lib.hid hown2; have B2 := Lib.hid (B.out.grown hgrow2 B.out.size (fun g hg => (O0.out.lt g hg).1)); obtain ⟨am, cm, hv, _, hfm⟩ := rowE_of_owns hown2 LM.out; subst hv; have FM := Lib.hid hfm; clear hown2 hgrow2 hfm)
  obtain ⟨es', hes⟩ : ∃ es', es.take 20 = es' := ⟨_, rfl⟩
  rw [hes] at LM HO
  clear hes R O0 B B0 H
  have B := Lib.hid B2.out
  clear B2
  go_loopw [5] (fun u wr => ∃ i : Nat, u = .int .i64 i ∧ i ≤ m ∧ wr.ownsRow w.heap.size 27 6 (.slice am m cm) m ((idTo (fun i => (i : Int)) i es').map Ent.cs).flatten ∧ Below w.heap.size w wr) (fun u _ => m - (intOf u).toNat)
  case atStart => exact ⟨0, rfl, by omega, by rw [idTo_zero]; exact HO.out, B.out⟩
  case round =>
    obtain ⟨i, rfl, il, hown, hbel⟩ := hrel
    clear HO B
    have HO := Lib.hid hown
    have B := Lib.hid hbel
    clear hown hbel
    by_cases go : i < m
    · have b1 : decide (i < m) = true := by simp; omega
      have b2 : decide ((i : Int) < (m : Int)) = true := by simp; omega
      obtain ⟨g, cm', hv⟩ := owns_form HO.out (by omega)
      simp only [Value.slice.injEq, true_and] at hv
      obtain ⟨rfl, rfl⟩ := hv
      have HF := Lib.hid (FM.out _ rfl)
      have ST := Lib.hid ((HO.out.stored (i * 6) (.int .i64 ((i : Int)))).1)
      rw [idTo_step (fun i => (i : Int)) i es' (by rw [LM.out]; exact go)] at ST
      obtain ⟨av, cv, hv, hrow, _⟩ := rowE_of_owns HO.out (by rw [idTo_len]; exact LM.out)
      simp only [Value.slice.injEq, true_and] at hv
      obtain ⟨rfl, rfl⟩ := hv
      obtain ⟨x, hx, _, _⟩ := getE (es := idTo (fun i => (i : Int)) i es') (i := i) (by rw [idTo_len, LM.out]; exact go)
      obtain ⟨bo, oo, hab, hat⟩ := hrow.at hx
      simp only [Option.some.injEq, Addr.mk.injEq, and_true] at hab
      obtain ⟨rfl, rfl⟩ := hab
      have c0 := hat.c0
      rw [Nat.zero_add] at c0
      have f0 := HO.out.frozenAt (i * 6)
      clear hrow hx hat
      have j1 : (i : Int) < (m : Int) := by omega
      have j2 : 0 ≤ (i : Int) := by omega
      go_wp2
      go_roundw
      case rel => exact ⟨i + 1, by go_num, by omega, ST.out, B.out.setCell (show w.heap.size ≤ (⟨g, i * 6, none⟩ : Addr).block from HF.out) _⟩
      case measure => simp [intOf]; omega
    have b1 : decide (i < m) = false := by simp; omega
    have b2 : decide ((i : Int) < (m : Int)) = false := by simp; omega
    have im : i = es'.length := by rw [LM.out]; omega
    obtain ⟨av, cv, hv, hrow, _⟩ := rowE_of_owns HO.out (by rw [idTo_len]; exact LM.out)
    simp only [Value.slice.injEq, true_and] at hv
    obtain ⟨rfl, rfl⟩ := hv
    rw [im] at hrow
    obtain ⟨ms, hms⟩ : ∃ ms, idTo (fun i => (i : Int)) es'.length es' = ms := ⟨_, rfl⟩
    rw [hms] at hrow
    have MS := Lib.hid hms
    have RM := Lib.hid hrow
    have LL := Lib.hid hrow.len
    clear hrow hms HO im
    obtain ⟨wa, hwa⟩ : ∃ wa, wa = wr := ⟨_, rfl⟩
    rw [← hwa] at RM B ⊢
    clear hwa
    have OW := Lib.hid (show Own ms by rw [← MS.out]; exact own_idTo (fun i j hi hj e => by omega))
    have ID := Lib.hid (show ∀ (j : Nat) (x : Ent), ms[j]? = some x → x.id = (j : Int) from fun j x hx => by rw [← MS.out] at hx; exact (idTo_id hx).1)
    go_wp2_with fail
    refine (psort_any _ m _ ms _ RM.out (by omega)).mono ?_
    rintro e wb ⟨sa, ls, sc, rfl, hr, hb, hf⟩
    obtain rfl : m = ls := by rw [← hr.len, sortE_len, LL.out]
    have RS := Lib.hid hr
    have RM := Lib.hid (RM.out.below hb)
    have B := Lib.hid (below_next B.out hb)
    have LS := Lib.hid hr.len
    clear hr hb hf
    have t0 : ((m : Int) != (m : Int)) = false := by simp
    go_wp2
    go_loopw [7] (fun u wr => ∃ i : Nat, u = .int .i64 i ∧ i ≤ m ∧ Below wb.heap.size wb wr) (fun u _ => m - (intOf u).toNat)
    case atStart => exact ⟨0, rfl, by omega, Below.refl _ _⟩
    case round =>
      obtain ⟨i, rfl, il, hbel⟩ := hrel
      have RM := Lib.hid (RM.out.below hbel)
      have RS := Lib.hid (RS.out.below hbel)
      have BE := Lib.hid hbel
      clear hbel
      by_cases go' : i < m
      · have b3 : decide (i < m) = true := by simp; omega
        have b4 : decide ((i : Int) < (m : Int)) = true := by simp; omega
        obtain ⟨x, hx, _, _⟩ := getE (es := sortE ms) (i := i) (by rw [LS.out]; exact go')
        obtain ⟨j, hj⟩ := sorted_from hx
        have jm : j < m := by
          rw [← LL.out]
          rcases Nat.lt_or_ge j ms.length with g | g
          · exact g
          · rw [List.getElem?_eq_none g] at hj; cases hj
        have xi := ID.out j x hj
        have VR := Lib.hid (show rankE ms (j : Int) = (i : Int) by rw [← xi, rank_own OW.out hj, sorted_rank OW.out hx])
        obtain ⟨bs, oz, rfl, hxs⟩ := RS.out.at hx
        obtain ⟨bm, om, rfl, hxm⟩ := RM.out.at hj
        have XS := Lib.hid hxs.drew
        have XM := Lib.hid hxm.drew
        clear hj hxs hxm
        have i1 : (i : Int) < (m : Int) := by omega
        have i2 : 0 ≤ (i : Int) := by omega
        have j1 : (j : Int) < (m : Int) := by omega
        have j2 : 0 ≤ (j : Int) := by omega
        have t1 : decide ((j : Int) < 0) = false := decide_eq_false (by omega)
        have t2 : decide ((m : Int) ≤ (j : Int)) = false := decide_eq_false (by omega)
        have t2n : decide (m ≤ j) = false := decide_eq_false (by omega)
        obtain ⟨x0, x1, x2, x3, x4, x5⟩ := x
        obtain rfl : x0 = (j : Int) := xi
        by_cases z : i = 0
        · have t3 : decide (0 < i) = false := decide_eq_false (by omega)
          have t4 : decide (0 < (i : Int)) = false := decide_eq_false (by omega)
          clear hx z
          go_upto_region 13 with fail
          have RM := Lib.hid RM.out.drew
          have BE := Lib.hid BE.out.drew
          have KEPT := Lib.hid (show ∀ w' : World, Below wr.drew.heap.size wr.drew w' → w'.cell? ⟨bs, oz + i * 6, none⟩ = some (.int .i64 (j : Int)) ∧ w'.cell? ⟨bs, oz + i * 6 + 1, none⟩ = some (.int .i64 x1) ∧ w'.cell? ⟨bs, oz + i * 6 + 2, none⟩ = some (.int .i64 x2) ∧ w'.cell? ⟨bs, oz + i * 6 + 3, none⟩ = some (.int .i64 x3) ∧ w'.cell? ⟨bs, oz + i * 6 + 4, none⟩ = some (.int .i64 x4) ∧ w'.cell? ⟨bs, oz + i * 6 + 5, none⟩ = some (.int .i64 x5) ∧ w'.cell? ⟨bm, om + j * 6, none⟩ = some (.int .i64 (j : Int)) ∧ w'.cell? ⟨bm, om + j * 6 + 1, none⟩ = some (.int .i64 x1) ∧ w'.cell? ⟨bm, om + j * 6 + 2, none⟩ = some (.int .i64 x2) ∧ w'.cell? ⟨bm, om + j * 6 + 3, none⟩ = some (.int .i64 x3) ∧ w'.cell? ⟨bm, om + j * 6 + 4, none⟩ = some (.int .i64 x4) ∧ w'.cell? ⟨bm, om + j * 6 + 5, none⟩ = some (.int .i64 x5) from fun w' h => ⟨(XS.out.below h).c0, (XS.out.below h).c1, (XS.out.below h).c2, (XS.out.below h).c3, (XS.out.below h).c4, (XS.out.below h).c5, (XM.out.below h).c0, (XM.out.below h).c1, (XM.out.below h).c2, (XM.out.below h).c3, (XM.out.below h).c4, (XM.out.below h).c5⟩)
          have BL := Lib.hid (Below.refl wr.drew.heap.size wr.drew)
          refine wp_region_noPanic ?_
          refine wp_region_held_drew (S := fun w' => w'.cell? ⟨bs, oz + i * 6, none⟩ = some (.int .i64 (j : Int)) ∧ w'.cell? ⟨bs, oz + i * 6 + 1, none⟩ = some (.int .i64 x1) ∧ w'.cell? ⟨bs, oz + i * 6 + 2, none⟩ = some (.int .i64 x2) ∧ w'.cell? ⟨bs, oz + i * 6 + 3, none⟩ = some (.int .i64 x3) ∧ w'.cell? ⟨bs, oz + i * 6 + 4, none⟩ = some (.int .i64 x4) ∧ w'.cell? ⟨bs, oz + i * 6 + 5, none⟩ = some (.int .i64 x5) ∧ w'.cell? ⟨bm, om + j * 6, none⟩ = some (.int .i64 (j : Int)) ∧ w'.cell? ⟨bm, om + j * 6 + 1, none⟩ = some (.int .i64 x1) ∧ w'.cell? ⟨bm, om + j * 6 + 2, none⟩ = some (.int .i64 x2) ∧ w'.cell? ⟨bm, om + j * 6 + 3, none⟩ = some (.int .i64 x3) ∧ w'.cell? ⟨bm, om + j * 6 + 4, none⟩ = some (.int .i64 x4) ∧ w'.cell? ⟨bm, om + j * 6 + 5, none⟩ = some (.int .i64 x5)) (by kernel_rfl) (KEPT.out _ BL.out) (fun hHeld => ?_)
          refine' takeY (i := 0) (oi := _) (v := _) ?hia0 (by kernel_rfl) (by kernel_rfl) (by kernel_rfl) (fun _ _ _ h => h) ?hwa0 ?hya0 hHeld ?resta0
          case hia0 => (simp only [List.getElem?_toArray, List.getElem?_cons_zero]; rfl)
          case hwa0 => rfl
          case hya0 => (intro w hSw; (try dsimp only at hSw); go_simp; try with_reducible rfl)
          try simp only [Act.put, List.setIfInBounds_toArray, List.set_cons_zero, List.set_cons_succ]
          refine' takeY (i := 1) (oi := _) (v := _) ?hia1 (by kernel_rfl) (by kernel_rfl) (by kernel_rfl) (fun _ _ _ h => h) ?hwa1 ?hya1 hHeld ?resta1
          case hia1 => (simp only [List.getElem?_toArray, List.getElem?_cons_succ, List.getElem?_cons_zero]; rfl)
          case hwa1 => rfl
          case hya1 => (intro w hSw; (try dsimp only at hSw); go_simp; try with_reducible rfl)
          try simp only [Act.put, List.setIfInBounds_toArray, List.set_cons_zero, List.set_cons_succ]
          refine' takeY (i := 2) (oi := _) (v := _) ?hia2 (by kernel_rfl) (by kernel_rfl) (by kernel_rfl) (fun _ _ _ h => h) ?hwa2 ?hya2 hHeld ?resta2
          case hia2 => (simp only [List.getElem?_toArray, List.getElem?_cons_succ, List.getElem?_cons_zero]; rfl)
          case hwa2 => rfl
          case hya2 => (intro w hSw; (try dsimp only at hSw); go_simp; try with_reducible rfl)
          try simp only [Act.put, List.setIfInBounds_toArray, List.set_cons_zero, List.set_cons_succ]
          refine' takeY (i := 3) (oi := _) (v := _) ?hia3 (by kernel_rfl) (by kernel_rfl) (by kernel_rfl) (fun _ _ _ h => h) ?hwa3 ?hya3 hHeld ?resta3
          case hia3 => (simp only [List.getElem?_toArray, List.getElem?_cons_succ, List.getElem?_cons_zero]; rfl)
          case hwa3 => rfl
          case hya3 => (intro w hSw; (try dsimp only at hSw); go_simp; try with_reducible rfl)
          try simp only [Act.put, List.setIfInBounds_toArray, List.set_cons_zero, List.set_cons_succ]
          refine' takeY (i := 4) (oi := _) (v := _) ?hia4 (by kernel_rfl) (by kernel_rfl) (by kernel_rfl) (fun _ _ _ h => h) ?hwa4 ?hya4 hHeld ?resta4
          case hia4 => (simp only [List.getElem?_toArray, List.getElem?_cons_succ, List.getElem?_cons_zero]; rfl)
          case hwa4 => rfl
          case hya4 => (intro w hSw; (try dsimp only at hSw); go_simp; try with_reducible rfl)
          try simp only [Act.put, List.setIfInBounds_toArray, List.set_cons_zero, List.set_cons_succ]
          refine' takeY (i := 5) (oi := _) (v := _) ?hia5 (by kernel_rfl) (by kernel_rfl) (by kernel_rfl) (fun _ _ _ h => h) ?hwa5 ?hya5 hHeld ?resta5
          case hia5 => (simp only [List.getElem?_toArray, List.getElem?_cons_succ, List.getElem?_cons_zero]; rfl)
          case hwa5 => rfl
          case hya5 => (intro w hSw; (try dsimp only at hSw); go_simp; try with_reducible rfl)
          try simp only [Act.put, List.setIfInBounds_toArray, List.set_cons_zero, List.set_cons_succ]
          refine' takeY (i := 6) (oi := _) (v := _) ?hia6 (by kernel_rfl) (by kernel_rfl) (by kernel_rfl) (fun _ _ _ h => h) ?hwa6 ?hya6 hHeld ?resta6
          case hia6 => (simp only [List.getElem?_toArray, List.getElem?_cons_succ, List.getElem?_cons_zero]; rfl)
          case hwa6 => rfl
          case hya6 => (intro w hSw; (try dsimp only at hSw); go_simp; try with_reducible rfl)
          try simp only [Act.put, List.setIfInBounds_toArray, List.set_cons_zero, List.set_cons_succ]
          refine' takeY (i := 7) (oi := _) (v := _) ?hia7 (by kernel_rfl) (by kernel_rfl) (by kernel_rfl) (fun _ _ _ h => h) ?hwa7 ?hya7 hHeld ?resta7
          case hia7 => (simp only [List.getElem?_toArray, List.getElem?_cons_succ, List.getElem?_cons_zero]; rfl)
          case hwa7 => rfl
          case hya7 => (intro w hSw; (try dsimp only at hSw); go_simp; try with_reducible rfl)
          try simp only [Act.put, List.setIfInBounds_toArray, List.set_cons_zero, List.set_cons_succ]
          refine' takeY (i := 8) (oi := _) (v := _) ?hia8 (by kernel_rfl) (by kernel_rfl) (by kernel_rfl) (fun _ _ _ h => h) ?hwa8 ?hya8 hHeld ?resta8
          case hia8 => (simp only [List.getElem?_toArray, List.getElem?_cons_succ, List.getElem?_cons_zero]; rfl)
          case hwa8 => rfl
          case hya8 => (intro w hSw; (try dsimp only at hSw); go_simp; try with_reducible rfl)
          try simp only [Act.put, List.setIfInBounds_toArray, List.set_cons_zero, List.set_cons_succ]
          refine' takeY (i := 9) (oi := _) (v := _) ?hia9 (by kernel_rfl) (by kernel_rfl) (by kernel_rfl) (fun _ _ _ h => h) ?hwa9 ?hya9 hHeld ?resta9
          case hia9 => (simp only [List.getElem?_toArray, List.getElem?_cons_succ, List.getElem?_cons_zero]; rfl)
          case hwa9 => rfl
          case hya9 => (intro w hSw; (try dsimp only at hSw); go_simp; try with_reducible rfl)
          try simp only [Act.put, List.setIfInBounds_toArray, List.set_cons_zero, List.set_cons_succ]
          refine' takeY (i := 10) (oi := _) (v := _) ?hia10 (by kernel_rfl) (by kernel_rfl) (by kernel_rfl) (fun _ _ _ h => h) ?hwa10 ?hya10 hHeld ?resta10
          case hia10 => (simp only [List.getElem?_toArray, List.getElem?_cons_succ, List.getElem?_cons_zero]; rfl)
          case hwa10 => rfl
          case hya10 => (intro w hSw; (try dsimp only at hSw); go_simp; try with_reducible rfl)
          try simp only [Act.put, List.setIfInBounds_toArray, List.set_cons_zero, List.set_cons_succ]
          refine' takeY (i := 11) (oi := _) (v := _) ?hia11 (by kernel_rfl) (by kernel_rfl) (by kernel_rfl) (fun _ _ _ h => h) ?hwa11 ?hya11 hHeld ?resta11
          case hia11 => (simp only [List.getElem?_toArray, List.getElem?_cons_succ, List.getElem?_cons_zero]; rfl)
          case hwa11 => rfl
          case hya11 => (intro w hSw; (try dsimp only at hSw); go_simp; try with_reducible rfl)
          try simp only [Act.put, List.setIfInBounds_toArray, List.set_cons_zero, List.set_cons_succ]
          refine' takeY (i := 12) (oi := _) (v := _) ?hia12 (by kernel_rfl) (by kernel_rfl) (by kernel_rfl) (fun _ _ _ h => h) ?hwa12 ?hya12 hHeld ?resta12
          case hia12 => (simp only [List.getElem?_toArray, List.getElem?_cons_succ, List.getElem?_cons_zero]; rfl)
          case hwa12 => rfl
          case hya12 => (intro w hSw; (try dsimp only at hSw); go_simp; try with_reducible rfl)
          try simp only [Act.put, List.setIfInBounds_toArray, List.set_cons_zero, List.set_cons_succ]
          refine' takeY (i := 13) (oi := _) (v := _) ?hia13 (by kernel_rfl) (by kernel_rfl) (by kernel_rfl) (fun _ _ _ h => h) ?hwa13 ?hya13 hHeld ?resta13
          case hia13 => (simp only [List.getElem?_toArray, List.getElem?_cons_succ, List.getElem?_cons_zero]; rfl)
          case hwa13 => rfl
          case hya13 => (intro w hSw; (try dsimp only at hSw); go_simp; try with_reducible rfl)
          try simp only [Act.put, List.setIfInBounds_toArray, List.set_cons_zero, List.set_cons_succ]
          refine' takeY (i := 14) (oi := _) (v := _) ?hia14 (by kernel_rfl) (by kernel_rfl) (by kernel_rfl) (fun _ _ _ h => h) ?hwa14 ?hya14 hHeld ?resta14
          case hia14 => (simp only [List.getElem?_toArray, List.getElem?_cons_succ, List.getElem?_cons_zero]; rfl)
          case hwa14 => rfl
          case hya14 => (intro w hSw; (try dsimp only at hSw); go_simp; try with_reducible rfl)
          try simp only [Act.put, List.setIfInBounds_toArray, List.set_cons_zero, List.set_cons_succ]
          refine' takeY (i := 15) (oi := _) (v := _) ?hia15 (by kernel_rfl) (by kernel_rfl) (by kernel_rfl) (fun _ _ _ h => h) ?hwa15 ?hya15 hHeld ?resta15
          case hia15 => (simp only [List.getElem?_toArray, List.getElem?_cons_succ, List.getElem?_cons_zero]; rfl)
          case hwa15 => rfl
          case hya15 => (intro w hSw; (try dsimp only at hSw); go_simp; try with_reducible rfl)
          try simp only [Act.put, List.setIfInBounds_toArray, List.set_cons_zero, List.set_cons_succ]
          refine' takeY (i := 16) (oi := _) (v := _) ?hia16 (by kernel_rfl) (by kernel_rfl) (by kernel_rfl) (fun _ _ _ h => h) ?hwa16 ?hya16 hHeld ?resta16
          case hia16 => (simp only [List.getElem?_toArray, List.getElem?_cons_succ, List.getElem?_cons_zero]; rfl)
          case hwa16 => rfl
          case hya16 => (intro w hSw; (try dsimp only at hSw); go_simp; try with_reducible rfl)
          try simp only [Act.put, List.setIfInBounds_toArray, List.set_cons_zero, List.set_cons_succ]
          refine' takeY (i := 17) (oi := _) (v := _) ?hia17 (by kernel_rfl) (by kernel_rfl) (by kernel_rfl) (fun _ _ _ h => h) ?hwa17 ?hya17 hHeld ?resta17
          case hia17 => (simp only [List.getElem?_toArray, List.getElem?_cons_succ, List.getElem?_cons_zero]; rfl)
          case hwa17 => rfl
          case hya17 => (intro w hSw; (try dsimp only at hSw); go_simp; try with_reducible rfl)
          try simp only [Act.put, List.setIfInBounds_toArray, List.set_cons_zero, List.set_cons_succ]
          refine' takeY (i := 18) (oi := _) (v := _) ?hia18 (by kernel_rfl) (by kernel_rfl) (by kernel_rfl) (fun _ _ _ h => h) ?hwa18 ?hya18 hHeld ?resta18
          case hia18 => (simp only [List.getElem?_toArray, List.getElem?_cons_succ, List.getElem?_cons_zero]; rfl)
          case hwa18 => rfl
          case hya18 => (intro w hSw; (try dsimp only at hSw); go_simp; try with_reducible rfl)
          try simp only [Act.put, List.setIfInBounds_toArray, List.set_cons_zero, List.set_cons_succ]
          refine' takeY (i := 19) (oi := _) (v := _) ?hia19 (by kernel_rfl) (by kernel_rfl) (by kernel_rfl) (fun _ _ _ h => h) ?hwa19 ?hya19 hHeld ?resta19
          case hia19 => (simp only [List.getElem?_toArray, List.getElem?_cons_succ, List.getElem?_cons_zero]; rfl)
          case hwa19 => rfl
          case hya19 => (intro w hSw; (try dsimp only at hSw); go_simp; try with_reducible rfl)
          try simp only [Act.put, List.setIfInBounds_toArray, List.set_cons_zero, List.set_cons_succ]
          refine' takeY (i := 20) (oi := _) (v := _) ?hia20 (by kernel_rfl) (by kernel_rfl) (by kernel_rfl) (fun _ _ _ h => h) ?hwa20 ?hya20 hHeld ?resta20
          case hia20 => (simp only [List.getElem?_toArray, List.getElem?_cons_succ, List.getElem?_cons_zero]; rfl)
          case hwa20 => rfl
          case hya20 => (intro w hSw; (try dsimp only at hSw); go_simp; try with_reducible rfl)
          try simp only [Act.put, List.setIfInBounds_toArray, List.set_cons_zero, List.set_cons_succ]
          refine' takeY (i := 21) (oi := _) (v := _) ?hia21 (by kernel_rfl) (by kernel_rfl) (by kernel_rfl) (fun _ _ _ h => h) ?hwa21 ?hya21 hHeld ?resta21
          case hia21 => (simp only [List.getElem?_toArray, List.getElem?_cons_succ, List.getElem?_cons_zero]; rfl)
          case hwa21 => rfl
          case hya21 => (intro w hSw; (try dsimp only at hSw); go_simp; try with_reducible rfl)
          try simp only [Act.put, List.setIfInBounds_toArray, List.set_cons_zero, List.set_cons_succ]
          refine' takeY (i := 22) (oi := _) (v := _) ?hia22 (by kernel_rfl) (by kernel_rfl) (by kernel_rfl) (fun _ _ _ h => h) ?hwa22 ?hya22 hHeld ?resta22
          case hia22 => (simp only [List.getElem?_toArray, List.getElem?_cons_succ, List.getElem?_cons_zero]; rfl)
          case hwa22 => rfl
          case hya22 => (intro w hSw; (try dsimp only at hSw); go_simp; try with_reducible rfl)
          try simp only [Act.put, List.setIfInBounds_toArray, List.set_cons_zero, List.set_cons_succ]
          refine' takeY (i := 23) (oi := _) (v := _) ?hia23 (by kernel_rfl) (by kernel_rfl) (by kernel_rfl) (fun _ _ _ h => h) ?hwa23 ?hya23 hHeld ?resta23
          case hia23 => (simp only [List.getElem?_toArray, List.getElem?_cons_succ, List.getElem?_cons_zero]; rfl)
          case hwa23 => rfl
          case hya23 => (intro w hSw; (try dsimp only at hSw); go_simp; try with_reducible rfl)
          try simp only [Act.put, List.setIfInBounds_toArray, List.set_cons_zero, List.set_cons_succ]
          refine' takeY (i := 24) (oi := _) (v := _) ?hia24 (by kernel_rfl) (by kernel_rfl) (by kernel_rfl) (fun _ _ _ h => h) ?hwa24 ?hya24 hHeld ?resta24
          case hia24 => (simp only [List.getElem?_toArray, List.getElem?_cons_succ, List.getElem?_cons_zero]; rfl)
          case hwa24 => rfl
          case hya24 => (intro w hSw; (try dsimp only at hSw); go_simp; try with_reducible rfl)
          try simp only [Act.put, List.setIfInBounds_toArray, List.set_cons_zero, List.set_cons_succ]
          refine' takeY (i := 25) (oi := _) (v := _) ?hia25 (by kernel_rfl) (by kernel_rfl) (by kernel_rfl) (fun _ _ _ h => h) ?hwa25 ?hya25 hHeld ?resta25
          case hia25 => (simp only [List.getElem?_toArray, List.getElem?_cons_succ, List.getElem?_cons_zero]; rfl)
          case hwa25 => rfl
          case hya25 => (intro w hSw; (try dsimp only at hSw); go_simp; try with_reducible rfl)
          try simp only [Act.put, List.setIfInBounds_toArray, List.set_cons_zero, List.set_cons_succ]
          refine' takeY (i := 26) (oi := _) (v := _) ?hia26 (by kernel_rfl) (by kernel_rfl) (by kernel_rfl) (fun _ _ _ h => h) ?hwa26 ?hya26 hHeld ?resta26
          case hia26 => (simp only [List.getElem?_toArray, List.getElem?_cons_succ, List.getElem?_cons_zero]; rfl)
          case hwa26 => rfl
          case hya26 => (intro w hSw; (try dsimp only at hSw); go_simp; try with_reducible rfl)
          try simp only [Act.put, List.setIfInBounds_toArray, List.set_cons_zero, List.set_cons_succ]
          refine' takeY (i := 27) (oi := _) (v := _) ?hia27 (by kernel_rfl) (by kernel_rfl) (by kernel_rfl) (fun _ _ _ h => h) ?hwa27 ?hya27 hHeld ?resta27
          case hia27 => (simp only [List.getElem?_toArray, List.getElem?_cons_succ, List.getElem?_cons_zero]; rfl)
          case hwa27 => rfl
          case hya27 => (intro w hSw; (try dsimp only at hSw); go_simp; try with_reducible rfl)
          try simp only [Act.put, List.setIfInBounds_toArray, List.set_cons_zero, List.set_cons_succ]
          refine' takeY (i := 28) (oi := _) (v := _) ?hia28 (by kernel_rfl) (by kernel_rfl) (by kernel_rfl) (fun _ _ _ h => h) ?hwa28 ?hya28 hHeld ?resta28
          case hia28 => (simp only [List.getElem?_toArray, List.getElem?_cons_succ, List.getElem?_cons_zero]; rfl)
          case hwa28 => rfl
          case hya28 => (intro w hSw; (try dsimp only at hSw); go_simp; try with_reducible rfl)
          try simp only [Act.put, List.setIfInBounds_toArray, List.set_cons_zero, List.set_cons_succ]
          refine' takeY (i := 29) (oi := _) (v := _) ?hia29 (by kernel_rfl) (by kernel_rfl) (by kernel_rfl) (fun _ _ _ h => h) ?hwa29 ?hya29 hHeld ?resta29
          case hia29 => (simp only [List.getElem?_toArray, List.getElem?_cons_succ, List.getElem?_cons_zero]; rfl)
          case hwa29 => rfl
          case hya29 => (intro w hSw; (try dsimp only at hSw); go_simp; try with_reducible rfl)
          try simp only [Act.put, List.setIfInBounds_toArray, List.set_cons_zero, List.set_cons_succ]
          refine' takeY (i := 30) (oi := _) (v := _) ?hia30 (by kernel_rfl) (by kernel_rfl) (by kernel_rfl) (fun _ _ _ h => h) ?hwa30 ?hya30 hHeld ?resta30
          case hia30 => (simp only [List.getElem?_toArray, List.getElem?_cons_succ, List.getElem?_cons_zero]; rfl)
          case hwa30 => rfl
          case hya30 => (intro w hSw; (try dsimp only at hSw); go_simp; try with_reducible rfl)
          try simp only [Act.put, List.setIfInBounds_toArray, List.set_cons_zero, List.set_cons_succ]
          refine' takeY (i := 31) (oi := _) (v := _) ?hia31 (by kernel_rfl) (by kernel_rfl) (by kernel_rfl) (fun _ _ _ h => h) ?hwa31 ?hya31 hHeld ?resta31
          case hia31 => (simp only [List.getElem?_toArray, List.getElem?_cons_succ, List.getElem?_cons_zero]; rfl)
          case hwa31 => rfl
          case hya31 => (intro w hSw; (try dsimp only at hSw); go_simp; try with_reducible rfl)
          try simp only [Act.put, List.setIfInBounds_toArray, List.set_cons_zero, List.set_cons_succ]
          refine' takeY (i := 32) (oi := _) (v := _) ?hia32 (by kernel_rfl) (by kernel_rfl) (by kernel_rfl) (fun _ _ _ h => h) ?hwa32 ?hya32 hHeld ?resta32
          case hia32 => (simp only [List.getElem?_toArray, List.getElem?_cons_succ, List.getElem?_cons_zero]; rfl)
          case hwa32 => rfl
          case hya32 => (intro w hSw; (try dsimp only at hSw); go_simp; try with_reducible rfl)
          try simp only [Act.put, List.setIfInBounds_toArray, List.set_cons_zero, List.set_cons_succ]
          refine' takeY (i := 33) (oi := _) (v := _) ?hia33 (by kernel_rfl) (by kernel_rfl) (by kernel_rfl) (fun _ _ _ h => h) ?hwa33 ?hya33 hHeld ?resta33
          case hia33 => (simp only [List.getElem?_toArray, List.getElem?_cons_succ, List.getElem?_cons_zero]; rfl)
          case hwa33 => rfl
          case hya33 => (intro w hSw; (try dsimp only at hSw); go_simp; try with_reducible rfl)
          try simp only [Act.put, List.setIfInBounds_toArray, List.set_cons_zero, List.set_cons_succ]
          refine' takeY (i := 34) (oi := _) (v := _) ?hia34 (by kernel_rfl) (by kernel_rfl) (by kernel_rfl) (fun _ _ _ h => h) ?hwa34 ?hya34 hHeld ?resta34
          case hia34 => (simp only [List.getElem?_toArray, List.getElem?_cons_succ, List.getElem?_cons_zero]; rfl)
          case hwa34 => rfl
          case hya34 => (intro w hSw; (try dsimp only at hSw); go_simp; try with_reducible rfl)
          try simp only [Act.put, List.setIfInBounds_toArray, List.set_cons_zero, List.set_cons_succ]
          refine' takeY (i := 35) (oi := _) (v := _) ?hia35 (by kernel_rfl) (by kernel_rfl) (by kernel_rfl) (fun _ _ _ h => h) ?hwa35 ?hya35 hHeld ?resta35
          case hia35 => (simp only [List.getElem?_toArray, List.getElem?_cons_succ, List.getElem?_cons_zero]; rfl)
          case hwa35 => rfl
          case hya35 => (intro w hSw; (try dsimp only at hSw); go_simp; try with_reducible rfl)
          try simp only [Act.put, List.setIfInBounds_toArray, List.set_cons_zero, List.set_cons_succ]
          refine' takeY (i := 36) (oi := _) (v := _) ?hia36 (by kernel_rfl) (by kernel_rfl) (by kernel_rfl) (fun _ _ _ h => h) ?hwa36 ?hya36 hHeld ?resta36
          case hia36 => (simp only [List.getElem?_toArray, List.getElem?_cons_succ, List.getElem?_cons_zero]; rfl)
          case hwa36 => rfl
          case hya36 => (intro w hSw; (try dsimp only at hSw); go_simp; try with_reducible rfl)
          try simp only [Act.put, List.setIfInBounds_toArray, List.set_cons_zero, List.set_cons_succ]
          refine' takeY (i := 37) (oi := _) (v := _) ?hia37 (by kernel_rfl) (by kernel_rfl) (by kernel_rfl) (fun _ _ _ h => h) ?hwa37 ?hya37 hHeld ?resta37
          case hia37 => (simp only [List.getElem?_toArray, List.getElem?_cons_succ, List.getElem?_cons_zero]; rfl)
          case hwa37 => rfl
          case hya37 => (intro w hSw; (try dsimp only at hSw); go_simp; try with_reducible rfl)
          try simp only [Act.put, List.setIfInBounds_toArray, List.set_cons_zero, List.set_cons_succ]
          refine' takeY (i := 39) (oi := _) (v := _) ?hia38 (by kernel_rfl) (by kernel_rfl) (by kernel_rfl) (fun _ _ _ h => h) ?hwa38 ?hya38 hHeld ?resta38
          case hia38 => (simp only [List.getElem?_toArray, List.getElem?_cons_succ, List.getElem?_cons_zero]; rfl)
          case hwa38 => rfl
          case hya38 => (intro w hSw; (try dsimp only at hSw); go_simp; try with_reducible rfl)
          try simp only [Act.put, List.setIfInBounds_toArray, List.set_cons_zero, List.set_cons_succ]
          refine wpAnyH_ready (rs := [38]) (by kernel_rfl) (by simp) ?_
          refine' AllReadyH.cons (o := _) ?hia39 (fun K hK => ?stepa39) AllReadyH.nil
          case hia39 => (simp only [List.getElem?_toArray, List.getElem?_cons_succ, List.getElem?_cons_zero]; rfl)
          go_simp
          (go_at_call 16; (with_reducible refine (prank_at _ m _ ms (j : Int) (i : Int) _ (RM.out.below BL.out) (by omega) VR.out).mono ?_); rintro e w5 ⟨rfl, hb⟩; have BL := Lib.hid (below_next BL.out hb); clear hb)
          go_wp2_with fail
          clear hHeld
          refine hK.out _ _ (KEPT.out _ BL.out) (fun hHeld => ?_)
          clear hK K
          try simp only [Act.put, List.setIfInBounds_toArray, List.set_cons_zero, List.set_cons_succ]
          refine' takeY (i := 40) (oi := _) (v := _) ?hia40 (by kernel_rfl) (by kernel_rfl) (by kernel_rfl) (fun _ _ _ h => h) ?hwa40 ?hya40 hHeld ?resta40
          case hia40 => (simp only [List.getElem?_toArray, List.getElem?_cons_succ, List.getElem?_cons_zero]; rfl)
          case hwa40 => rfl
          case hya40 => (intro w hSw; (try dsimp only at hSw); go_simp; try with_reducible rfl)
          try simp only [Act.put, List.setIfInBounds_toArray, List.set_cons_zero, List.set_cons_succ]
          refine' takeY (i := 41) (oi := _) (v := _) ?hia41 (by kernel_rfl) (by kernel_rfl) (by kernel_rfl) (fun _ _ _ h => h) ?hwa41 ?hya41 hHeld ?resta41
          case hia41 => (simp only [List.getElem?_toArray, List.getElem?_cons_succ, List.getElem?_cons_zero]; rfl)
          case hwa41 => rfl
          case hya41 => (intro w hSw; (try dsimp only at hSw); go_simp; try with_reducible rfl)
          try simp only [Act.put, List.setIfInBounds_toArray, List.set_cons_zero, List.set_cons_succ]
          refine' takeY (i := 42) (oi := _) (v := _) ?hia42 (by kernel_rfl) (by kernel_rfl) (by kernel_rfl) (fun _ _ _ h => h) ?hwa42 ?hya42 hHeld ?resta42
          case hia42 => (simp only [List.getElem?_toArray, List.getElem?_cons_succ, List.getElem?_cons_zero]; rfl)
          case hwa42 => rfl
          case hya42 => (intro w hSw; (try dsimp only at hSw); go_simp; try with_reducible rfl)
          try simp only [Act.put, List.setIfInBounds_toArray, List.set_cons_zero, List.set_cons_succ]
          refine' takeY (i := 43) (oi := _) (v := _) ?hia43 (by kernel_rfl) (by kernel_rfl) (by kernel_rfl) (fun _ _ _ h => h) ?hwa43 ?hya43 hHeld ?resta43
          case hia43 => (simp only [List.getElem?_toArray, List.getElem?_cons_succ, List.getElem?_cons_zero]; rfl)
          case hwa43 => rfl
          case hya43 => (intro w hSw; (try dsimp only at hSw); go_simp; try with_reducible rfl)
          try simp only [Act.put, List.setIfInBounds_toArray, List.set_cons_zero, List.set_cons_succ]
          refine' takeY (i := 44) (oi := _) (v := _) ?hia44 (by kernel_rfl) (by kernel_rfl) (by kernel_rfl) (fun _ _ _ h => h) ?hwa44 ?hya44 hHeld ?resta44
          case hia44 => (simp only [List.getElem?_toArray, List.getElem?_cons_succ, List.getElem?_cons_zero]; rfl)
          case hwa44 => rfl
          case hya44 => (intro w hSw; (try dsimp only at hSw); go_simp; try with_reducible rfl)
          try simp only [Act.put, List.setIfInBounds_toArray, List.set_cons_zero, List.set_cons_succ]
          refine' takeY (i := 45) (oi := _) (v := _) ?hia45 (by kernel_rfl) (by kernel_rfl) (by kernel_rfl) (fun _ _ _ h => h) ?hwa45 ?hya45 hHeld ?resta45
          case hia45 => (simp only [List.getElem?_toArray, List.getElem?_cons_succ, List.getElem?_cons_zero]; rfl)
          case hwa45 => rfl
          case hya45 => (intro w hSw; (try dsimp only at hSw); go_simp; try with_reducible rfl)
          try simp only [Act.put, List.setIfInBounds_toArray, List.set_cons_zero, List.set_cons_succ]
          refine' takeN (i := 46) (oi := _) ?hia46 (by kernel_rfl) (by kernel_rfl) (by kernel_rfl) (fun _ _ _ h => h) ?hwa46 hHeld ?resta46
          case hia46 => (simp only [List.getElem?_toArray, List.getElem?_cons_succ, List.getElem?_cons_zero]; rfl)
          case hwa46 => rfl
          try simp only [Act.put, List.setIfInBounds_toArray, List.set_cons_zero, List.set_cons_succ]
          refine' takeN (i := 47) (oi := _) ?hia47 (by kernel_rfl) (by kernel_rfl) (by kernel_rfl) (fun _ _ _ h => h) ?hwa47 hHeld ?resta47
          case hia47 => (simp only [List.getElem?_toArray, List.getElem?_cons_succ, List.getElem?_cons_zero]; rfl)
          case hwa47 => rfl
          try simp only [Act.put, List.setIfInBounds_toArray, List.set_cons_zero, List.set_cons_succ]
          refine' takeN (i := 48) (oi := _) ?hia48 (by kernel_rfl) (by kernel_rfl) (by kernel_rfl) (fun _ _ _ h => h) ?hwa48 hHeld ?resta48
          case hia48 => (simp only [List.getElem?_toArray, List.getElem?_cons_succ, List.getElem?_cons_zero]; rfl)
          case hwa48 => rfl
          try simp only [Act.put, List.setIfInBounds_toArray, List.set_cons_zero, List.set_cons_succ]
          refine' takeN (i := 49) (oi := _) ?hia49 (by kernel_rfl) (by kernel_rfl) (by kernel_rfl) (fun _ _ _ h => h) ?hwa49 hHeld ?resta49
          case hia49 => (simp only [List.getElem?_toArray, List.getElem?_cons_succ, List.getElem?_cons_zero]; rfl)
          case hwa49 => rfl
          try simp only [Act.put, List.setIfInBounds_toArray, List.set_cons_zero, List.set_cons_succ]
          refine' takeN (i := 50) (oi := _) ?hia50 (by kernel_rfl) (by kernel_rfl) (by kernel_rfl) (fun _ _ _ h => h) ?hwa50 hHeld ?resta50
          case hia50 => (simp only [List.getElem?_toArray, List.getElem?_cons_succ, List.getElem?_cons_zero]; rfl)
          case hwa50 => rfl
          try simp only [Act.put, List.setIfInBounds_toArray, List.set_cons_zero, List.set_cons_succ]
          refine' takeN (i := 51) (oi := _) ?hia51 (by kernel_rfl) (by kernel_rfl) (by kernel_rfl) (fun _ _ _ h => h) ?hwa51 hHeld ?resta51
          case hia51 => (simp only [List.getElem?_toArray, List.getElem?_cons_succ, List.getElem?_cons_zero]; rfl)
          case hwa51 => rfl
          try simp only [Act.put, List.setIfInBounds_toArray, List.set_cons_zero, List.set_cons_succ]
          refine' takeN (i := 52) (oi := _) ?hia52 (by kernel_rfl) (by kernel_rfl) (by kernel_rfl) (fun _ _ _ h => h) ?hwa52 hHeld ?resta52
          case hia52 => (simp only [List.getElem?_toArray, List.getElem?_cons_succ, List.getElem?_cons_zero]; rfl)
          case hwa52 => rfl
          try simp only [Act.put, List.setIfInBounds_toArray, List.set_cons_zero, List.set_cons_succ]
          refine' takeN (i := 53) (oi := _) ?hia53 (by kernel_rfl) (by kernel_rfl) (by kernel_rfl) (fun _ _ _ h => h) ?hwa53 hHeld ?resta53
          case hia53 => (simp only [List.getElem?_toArray, List.getElem?_cons_succ, List.getElem?_cons_zero]; rfl)
          case hwa53 => rfl
          try simp only [Act.put, List.setIfInBounds_toArray, List.set_cons_zero, List.set_cons_succ]
          refine' takeN (i := 54) (oi := _) ?hia54 (by kernel_rfl) (by kernel_rfl) (by kernel_rfl) (fun _ _ _ h => h) ?hwa54 hHeld ?resta54
          case hia54 => (simp only [List.getElem?_toArray, List.getElem?_cons_succ, List.getElem?_cons_zero]; rfl)
          case hwa54 => rfl
          try simp only [Act.put, List.setIfInBounds_toArray, List.set_cons_zero, List.set_cons_succ]
          refine' takeN (i := 55) (oi := _) ?hia55 (by kernel_rfl) (by kernel_rfl) (by kernel_rfl) (fun _ _ _ h => h) ?hwa55 hHeld ?resta55
          case hia55 => (simp only [List.getElem?_toArray, List.getElem?_cons_succ, List.getElem?_cons_zero]; rfl)
          case hwa55 => rfl
          try simp only [Act.put, List.setIfInBounds_toArray, List.set_cons_zero, List.set_cons_succ]
          refine' takeY (i := 56) (oi := _) (v := _) ?hia56 (by kernel_rfl) (by kernel_rfl) (by kernel_rfl) (fun _ _ _ h => h) ?hwa56 ?hya56 hHeld ?resta56
          case hia56 => (simp only [List.getElem?_toArray, List.getElem?_cons_succ, List.getElem?_cons_zero]; rfl)
          case hwa56 => rfl
          case hya56 => (intro w hSw; (try dsimp only at hSw); go_simp; try with_reducible rfl)
          try simp only [Act.put, List.setIfInBounds_toArray, List.set_cons_zero, List.set_cons_succ]
          refine' takeY (i := 57) (oi := _) (v := _) ?hia57 (by kernel_rfl) (by kernel_rfl) (by kernel_rfl) (fun _ _ _ h => h) ?hwa57 ?hya57 hHeld ?resta57
          case hia57 => (simp only [List.getElem?_toArray, List.getElem?_cons_succ, List.getElem?_cons_zero]; rfl)
          case hwa57 => rfl
          case hya57 => (intro w hSw; (try dsimp only at hSw); go_simp; try with_reducible rfl)
          try simp only [Act.put, List.setIfInBounds_toArray, List.set_cons_zero, List.set_cons_succ]
          refine wpAnyH_done (by kernel_rfl) ?_ _
          refine NoPanic.normal ?_
          go_wp2
          go_roundw
          case rel => exact ⟨i + 1, by go_num, by omega, below_next BE.out BL.out⟩
          case measure => simp [intOf]; omega
        · have t3 : decide (0 < i) = true := decide_eq_true (by omega)
          have t4 : decide (0 < (i : Int)) = true := decide_eq_true (by omega)
          obtain ⟨k, hk⟩ : ∃ k, i = k + 1 := ⟨i - 1, by omega⟩
          obtain ⟨y, hy, _, _⟩ := getE (es := sortE ms) (i := k) (by rw [LS.out]; omega)
          have VL := Lib.hid (sorted_pair (by rw [← hk]; exact hx) hy)
          obtain ⟨bt, ot, hbt, hys⟩ := RS.out.at hy
          simp only [Option.some.injEq, Addr.mk.injEq, and_true] at hbt
          obtain ⟨rfl, rfl⟩ := hbt
          have YS := Lib.hid hys.drew
          clear hx hy hys z
          have ik : (i : Int) - 1 = (k : Int) := by omega
          have k1' : (k : Int) < (m : Int) := by omega
          have k2' : 0 ≤ (k : Int) := by omega
          have wk : IntKind.i64.wrap (k : Int) = (k : Int) := IntWalk.i64_in _ (by omega)
          clear hk
          go_upto_region 13 with fail
          have RM := Lib.hid RM.out.drew
          have BE := Lib.hid BE.out.drew
          have KEPT := Lib.hid (show ∀ w' : World, Below wr.drew.heap.size wr.drew w' → w'.cell? ⟨bs, oz + i * 6, none⟩ = some (.int .i64 (j : Int)) ∧ w'.cell? ⟨bs, oz + i * 6 + 1, none⟩ = some (.int .i64 x1) ∧ w'.cell? ⟨bs, oz + i * 6 + 2, none⟩ = some (.int .i64 x2) ∧ w'.cell? ⟨bs, oz + i * 6 + 3, none⟩ = some (.int .i64 x3) ∧ w'.cell? ⟨bs, oz + i * 6 + 4, none⟩ = some (.int .i64 x4) ∧ w'.cell? ⟨bs, oz + i * 6 + 5, none⟩ = some (.int .i64 x5) ∧ w'.cell? ⟨bm, om + j * 6, none⟩ = some (.int .i64 (j : Int)) ∧ w'.cell? ⟨bm, om + j * 6 + 1, none⟩ = some (.int .i64 x1) ∧ w'.cell? ⟨bm, om + j * 6 + 2, none⟩ = some (.int .i64 x2) ∧ w'.cell? ⟨bm, om + j * 6 + 3, none⟩ = some (.int .i64 x3) ∧ w'.cell? ⟨bm, om + j * 6 + 4, none⟩ = some (.int .i64 x4) ∧ w'.cell? ⟨bm, om + j * 6 + 5, none⟩ = some (.int .i64 x5) ∧ w'.cell? ⟨bs, oz + k * 6, none⟩ = some (.int .i64 y.id) ∧ w'.cell? ⟨bs, oz + k * 6 + 1, none⟩ = some (.int .i64 y.idx) ∧ w'.cell? ⟨bs, oz + k * 6 + 2, none⟩ = some (.int .i64 y.rel) ∧ w'.cell? ⟨bs, oz + k * 6 + 3, none⟩ = some (.int .i64 y.dl) ∧ w'.cell? ⟨bs, oz + k * 6 + 4, none⟩ = some (.int .i64 y.bit) ∧ w'.cell? ⟨bs, oz + k * 6 + 5, none⟩ = some (.int .i64 y.grp) from fun w' h => ⟨(XS.out.below h).c0, (XS.out.below h).c1, (XS.out.below h).c2, (XS.out.below h).c3, (XS.out.below h).c4, (XS.out.below h).c5, (XM.out.below h).c0, (XM.out.below h).c1, (XM.out.below h).c2, (XM.out.below h).c3, (XM.out.below h).c4, (XM.out.below h).c5, (YS.out.below h).c0, (YS.out.below h).c1, (YS.out.below h).c2, (YS.out.below h).c3, (YS.out.below h).c4, (YS.out.below h).c5⟩)
          have BL := Lib.hid (Below.refl wr.drew.heap.size wr.drew)
          refine wp_region_noPanic ?_
          refine wp_region_held_drew (S := fun w' => w'.cell? ⟨bs, oz + i * 6, none⟩ = some (.int .i64 (j : Int)) ∧ w'.cell? ⟨bs, oz + i * 6 + 1, none⟩ = some (.int .i64 x1) ∧ w'.cell? ⟨bs, oz + i * 6 + 2, none⟩ = some (.int .i64 x2) ∧ w'.cell? ⟨bs, oz + i * 6 + 3, none⟩ = some (.int .i64 x3) ∧ w'.cell? ⟨bs, oz + i * 6 + 4, none⟩ = some (.int .i64 x4) ∧ w'.cell? ⟨bs, oz + i * 6 + 5, none⟩ = some (.int .i64 x5) ∧ w'.cell? ⟨bm, om + j * 6, none⟩ = some (.int .i64 (j : Int)) ∧ w'.cell? ⟨bm, om + j * 6 + 1, none⟩ = some (.int .i64 x1) ∧ w'.cell? ⟨bm, om + j * 6 + 2, none⟩ = some (.int .i64 x2) ∧ w'.cell? ⟨bm, om + j * 6 + 3, none⟩ = some (.int .i64 x3) ∧ w'.cell? ⟨bm, om + j * 6 + 4, none⟩ = some (.int .i64 x4) ∧ w'.cell? ⟨bm, om + j * 6 + 5, none⟩ = some (.int .i64 x5) ∧ w'.cell? ⟨bs, oz + k * 6, none⟩ = some (.int .i64 y.id) ∧ w'.cell? ⟨bs, oz + k * 6 + 1, none⟩ = some (.int .i64 y.idx) ∧ w'.cell? ⟨bs, oz + k * 6 + 2, none⟩ = some (.int .i64 y.rel) ∧ w'.cell? ⟨bs, oz + k * 6 + 3, none⟩ = some (.int .i64 y.dl) ∧ w'.cell? ⟨bs, oz + k * 6 + 4, none⟩ = some (.int .i64 y.bit) ∧ w'.cell? ⟨bs, oz + k * 6 + 5, none⟩ = some (.int .i64 y.grp)) (by kernel_rfl) (KEPT.out _ BL.out) (fun hHeld => ?_)
          refine' takeY (i := 0) (oi := _) (v := _) ?hib0 (by kernel_rfl) (by kernel_rfl) (by kernel_rfl) (fun _ _ _ h => h) ?hwb0 ?hyb0 hHeld ?restb0
          case hib0 => (simp only [List.getElem?_toArray, List.getElem?_cons_zero]; rfl)
          case hwb0 => rfl
          case hyb0 => (intro w hSw; (try dsimp only at hSw); go_simp; try with_reducible rfl)
          try simp only [Act.put, List.setIfInBounds_toArray, List.set_cons_zero, List.set_cons_succ]
          refine' takeY (i := 1) (oi := _) (v := _) ?hib1 (by kernel_rfl) (by kernel_rfl) (by kernel_rfl) (fun _ _ _ h => h) ?hwb1 ?hyb1 hHeld ?restb1
          case hib1 => (simp only [List.getElem?_toArray, List.getElem?_cons_succ, List.getElem?_cons_zero]; rfl)
          case hwb1 => rfl
          case hyb1 => (intro w hSw; (try dsimp only at hSw); go_simp; try with_reducible rfl)
          try simp only [Act.put, List.setIfInBounds_toArray, List.set_cons_zero, List.set_cons_succ]
          refine' takeY (i := 2) (oi := _) (v := _) ?hib2 (by kernel_rfl) (by kernel_rfl) (by kernel_rfl) (fun _ _ _ h => h) ?hwb2 ?hyb2 hHeld ?restb2
          case hib2 => (simp only [List.getElem?_toArray, List.getElem?_cons_succ, List.getElem?_cons_zero]; rfl)
          case hwb2 => rfl
          case hyb2 => (intro w hSw; (try dsimp only at hSw); go_simp; try with_reducible rfl)
          try simp only [Act.put, List.setIfInBounds_toArray, List.set_cons_zero, List.set_cons_succ]
          refine' takeY (i := 3) (oi := _) (v := _) ?hib3 (by kernel_rfl) (by kernel_rfl) (by kernel_rfl) (fun _ _ _ h => h) ?hwb3 ?hyb3 hHeld ?restb3
          case hib3 => (simp only [List.getElem?_toArray, List.getElem?_cons_succ, List.getElem?_cons_zero]; rfl)
          case hwb3 => rfl
          case hyb3 => (intro w hSw; (try dsimp only at hSw); go_simp; try with_reducible rfl)
          try simp only [Act.put, List.setIfInBounds_toArray, List.set_cons_zero, List.set_cons_succ]
          refine' takeY (i := 4) (oi := _) (v := _) ?hib4 (by kernel_rfl) (by kernel_rfl) (by kernel_rfl) (fun _ _ _ h => h) ?hwb4 ?hyb4 hHeld ?restb4
          case hib4 => (simp only [List.getElem?_toArray, List.getElem?_cons_succ, List.getElem?_cons_zero]; rfl)
          case hwb4 => rfl
          case hyb4 => (intro w hSw; (try dsimp only at hSw); go_simp; try with_reducible rfl)
          try simp only [Act.put, List.setIfInBounds_toArray, List.set_cons_zero, List.set_cons_succ]
          refine' takeY (i := 5) (oi := _) (v := _) ?hib5 (by kernel_rfl) (by kernel_rfl) (by kernel_rfl) (fun _ _ _ h => h) ?hwb5 ?hyb5 hHeld ?restb5
          case hib5 => (simp only [List.getElem?_toArray, List.getElem?_cons_succ, List.getElem?_cons_zero]; rfl)
          case hwb5 => rfl
          case hyb5 => (intro w hSw; (try dsimp only at hSw); go_simp; try with_reducible rfl)
          try simp only [Act.put, List.setIfInBounds_toArray, List.set_cons_zero, List.set_cons_succ]
          refine' takeY (i := 6) (oi := _) (v := _) ?hib6 (by kernel_rfl) (by kernel_rfl) (by kernel_rfl) (fun _ _ _ h => h) ?hwb6 ?hyb6 hHeld ?restb6
          case hib6 => (simp only [List.getElem?_toArray, List.getElem?_cons_succ, List.getElem?_cons_zero]; rfl)
          case hwb6 => rfl
          case hyb6 => (intro w hSw; (try dsimp only at hSw); go_simp; try with_reducible rfl)
          try simp only [Act.put, List.setIfInBounds_toArray, List.set_cons_zero, List.set_cons_succ]
          refine' takeY (i := 7) (oi := _) (v := _) ?hib7 (by kernel_rfl) (by kernel_rfl) (by kernel_rfl) (fun _ _ _ h => h) ?hwb7 ?hyb7 hHeld ?restb7
          case hib7 => (simp only [List.getElem?_toArray, List.getElem?_cons_succ, List.getElem?_cons_zero]; rfl)
          case hwb7 => rfl
          case hyb7 => (intro w hSw; (try dsimp only at hSw); go_simp; try with_reducible rfl)
          try simp only [Act.put, List.setIfInBounds_toArray, List.set_cons_zero, List.set_cons_succ]
          refine' takeY (i := 8) (oi := _) (v := _) ?hib8 (by kernel_rfl) (by kernel_rfl) (by kernel_rfl) (fun _ _ _ h => h) ?hwb8 ?hyb8 hHeld ?restb8
          case hib8 => (simp only [List.getElem?_toArray, List.getElem?_cons_succ, List.getElem?_cons_zero]; rfl)
          case hwb8 => rfl
          case hyb8 => (intro w hSw; (try dsimp only at hSw); go_simp; try with_reducible rfl)
          try simp only [Act.put, List.setIfInBounds_toArray, List.set_cons_zero, List.set_cons_succ]
          refine' takeY (i := 9) (oi := _) (v := _) ?hib9 (by kernel_rfl) (by kernel_rfl) (by kernel_rfl) (fun _ _ _ h => h) ?hwb9 ?hyb9 hHeld ?restb9
          case hib9 => (simp only [List.getElem?_toArray, List.getElem?_cons_succ, List.getElem?_cons_zero]; rfl)
          case hwb9 => rfl
          case hyb9 => (intro w hSw; (try dsimp only at hSw); go_simp; try with_reducible rfl)
          try simp only [Act.put, List.setIfInBounds_toArray, List.set_cons_zero, List.set_cons_succ]
          refine' takeY (i := 10) (oi := _) (v := _) ?hib10 (by kernel_rfl) (by kernel_rfl) (by kernel_rfl) (fun _ _ _ h => h) ?hwb10 ?hyb10 hHeld ?restb10
          case hib10 => (simp only [List.getElem?_toArray, List.getElem?_cons_succ, List.getElem?_cons_zero]; rfl)
          case hwb10 => rfl
          case hyb10 => (intro w hSw; (try dsimp only at hSw); go_simp; try with_reducible rfl)
          try simp only [Act.put, List.setIfInBounds_toArray, List.set_cons_zero, List.set_cons_succ]
          refine' takeY (i := 11) (oi := _) (v := _) ?hib11 (by kernel_rfl) (by kernel_rfl) (by kernel_rfl) (fun _ _ _ h => h) ?hwb11 ?hyb11 hHeld ?restb11
          case hib11 => (simp only [List.getElem?_toArray, List.getElem?_cons_succ, List.getElem?_cons_zero]; rfl)
          case hwb11 => rfl
          case hyb11 => (intro w hSw; (try dsimp only at hSw); go_simp; try with_reducible rfl)
          try simp only [Act.put, List.setIfInBounds_toArray, List.set_cons_zero, List.set_cons_succ]
          refine' takeY (i := 12) (oi := _) (v := _) ?hib12 (by kernel_rfl) (by kernel_rfl) (by kernel_rfl) (fun _ _ _ h => h) ?hwb12 ?hyb12 hHeld ?restb12
          case hib12 => (simp only [List.getElem?_toArray, List.getElem?_cons_succ, List.getElem?_cons_zero]; rfl)
          case hwb12 => rfl
          case hyb12 => (intro w hSw; (try dsimp only at hSw); go_simp; try with_reducible rfl)
          try simp only [Act.put, List.setIfInBounds_toArray, List.set_cons_zero, List.set_cons_succ]
          refine' takeY (i := 13) (oi := _) (v := _) ?hib13 (by kernel_rfl) (by kernel_rfl) (by kernel_rfl) (fun _ _ _ h => h) ?hwb13 ?hyb13 hHeld ?restb13
          case hib13 => (simp only [List.getElem?_toArray, List.getElem?_cons_succ, List.getElem?_cons_zero]; rfl)
          case hwb13 => rfl
          case hyb13 => (intro w hSw; (try dsimp only at hSw); go_simp; try with_reducible rfl)
          try simp only [Act.put, List.setIfInBounds_toArray, List.set_cons_zero, List.set_cons_succ]
          refine' takeY (i := 14) (oi := _) (v := _) ?hib14 (by kernel_rfl) (by kernel_rfl) (by kernel_rfl) (fun _ _ _ h => h) ?hwb14 ?hyb14 hHeld ?restb14
          case hib14 => (simp only [List.getElem?_toArray, List.getElem?_cons_succ, List.getElem?_cons_zero]; rfl)
          case hwb14 => rfl
          case hyb14 => (intro w hSw; (try dsimp only at hSw); go_simp; try with_reducible rfl)
          try simp only [Act.put, List.setIfInBounds_toArray, List.set_cons_zero, List.set_cons_succ]
          refine' takeY (i := 15) (oi := _) (v := _) ?hib15 (by kernel_rfl) (by kernel_rfl) (by kernel_rfl) (fun _ _ _ h => h) ?hwb15 ?hyb15 hHeld ?restb15
          case hib15 => (simp only [List.getElem?_toArray, List.getElem?_cons_succ, List.getElem?_cons_zero]; rfl)
          case hwb15 => rfl
          case hyb15 => (intro w hSw; (try dsimp only at hSw); go_simp; try with_reducible rfl)
          try simp only [Act.put, List.setIfInBounds_toArray, List.set_cons_zero, List.set_cons_succ]
          refine' takeY (i := 16) (oi := _) (v := _) ?hib16 (by kernel_rfl) (by kernel_rfl) (by kernel_rfl) (fun _ _ _ h => h) ?hwb16 ?hyb16 hHeld ?restb16
          case hib16 => (simp only [List.getElem?_toArray, List.getElem?_cons_succ, List.getElem?_cons_zero]; rfl)
          case hwb16 => rfl
          case hyb16 => (intro w hSw; (try dsimp only at hSw); go_simp; try with_reducible rfl)
          try simp only [Act.put, List.setIfInBounds_toArray, List.set_cons_zero, List.set_cons_succ]
          refine' takeY (i := 17) (oi := _) (v := _) ?hib17 (by kernel_rfl) (by kernel_rfl) (by kernel_rfl) (fun _ _ _ h => h) ?hwb17 ?hyb17 hHeld ?restb17
          case hib17 => (simp only [List.getElem?_toArray, List.getElem?_cons_succ, List.getElem?_cons_zero]; rfl)
          case hwb17 => rfl
          case hyb17 => (intro w hSw; (try dsimp only at hSw); go_simp; try with_reducible rfl)
          try simp only [Act.put, List.setIfInBounds_toArray, List.set_cons_zero, List.set_cons_succ]
          refine' takeY (i := 18) (oi := _) (v := _) ?hib18 (by kernel_rfl) (by kernel_rfl) (by kernel_rfl) (fun _ _ _ h => h) ?hwb18 ?hyb18 hHeld ?restb18
          case hib18 => (simp only [List.getElem?_toArray, List.getElem?_cons_succ, List.getElem?_cons_zero]; rfl)
          case hwb18 => rfl
          case hyb18 => (intro w hSw; (try dsimp only at hSw); go_simp; try with_reducible rfl)
          try simp only [Act.put, List.setIfInBounds_toArray, List.set_cons_zero, List.set_cons_succ]
          refine' takeY (i := 19) (oi := _) (v := _) ?hib19 (by kernel_rfl) (by kernel_rfl) (by kernel_rfl) (fun _ _ _ h => h) ?hwb19 ?hyb19 hHeld ?restb19
          case hib19 => (simp only [List.getElem?_toArray, List.getElem?_cons_succ, List.getElem?_cons_zero]; rfl)
          case hwb19 => rfl
          case hyb19 => (intro w hSw; (try dsimp only at hSw); go_simp; try with_reducible rfl)
          try simp only [Act.put, List.setIfInBounds_toArray, List.set_cons_zero, List.set_cons_succ]
          refine' takeY (i := 20) (oi := _) (v := _) ?hib20 (by kernel_rfl) (by kernel_rfl) (by kernel_rfl) (fun _ _ _ h => h) ?hwb20 ?hyb20 hHeld ?restb20
          case hib20 => (simp only [List.getElem?_toArray, List.getElem?_cons_succ, List.getElem?_cons_zero]; rfl)
          case hwb20 => rfl
          case hyb20 => (intro w hSw; (try dsimp only at hSw); go_simp; try with_reducible rfl)
          try simp only [Act.put, List.setIfInBounds_toArray, List.set_cons_zero, List.set_cons_succ]
          refine' takeY (i := 21) (oi := _) (v := _) ?hib21 (by kernel_rfl) (by kernel_rfl) (by kernel_rfl) (fun _ _ _ h => h) ?hwb21 ?hyb21 hHeld ?restb21
          case hib21 => (simp only [List.getElem?_toArray, List.getElem?_cons_succ, List.getElem?_cons_zero]; rfl)
          case hwb21 => rfl
          case hyb21 => (intro w hSw; (try dsimp only at hSw); go_simp; try with_reducible rfl)
          try simp only [Act.put, List.setIfInBounds_toArray, List.set_cons_zero, List.set_cons_succ]
          refine' takeY (i := 22) (oi := _) (v := _) ?hib22 (by kernel_rfl) (by kernel_rfl) (by kernel_rfl) (fun _ _ _ h => h) ?hwb22 ?hyb22 hHeld ?restb22
          case hib22 => (simp only [List.getElem?_toArray, List.getElem?_cons_succ, List.getElem?_cons_zero]; rfl)
          case hwb22 => rfl
          case hyb22 => (intro w hSw; (try dsimp only at hSw); go_simp; try with_reducible rfl)
          try simp only [Act.put, List.setIfInBounds_toArray, List.set_cons_zero, List.set_cons_succ]
          refine' takeY (i := 23) (oi := _) (v := _) ?hib23 (by kernel_rfl) (by kernel_rfl) (by kernel_rfl) (fun _ _ _ h => h) ?hwb23 ?hyb23 hHeld ?restb23
          case hib23 => (simp only [List.getElem?_toArray, List.getElem?_cons_succ, List.getElem?_cons_zero]; rfl)
          case hwb23 => rfl
          case hyb23 => (intro w hSw; (try dsimp only at hSw); go_simp; try with_reducible rfl)
          try simp only [Act.put, List.setIfInBounds_toArray, List.set_cons_zero, List.set_cons_succ]
          refine' takeY (i := 24) (oi := _) (v := _) ?hib24 (by kernel_rfl) (by kernel_rfl) (by kernel_rfl) (fun _ _ _ h => h) ?hwb24 ?hyb24 hHeld ?restb24
          case hib24 => (simp only [List.getElem?_toArray, List.getElem?_cons_succ, List.getElem?_cons_zero]; rfl)
          case hwb24 => rfl
          case hyb24 => (intro w hSw; (try dsimp only at hSw); go_simp; try with_reducible rfl)
          try simp only [Act.put, List.setIfInBounds_toArray, List.set_cons_zero, List.set_cons_succ]
          refine' takeY (i := 25) (oi := _) (v := _) ?hib25 (by kernel_rfl) (by kernel_rfl) (by kernel_rfl) (fun _ _ _ h => h) ?hwb25 ?hyb25 hHeld ?restb25
          case hib25 => (simp only [List.getElem?_toArray, List.getElem?_cons_succ, List.getElem?_cons_zero]; rfl)
          case hwb25 => rfl
          case hyb25 => (intro w hSw; (try dsimp only at hSw); go_simp; try with_reducible rfl)
          try simp only [Act.put, List.setIfInBounds_toArray, List.set_cons_zero, List.set_cons_succ]
          refine' takeY (i := 26) (oi := _) (v := _) ?hib26 (by kernel_rfl) (by kernel_rfl) (by kernel_rfl) (fun _ _ _ h => h) ?hwb26 ?hyb26 hHeld ?restb26
          case hib26 => (simp only [List.getElem?_toArray, List.getElem?_cons_succ, List.getElem?_cons_zero]; rfl)
          case hwb26 => rfl
          case hyb26 => (intro w hSw; (try dsimp only at hSw); go_simp; try with_reducible rfl)
          try simp only [Act.put, List.setIfInBounds_toArray, List.set_cons_zero, List.set_cons_succ]
          refine' takeY (i := 27) (oi := _) (v := _) ?hib27 (by kernel_rfl) (by kernel_rfl) (by kernel_rfl) (fun _ _ _ h => h) ?hwb27 ?hyb27 hHeld ?restb27
          case hib27 => (simp only [List.getElem?_toArray, List.getElem?_cons_succ, List.getElem?_cons_zero]; rfl)
          case hwb27 => rfl
          case hyb27 => (intro w hSw; (try dsimp only at hSw); go_simp; try with_reducible rfl)
          try simp only [Act.put, List.setIfInBounds_toArray, List.set_cons_zero, List.set_cons_succ]
          refine' takeY (i := 28) (oi := _) (v := _) ?hib28 (by kernel_rfl) (by kernel_rfl) (by kernel_rfl) (fun _ _ _ h => h) ?hwb28 ?hyb28 hHeld ?restb28
          case hib28 => (simp only [List.getElem?_toArray, List.getElem?_cons_succ, List.getElem?_cons_zero]; rfl)
          case hwb28 => rfl
          case hyb28 => (intro w hSw; (try dsimp only at hSw); go_simp; try with_reducible rfl)
          try simp only [Act.put, List.setIfInBounds_toArray, List.set_cons_zero, List.set_cons_succ]
          refine' takeY (i := 29) (oi := _) (v := _) ?hib29 (by kernel_rfl) (by kernel_rfl) (by kernel_rfl) (fun _ _ _ h => h) ?hwb29 ?hyb29 hHeld ?restb29
          case hib29 => (simp only [List.getElem?_toArray, List.getElem?_cons_succ, List.getElem?_cons_zero]; rfl)
          case hwb29 => rfl
          case hyb29 => (intro w hSw; (try dsimp only at hSw); go_simp; try with_reducible rfl)
          try simp only [Act.put, List.setIfInBounds_toArray, List.set_cons_zero, List.set_cons_succ]
          refine' takeY (i := 30) (oi := _) (v := _) ?hib30 (by kernel_rfl) (by kernel_rfl) (by kernel_rfl) (fun _ _ _ h => h) ?hwb30 ?hyb30 hHeld ?restb30
          case hib30 => (simp only [List.getElem?_toArray, List.getElem?_cons_succ, List.getElem?_cons_zero]; rfl)
          case hwb30 => rfl
          case hyb30 => (intro w hSw; (try dsimp only at hSw); go_simp; try with_reducible rfl)
          try simp only [Act.put, List.setIfInBounds_toArray, List.set_cons_zero, List.set_cons_succ]
          refine' takeY (i := 31) (oi := _) (v := _) ?hib31 (by kernel_rfl) (by kernel_rfl) (by kernel_rfl) (fun _ _ _ h => h) ?hwb31 ?hyb31 hHeld ?restb31
          case hib31 => (simp only [List.getElem?_toArray, List.getElem?_cons_succ, List.getElem?_cons_zero]; rfl)
          case hwb31 => rfl
          case hyb31 => (intro w hSw; (try dsimp only at hSw); go_simp; try with_reducible rfl)
          try simp only [Act.put, List.setIfInBounds_toArray, List.set_cons_zero, List.set_cons_succ]
          refine' takeY (i := 32) (oi := _) (v := _) ?hib32 (by kernel_rfl) (by kernel_rfl) (by kernel_rfl) (fun _ _ _ h => h) ?hwb32 ?hyb32 hHeld ?restb32
          case hib32 => (simp only [List.getElem?_toArray, List.getElem?_cons_succ, List.getElem?_cons_zero]; rfl)
          case hwb32 => rfl
          case hyb32 => (intro w hSw; (try dsimp only at hSw); go_simp; try with_reducible rfl)
          try simp only [Act.put, List.setIfInBounds_toArray, List.set_cons_zero, List.set_cons_succ]
          refine' takeY (i := 33) (oi := _) (v := _) ?hib33 (by kernel_rfl) (by kernel_rfl) (by kernel_rfl) (fun _ _ _ h => h) ?hwb33 ?hyb33 hHeld ?restb33
          case hib33 => (simp only [List.getElem?_toArray, List.getElem?_cons_succ, List.getElem?_cons_zero]; rfl)
          case hwb33 => rfl
          case hyb33 => (intro w hSw; (try dsimp only at hSw); go_simp; try with_reducible rfl)
          try simp only [Act.put, List.setIfInBounds_toArray, List.set_cons_zero, List.set_cons_succ]
          refine' takeY (i := 34) (oi := _) (v := _) ?hib34 (by kernel_rfl) (by kernel_rfl) (by kernel_rfl) (fun _ _ _ h => h) ?hwb34 ?hyb34 hHeld ?restb34
          case hib34 => (simp only [List.getElem?_toArray, List.getElem?_cons_succ, List.getElem?_cons_zero]; rfl)
          case hwb34 => rfl
          case hyb34 => (intro w hSw; (try dsimp only at hSw); go_simp; try with_reducible rfl)
          try simp only [Act.put, List.setIfInBounds_toArray, List.set_cons_zero, List.set_cons_succ]
          refine' takeY (i := 35) (oi := _) (v := _) ?hib35 (by kernel_rfl) (by kernel_rfl) (by kernel_rfl) (fun _ _ _ h => h) ?hwb35 ?hyb35 hHeld ?restb35
          case hib35 => (simp only [List.getElem?_toArray, List.getElem?_cons_succ, List.getElem?_cons_zero]; rfl)
          case hwb35 => rfl
          case hyb35 => (intro w hSw; (try dsimp only at hSw); go_simp; try with_reducible rfl)
          try simp only [Act.put, List.setIfInBounds_toArray, List.set_cons_zero, List.set_cons_succ]
          refine' takeY (i := 36) (oi := _) (v := _) ?hib36 (by kernel_rfl) (by kernel_rfl) (by kernel_rfl) (fun _ _ _ h => h) ?hwb36 ?hyb36 hHeld ?restb36
          case hib36 => (simp only [List.getElem?_toArray, List.getElem?_cons_succ, List.getElem?_cons_zero]; rfl)
          case hwb36 => rfl
          case hyb36 => (intro w hSw; (try dsimp only at hSw); go_simp; try with_reducible rfl)
          try simp only [Act.put, List.setIfInBounds_toArray, List.set_cons_zero, List.set_cons_succ]
          refine' takeY (i := 37) (oi := _) (v := _) ?hib37 (by kernel_rfl) (by kernel_rfl) (by kernel_rfl) (fun _ _ _ h => h) ?hwb37 ?hyb37 hHeld ?restb37
          case hib37 => (simp only [List.getElem?_toArray, List.getElem?_cons_succ, List.getElem?_cons_zero]; rfl)
          case hwb37 => rfl
          case hyb37 => (intro w hSw; (try dsimp only at hSw); go_simp; try with_reducible rfl)
          try simp only [Act.put, List.setIfInBounds_toArray, List.set_cons_zero, List.set_cons_succ]
          refine' takeY (i := 39) (oi := _) (v := _) ?hib38 (by kernel_rfl) (by kernel_rfl) (by kernel_rfl) (fun _ _ _ h => h) ?hwb38 ?hyb38 hHeld ?restb38
          case hib38 => (simp only [List.getElem?_toArray, List.getElem?_cons_succ, List.getElem?_cons_zero]; rfl)
          case hwb38 => rfl
          case hyb38 => (intro w hSw; (try dsimp only at hSw); go_simp; try with_reducible rfl)
          try simp only [Act.put, List.setIfInBounds_toArray, List.set_cons_zero, List.set_cons_succ]
          refine wpAnyH_ready (rs := [38]) (by kernel_rfl) (by simp) ?_
          refine' AllReadyH.cons (o := _) ?hib39 (fun K hK => ?stepb39) AllReadyH.nil
          case hib39 => (simp only [List.getElem?_toArray, List.getElem?_cons_succ, List.getElem?_cons_zero]; rfl)
          go_simp
          (go_at_call 16; (with_reducible refine (prank_at _ m _ ms (j : Int) (i : Int) _ (RM.out.below BL.out) (by omega) VR.out).mono ?_); rintro e w5 ⟨rfl, hb⟩; have BL := Lib.hid (below_next BL.out hb); clear hb)
          go_wp2_with fail
          clear hHeld
          refine hK.out _ _ (KEPT.out _ BL.out) (fun hHeld => ?_)
          clear hK K
          try simp only [Act.put, List.setIfInBounds_toArray, List.set_cons_zero, List.set_cons_succ]
          refine' takeY (i := 40) (oi := _) (v := _) ?hib40 (by kernel_rfl) (by kernel_rfl) (by kernel_rfl) (fun _ _ _ h => h) ?hwb40 ?hyb40 hHeld ?restb40
          case hib40 => (simp only [List.getElem?_toArray, List.getElem?_cons_succ, List.getElem?_cons_zero]; rfl)
          case hwb40 => rfl
          case hyb40 => (intro w hSw; (try dsimp only at hSw); go_simp; try with_reducible rfl)
          try simp only [Act.put, List.setIfInBounds_toArray, List.set_cons_zero, List.set_cons_succ]
          refine' takeY (i := 41) (oi := _) (v := _) ?hib41 (by kernel_rfl) (by kernel_rfl) (by kernel_rfl) (fun _ _ _ h => h) ?hwb41 ?hyb41 hHeld ?restb41
          case hib41 => (simp only [List.getElem?_toArray, List.getElem?_cons_succ, List.getElem?_cons_zero]; rfl)
          case hwb41 => rfl
          case hyb41 => (intro w hSw; (try dsimp only at hSw); go_simp; try with_reducible rfl)
          try simp only [Act.put, List.setIfInBounds_toArray, List.set_cons_zero, List.set_cons_succ]
          refine' takeY (i := 42) (oi := _) (v := _) ?hib42 (by kernel_rfl) (by kernel_rfl) (by kernel_rfl) (fun _ _ _ h => h) ?hwb42 ?hyb42 hHeld ?restb42
          case hib42 => (simp only [List.getElem?_toArray, List.getElem?_cons_succ, List.getElem?_cons_zero]; rfl)
          case hwb42 => rfl
          case hyb42 => (intro w hSw; (try dsimp only at hSw); go_simp; try with_reducible rfl)
          try simp only [Act.put, List.setIfInBounds_toArray, List.set_cons_zero, List.set_cons_succ]
          refine' takeY (i := 43) (oi := _) (v := _) ?hib43 (by kernel_rfl) (by kernel_rfl) (by kernel_rfl) (fun _ _ _ h => h) ?hwb43 ?hyb43 hHeld ?restb43
          case hib43 => (simp only [List.getElem?_toArray, List.getElem?_cons_succ, List.getElem?_cons_zero]; rfl)
          case hwb43 => rfl
          case hyb43 => (intro w hSw; (try dsimp only at hSw); go_simp; try with_reducible rfl)
          try simp only [Act.put, List.setIfInBounds_toArray, List.set_cons_zero, List.set_cons_succ]
          refine' takeY (i := 44) (oi := _) (v := _) ?hib44 (by kernel_rfl) (by kernel_rfl) (by kernel_rfl) (fun _ _ _ h => h) ?hwb44 ?hyb44 hHeld ?restb44
          case hib44 => (simp only [List.getElem?_toArray, List.getElem?_cons_succ, List.getElem?_cons_zero]; rfl)
          case hwb44 => rfl
          case hyb44 => (intro w hSw; (try dsimp only at hSw); go_simp; try with_reducible rfl)
          try simp only [Act.put, List.setIfInBounds_toArray, List.set_cons_zero, List.set_cons_succ]
          refine' takeY (i := 45) (oi := _) (v := _) ?hib45 (by kernel_rfl) (by kernel_rfl) (by kernel_rfl) (fun _ _ _ h => h) ?hwb45 ?hyb45 hHeld ?restb45
          case hib45 => (simp only [List.getElem?_toArray, List.getElem?_cons_succ, List.getElem?_cons_zero]; rfl)
          case hwb45 => rfl
          case hyb45 => (intro w hSw; (try dsimp only at hSw); go_simp; try with_reducible rfl)
          try simp only [Act.put, List.setIfInBounds_toArray, List.set_cons_zero, List.set_cons_succ]
          refine' takeY (i := 46) (oi := _) (v := _) ?hib46 (by kernel_rfl) (by kernel_rfl) (by kernel_rfl) (fun _ _ _ h => h) ?hwb46 ?hyb46 hHeld ?restb46
          case hib46 => (simp only [List.getElem?_toArray, List.getElem?_cons_succ, List.getElem?_cons_zero]; rfl)
          case hwb46 => rfl
          case hyb46 => (intro w hSw; (try dsimp only at hSw); go_simp; try with_reducible rfl)
          try simp only [Act.put, List.setIfInBounds_toArray, List.set_cons_zero, List.set_cons_succ]
          refine' takeY (i := 47) (oi := _) (v := _) ?hib47 (by kernel_rfl) (by kernel_rfl) (by kernel_rfl) (fun _ _ _ h => h) ?hwb47 ?hyb47 hHeld ?restb47
          case hib47 => (simp only [List.getElem?_toArray, List.getElem?_cons_succ, List.getElem?_cons_zero]; rfl)
          case hwb47 => rfl
          case hyb47 => (intro w hSw; (try dsimp only at hSw); go_simp; try with_reducible rfl)
          try simp only [Act.put, List.setIfInBounds_toArray, List.set_cons_zero, List.set_cons_succ]
          refine' takeY (i := 48) (oi := _) (v := _) ?hib48 (by kernel_rfl) (by kernel_rfl) (by kernel_rfl) (fun _ _ _ h => h) ?hwb48 ?hyb48 hHeld ?restb48
          case hib48 => (simp only [List.getElem?_toArray, List.getElem?_cons_succ, List.getElem?_cons_zero]; rfl)
          case hwb48 => rfl
          case hyb48 => (intro w hSw; (try dsimp only at hSw); go_simp; try with_reducible rfl)
          try simp only [Act.put, List.setIfInBounds_toArray, List.set_cons_zero, List.set_cons_succ]
          refine' takeY (i := 49) (oi := _) (v := _) ?hib49 (by kernel_rfl) (by kernel_rfl) (by kernel_rfl) (fun _ _ _ h => h) ?hwb49 ?hyb49 hHeld ?restb49
          case hib49 => (simp only [List.getElem?_toArray, List.getElem?_cons_succ, List.getElem?_cons_zero]; rfl)
          case hwb49 => rfl
          case hyb49 => (intro w hSw; (try dsimp only at hSw); go_simp; try with_reducible rfl)
          try simp only [Act.put, List.setIfInBounds_toArray, List.set_cons_zero, List.set_cons_succ]
          refine' takeY (i := 50) (oi := _) (v := _) ?hib50 (by kernel_rfl) (by kernel_rfl) (by kernel_rfl) (fun _ _ _ h => h) ?hwb50 ?hyb50 hHeld ?restb50
          case hib50 => (simp only [List.getElem?_toArray, List.getElem?_cons_succ, List.getElem?_cons_zero]; rfl)
          case hwb50 => rfl
          case hyb50 => (intro w hSw; (try dsimp only at hSw); go_simp; try with_reducible rfl)
          try simp only [Act.put, List.setIfInBounds_toArray, List.set_cons_zero, List.set_cons_succ]
          refine' takeY (i := 51) (oi := _) (v := _) ?hib51 (by kernel_rfl) (by kernel_rfl) (by kernel_rfl) (fun _ _ _ h => h) ?hwb51 ?hyb51 hHeld ?restb51
          case hib51 => (simp only [List.getElem?_toArray, List.getElem?_cons_succ, List.getElem?_cons_zero]; rfl)
          case hwb51 => rfl
          case hyb51 => (intro w hSw; (try dsimp only at hSw); go_simp; try with_reducible rfl)
          try simp only [Act.put, List.setIfInBounds_toArray, List.set_cons_zero, List.set_cons_succ]
          refine' takeY (i := 52) (oi := _) (v := _) ?hib52 (by kernel_rfl) (by kernel_rfl) (by kernel_rfl) (fun _ _ _ h => h) ?hwb52 ?hyb52 hHeld ?restb52
          case hib52 => (simp only [List.getElem?_toArray, List.getElem?_cons_succ, List.getElem?_cons_zero]; rfl)
          case hwb52 => rfl
          case hyb52 => (intro w hSw; (try dsimp only at hSw); go_simp; try with_reducible rfl)
          try simp only [Act.put, List.setIfInBounds_toArray, List.set_cons_zero, List.set_cons_succ]
          refine' takeY (i := 53) (oi := _) (v := _) ?hib53 (by kernel_rfl) (by kernel_rfl) (by kernel_rfl) (fun _ _ _ h => h) ?hwb53 ?hyb53 hHeld ?restb53
          case hib53 => (simp only [List.getElem?_toArray, List.getElem?_cons_succ, List.getElem?_cons_zero]; rfl)
          case hwb53 => rfl
          case hyb53 => (intro w hSw; (try dsimp only at hSw); go_simp; try with_reducible rfl)
          try simp only [Act.put, List.setIfInBounds_toArray, List.set_cons_zero, List.set_cons_succ]
          refine' takeY (i := 54) (oi := _) (v := _) ?hib54 (by kernel_rfl) (by kernel_rfl) (by kernel_rfl) (fun _ _ _ h => h) ?hwb54 ?hyb54 hHeld ?restb54
          case hib54 => (simp only [List.getElem?_toArray, List.getElem?_cons_succ, List.getElem?_cons_zero]; rfl)
          case hwb54 => rfl
          case hyb54 => (intro w hSw; (try dsimp only at hSw); go_simp; try with_reducible rfl)
          try simp only [Act.put, List.setIfInBounds_toArray, List.set_cons_zero, List.set_cons_succ]
          refine wpAnyH_ready (rs := [55]) (by kernel_rfl) (by simp) ?_
          refine' AllReadyH.cons (o := _) ?hib55 (fun K hK => ?stepb55) AllReadyH.nil
          case hib55 => (simp only [List.getElem?_toArray, List.getElem?_cons_succ, List.getElem?_cons_zero]; rfl)
          go_simp
          (go_at_call 18; (with_reducible refine (pless_at ⟨(j : Int), x1, x2, x3, x4, x5⟩ y _ _ VL.out).mono ?_); rintro e w5 ⟨rfl, hb⟩; have BL := Lib.hid (below_next BL.out hb); clear hb)
          go_wp2_with fail
          clear hHeld
          refine hK.out _ _ (KEPT.out _ BL.out) (fun hHeld => ?_)
          clear hK K
          try simp only [Act.put, List.setIfInBounds_toArray, List.set_cons_zero, List.set_cons_succ]
          refine' takeY (i := 56) (oi := _) (v := _) ?hib56 (by kernel_rfl) (by kernel_rfl) (by kernel_rfl) (fun _ _ _ h => h) ?hwb56 ?hyb56 hHeld ?restb56
          case hib56 => (simp only [List.getElem?_toArray, List.getElem?_cons_succ, List.getElem?_cons_zero]; rfl)
          case hwb56 => rfl
          case hyb56 => (intro w hSw; (try dsimp only at hSw); go_simp; try with_reducible rfl)
          try simp only [Act.put, List.setIfInBounds_toArray, List.set_cons_zero, List.set_cons_succ]
          refine' takeY (i := 57) (oi := _) (v := _) ?hib57 (by kernel_rfl) (by kernel_rfl) (by kernel_rfl) (fun _ _ _ h => h) ?hwb57 ?hyb57 hHeld ?restb57
          case hib57 => (simp only [List.getElem?_toArray, List.getElem?_cons_succ, List.getElem?_cons_zero]; rfl)
          case hwb57 => rfl
          case hyb57 => (intro w hSw; (try dsimp only at hSw); go_simp; try with_reducible rfl)
          try simp only [Act.put, List.setIfInBounds_toArray, List.set_cons_zero, List.set_cons_succ]
          refine wpAnyH_done (by kernel_rfl) ?_ _
          refine NoPanic.normal ?_
          go_wp2
          go_roundw
          case rel => exact ⟨i + 1, by go_num, by omega, below_next BE.out BL.out⟩
          case measure => simp [intOf]; omega
      have b3 : decide (i < m) = false := by simp; omega
      have b4 : decide ((i : Int) < (m : Int)) = false := by simp; omega
      go_wp2
      go_ret
      exact ⟨rfl, below_next B.out BE.out⟩
end Go.Proofs.Ytkiolkceaibmgaa
