/-
  Package place's Holds: contract.
-/
import Derived.Test.YtokmkfoofgiddaaPa4
import Derived.Test.YtokmkfoofgiddaaPa5
namespace Go.Proofs.Ytokmkfoofgiddaa
open Go.RowKit

theorem Keeps.dN {F : Nat → Prop} {a b : World} (h : Keeps F a b) (n : Nat) : Keeps F a (b.drewN n) := ⟨h.os, h.tape, h.output, h.size, h.block⟩
theorem TkAt.dN {W : World} {v : Value} {p q : Nat} {m : Int} {tk : List Int} (h : TkAt W v p q m tk) (n : Nat) : TkAt (W.drewN n) v p q m tk := ⟨h.fn, h.box, h.arr, h.ne⟩
/-- a core is free, and may be: it is none of those that are taken -/
theorem takeB_iff {m : Int} {tk : List Int} {c : Int} : takeB m tk c = true ↔ 0 ≤ c ∧ c < m ∧ c ∉ tk := by
  unfold takeB
  simp only [Bool.and_eq_true, decide_eq_true_eq, Bool.not_eq_true', decide_eq_false_iff_not]
  exact ⟨fun h => ⟨h.1.1, h.1.2, h.2⟩, fun h => ⟨⟨h.1, h.2.1⟩, h.2.2⟩⟩

section
variable {P : Program} {ops : Array Oper} {Q : Exit → Act → World → Prop} {md : Region.Mode} {S : World → Prop}
/-- take number i first: it is wanted -/
theorem takeY {i : Nat} {oi : Oper} {v : Value} {fuel : Nat} {listed : Array Bool} {a : Act} {w : World} (hi : ops[i]? = some oi)
    (hs : Region.noSelect ops = true) (hf : Region.free md ops listed i = true) (hr : (Region.ready md ops listed).contains i = true)
    (hQ : ∀ c a w, Q (.panic c) (a.put oi.dst v) w → Q (.panic c) a w) (hw : Region.wanted oi (yielded ops a.tmps) = true) (hy : ∀ w, S w → (execOp a.eval oi).run P w = .ok (.value v) w) (hS : S w)
    (h : wpAnyH P md ops Q S fuel (listed.setIfInBounds i true) (a.put oi.dst v) w) : wpAnyH P md ops Q S (fuel + 1) listed a w :=
  wpAnyH_take hi hs hf hr hQ (.inl ⟨hw, hy⟩) hS h
/-- .. it is not wanted -/
theorem takeN {i : Nat} {oi : Oper} {fuel : Nat} {listed : Array Bool} {a : Act} {w : World} (hi : ops[i]? = some oi)
    (hs : Region.noSelect ops = true) (hf : Region.free md ops listed i = true) (hr : (Region.ready md ops listed).contains i = true)
    (hQ : ∀ c a w, Q (.panic c) (a.put oi.dst undef) w → Q (.panic c) a w) (hw : Region.wanted oi (yielded ops a.tmps) = false) (hS : S w)
    (h : wpAnyH P md ops Q S fuel (listed.setIfInBounds i true) (a.put oi.dst undef) w) : wpAnyH P md ops Q S (fuel + 1) listed a w :=
  wpAnyH_take hi hs hf hr hQ (.inr ⟨hw, rfl⟩) hS h
end
set_option maxRecDepth 20000 in
set_option maxHeartbeats 4000000 in
theorem pholds_any (a : Option Addr) (len cap : Nat) (l : List Rn) (b : Option Addr) (lb cb : Nat) (cs : List Int) (m : Int) (w : World) (h : RowR w a len cap l) (g : Row .i64 w b lb cb cs) :
    Calls Try.prog 14 #[.slice a len cap, .slice b lb cb, .int .i64 m] w fun e w' => e = .returned (.bool (holdsB l cs m)) ∧ Below w.heap.size w w' := by
  have H := Lib.hid h
  have G := Lib.hid g
  have LN := Lib.hid h.len
  have LC := Lib.hid g.len
  have ⟨c1, c2⟩ := h.cap_le
  clear h g
  go_enter Try.func14, Try.ntmps14
  go_wp2_with fail
  refine (pcheck_any a len cap l m w H.out).mono ?_
  rintro e w1 ⟨rfl, hb1⟩
  have B1 := Lib.hid hb1
  have H1 := Lib.hid (H.out.below hb1)
  have G1 := Lib.hid (G.out.below hb1)
  clear hb1
  cases hmb : mayB l m with
  | false =>
    have V := Lib.hid (holdsB_not (cs := cs) hmb)
    clear hmb
    go_wp2
    go_ret
    exact ⟨ret_b V.out.symm, B1.out⟩
  | true =>
    have MB := Lib.hid hmb
    have MY := Lib.hid (mayB_true.mp hmb)
    have m2 := (mayB_true.mp hmb).m2
    clear hmb
    by_cases q : lb = len
    · subst q
      have b0 : ((lb : Int) != (lb : Int)) = false := by simp
      go_wp2_with fail
      refine (ptaker_any m w1).mono ?_
      rintro e w2 ⟨v, rfl, htk, hb2, hz2⟩
      have TK1 := Lib.hid htk
      have B2 := Lib.hid (below_next B1.out hb2)
      have hfn := htk.fn
      obtain ⟨p, hp⟩ : ∃ p, w1.heap.size = p := ⟨_, rfl⟩
      have HP := Lib.hid (show w.heap.size ≤ p by rw [← hp]; exact B1.out.size)
      rw [hp] at TK1 hfn
      clear htk hb2 hz2 hp
      subst hfn
      go_wp2
      go_loopw [25] (fun u wr => ∃ i : Nat, u = .int .i64 i ∧ i ≤ lb ∧ OnTo l cs m i ∧ TkAt wr (.func (.func 26) #[] #[.pointer (some ⟨p, 0, none⟩), .pointer (some ⟨p + 1, 0, none⟩)]) p (p + 1) m (cs.take i) ∧ Below w.heap.size w wr) (fun u _ => lb - (intOf u).toNat)
      case atStart => exact ⟨0, rfl, by omega, on_zero _ _ _, TK1.out, B2.out⟩
      case round =>
        obtain ⟨i, rfl, i1, ht, htk, hb⟩ := hrel
        have T := Lib.hid ht
        have B := Lib.hid hb
        have TK := Lib.hid htk
        clear ht hb htk
        by_cases go : i < lb
        · have b1 : decide ((i : Int) < (lb : Int)) = true := by simp; omega
          have b1' : decide (i < lb) = true := by simp; omega
          obtain ⟨r, hr, _⟩ := getR (l := l) (i := i) (by rw [LN.out]; exact go)
          obtain ⟨c, hc, hcd⟩ := getI (cs := cs) (i := i) (by rw [LC.out]; exact go)
          have NO := Lib.hid (fun (q : ¬ OnFine (cs.take i) m r c) => holds_not hr hc q)
          have ST := Lib.hid (fun (q : OnFine (cs.take i) m r c) => (on_step hr hc).mpr ⟨T.out, q⟩)
          have RM := Lib.hid (MY.out.each r (List.mem_of_getElem? hr))
          obtain ⟨ba, oa, rfl, hat⟩ := H.out.at hr
          obtain ⟨bb, ob, rfl, hcell⟩ := G.out.cell go
          rw [hcd] at hcell
          have XA := Lib.hid (hat.below B.out)
          have x0 := XA.out.c0; have x1 := XA.out.c1; have x2 := XA.out.c2
          have HC := Lib.hid hc
          have i3 : (i : Int) < (lb : Int) := by omega
          have i0 : 0 ≤ (i : Int) := by omega
          obtain ⟨id, pin, z⟩ := r
          replace x0 : wr.cell? ⟨ba, oa + i * 3, none⟩ = some (.int .i64 id) := x0
          replace x1 : wr.cell? ⟨ba, oa + i * 3 + 1, none⟩ = some (.int .i64 pin) := x1
          replace x2 : wr.cell? ⟨ba, oa + i * 3 + 2, none⟩ = some (.int .i64 z) := x2
          obtain ⟨W2, hW2⟩ : ∃ W2, (wr.alloc (.cells #[.int .i64 id, .int .i64 pin, .int .i64 z] 39)) = W2 := ⟨_, rfl⟩
          have B5 := Lib.hid (show Below w.heap.size w W2 by rw [← hW2]; exact below_next B.out (wbox wr _))
          have BX := Lib.hid B5.out.drew
          have TX := Lib.hid (show TkAt W2.drew _ p (p + 1) m (cs.take i) from TkAt.dN (by rw [← hW2]; exact TK.out.below (wbox wr _)) 1)
          have R2 := Lib.hid (show Blk W2 39 wr.heap.size #[.int .i64 id, .int .i64 pin, .int .i64 z] by rw [← hW2]; exact Blk.new _ _ _)
          have y := cell_on B5.out hcell
          have NB := Lib.hid (show ¬ bb = p + 1 by have h1 := World.block_lt_of_cell? _ _ hcell; have h2 := HP.out; have h3 : bb < w.heap.size := h1; omega)
          have q0 := R2.out.cell 0; have q1 := R2.out.cell 1; have q2 := R2.out.cell 2
          simp at q0 q1 q2
          clear hr hc hat hcell hcd XA
          by_cases p3 : pin ≠ -1 ∧ pin ≠ c
          · have b4 : (pin != -1) = true := by simp [p3.1]
            have b5 : (pin != c) = true := by simp [p3.2]
            have V := Lib.hid (NO.out fun q => p3.2 (q.pin (by have h1 : -1 ≤ pin := RM.out.1; have h2 := p3.1; show 0 ≤ pin; omega)).symm)
            clear p3
            go_upto_region 7 with fail
            clear hW2
            go_quiet (fail)
            go_wp2
            go_ret
            exact ⟨ret_b V.out.symm, bdN B5.out _⟩
          · have PF := Lib.hid (show 0 ≤ pin → c = pin from fun q => by
              refine Classical.byContradiction fun e => p3 ⟨by omega, fun e2 => e e2.symm⟩)
            by_cases p4 : pin = -1
            · have b4 : (pin != -1) = false := by simp [p4]
              clear p3 p4
              go_upto_region 7 with fail
              clear hW2
              clear x0 x1 x2
              have KEPT := Lib.hid (show ∀ w' : World, Keeps (fun k => k = p + 1) W2.drew w' → w'.cell? ⟨wr.heap.size, 1, none⟩ = some (.int .i64 pin) ∧ w'.cell? ⟨bb, ob + i, none⟩ = some (.int .i64 c) from fun w' h => ⟨(World.cell?_of_block (w := W2) (a := ⟨wr.heap.size, 1, none⟩) (h.block wr.heap.size R2.out.lt (by have h1 := TK.out.arr.lt; omega))).trans q1, (World.cell?_of_block (w := W2) (a := ⟨bb, ob + i, none⟩) (h.block bb (World.block_lt_of_cell? _ _ y) NB.out)).trans y⟩)
              clear q0 q1 q2 y
              have BL := Lib.hid (Keeps.refl (fun k => k = p + 1) W2.drew)
              refine wp_region_noPanic ?_
              refine wp_region_held_drew (S := fun w' => w'.cell? ⟨wr.heap.size, 1, none⟩ = some (.int .i64 pin) ∧ w'.cell? ⟨bb, ob + i, none⟩ = some (.int .i64 c)) (by kernel_rfl) (KEPT.out _ BL.out) (fun hHeld => ?_)
              refine' takeY (i := 0) (oi := _) (v := _) ?hia0 (by kernel_rfl) (by kernel_rfl) (by kernel_rfl) (fun _ _ _ h => h) ?hwa0 ?hya0 hHeld ?resta0
              case hia0 => (simp only [List.getElem?_toArray, List.getElem?_cons_zero]; rfl)
              case hwa0 => rfl
              case hya0 => (intro w hSw; (try dsimp only at hSw); go_simp; try with_reducible rfl)
              try simp only [Act.put, List.setIfInBounds_toArray, List.set_cons_zero, List.set_cons_succ]
              refine' takeY (i := 1) (oi := _) (v := _) ?hia1 (by kernel_rfl) (by kernel_rfl) (by kernel_rfl) (fun _ _ _ h => h) ?hwa1 ?hya1 hHeld ?resta1
              case hia1 => (simp only [List.getElem?_toArray, List.getElem?_cons_succ, List.getElem?_cons_zero]; rfl)
              case hwa1 => rfl
              case hya1 => (intro w hSw; (try dsimp only at hSw); go_simp; try with_reducible rfl)
              try simp only [Act.put, List.setIfInBounds_toArray, List.set_cons_zero, List.set_cons_succ]
              refine' takeY (i := 2) (oi := _) (v := _) ?hia2 (by kernel_rfl) (by kernel_rfl) (by kernel_rfl) (fun _ _ _ h => h) ?hwa2 ?hya2 hHeld ?resta2
              case hia2 => (simp only [List.getElem?_toArray, List.getElem?_cons_succ, List.getElem?_cons_zero]; rfl)
              case hwa2 => rfl
              case hya2 => (intro w hSw; (try dsimp only at hSw); go_simp; try with_reducible rfl)
              try simp only [Act.put, List.setIfInBounds_toArray, List.set_cons_zero, List.set_cons_succ]
              refine' takeY (i := 3) (oi := _) (v := _) ?hia3 (by kernel_rfl) (by kernel_rfl) (by kernel_rfl) (fun _ _ _ h => h) ?hwa3 ?hya3 hHeld ?resta3
              case hia3 => (simp only [List.getElem?_toArray, List.getElem?_cons_succ, List.getElem?_cons_zero]; rfl)
              case hwa3 => rfl
              case hya3 => (intro w hSw; (try dsimp only at hSw); go_simp; try with_reducible rfl)
              try simp only [Act.put, List.setIfInBounds_toArray, List.set_cons_zero, List.set_cons_succ]
              refine' takeN (i := 4) (oi := _) ?hia4 (by kernel_rfl) (by kernel_rfl) (by kernel_rfl) (fun _ _ _ h => h) ?hwa4 hHeld ?resta4
              case hia4 => (simp only [List.getElem?_toArray, List.getElem?_cons_succ, List.getElem?_cons_zero]; rfl)
              case hwa4 => rfl
              try simp only [Act.put, List.setIfInBounds_toArray, List.set_cons_zero, List.set_cons_succ]
              refine' takeN (i := 5) (oi := _) ?hia5 (by kernel_rfl) (by kernel_rfl) (by kernel_rfl) (fun _ _ _ h => h) ?hwa5 hHeld ?resta5
              case hia5 => (simp only [List.getElem?_toArray, List.getElem?_cons_succ, List.getElem?_cons_zero]; rfl)
              case hwa5 => rfl
              try simp only [Act.put, List.setIfInBounds_toArray, List.set_cons_zero, List.set_cons_succ]
              refine' takeN (i := 6) (oi := _) ?hia6 (by kernel_rfl) (by kernel_rfl) (by kernel_rfl) (fun _ _ _ h => h) ?hwa6 hHeld ?resta6
              case hia6 => (simp only [List.getElem?_toArray, List.getElem?_cons_succ, List.getElem?_cons_zero]; rfl)
              case hwa6 => rfl
              try simp only [Act.put, List.setIfInBounds_toArray, List.set_cons_zero, List.set_cons_succ]
              refine' takeN (i := 7) (oi := _) ?hia7 (by kernel_rfl) (by kernel_rfl) (by kernel_rfl) (fun _ _ _ h => h) ?hwa7 hHeld ?resta7
              case hia7 => (simp only [List.getElem?_toArray, List.getElem?_cons_succ, List.getElem?_cons_zero]; rfl)
              case hwa7 => rfl
              try simp only [Act.put, List.setIfInBounds_toArray, List.set_cons_zero, List.set_cons_succ]
              refine' takeN (i := 8) (oi := _) ?hia8 (by kernel_rfl) (by kernel_rfl) (by kernel_rfl) (fun _ _ _ h => h) ?hwa8 hHeld ?resta8
              case hia8 => (simp only [List.getElem?_toArray, List.getElem?_cons_succ, List.getElem?_cons_zero]; rfl)
              case hwa8 => rfl
              try simp only [Act.put, List.setIfInBounds_toArray, List.set_cons_zero, List.set_cons_succ]
              refine' takeN (i := 9) (oi := _) ?hia9 (by kernel_rfl) (by kernel_rfl) (by kernel_rfl) (fun _ _ _ h => h) ?hwa9 hHeld ?resta9
              case hia9 => (simp only [List.getElem?_toArray, List.getElem?_cons_succ, List.getElem?_cons_zero]; rfl)
              case hwa9 => rfl
              try simp only [Act.put, List.setIfInBounds_toArray, List.set_cons_zero, List.set_cons_succ]
              refine' takeN (i := 10) (oi := _) ?hia10 (by kernel_rfl) (by kernel_rfl) (by kernel_rfl) (fun _ _ _ h => h) ?hwa10 hHeld ?resta10
              case hia10 => (simp only [List.getElem?_toArray, List.getElem?_cons_succ, List.getElem?_cons_zero]; rfl)
              case hwa10 => rfl
              try simp only [Act.put, List.setIfInBounds_toArray, List.set_cons_zero, List.set_cons_succ]
              refine' takeY (i := 11) (oi := _) (v := _) ?hia11 (by kernel_rfl) (by kernel_rfl) (by kernel_rfl) (fun _ _ _ h => h) ?hwa11 ?hya11 hHeld ?resta11
              case hia11 => (simp only [List.getElem?_toArray, List.getElem?_cons_succ, List.getElem?_cons_zero]; rfl)
              case hwa11 => rfl
              case hya11 => (intro w hSw; (try dsimp only at hSw); go_simp; try with_reducible rfl)
              try simp only [Act.put, List.setIfInBounds_toArray, List.set_cons_zero, List.set_cons_succ]
              refine' takeY (i := 12) (oi := _) (v := _) ?hia12 (by kernel_rfl) (by kernel_rfl) (by kernel_rfl) (fun _ _ _ h => h) ?hwa12 ?hya12 hHeld ?resta12
              case hia12 => (simp only [List.getElem?_toArray, List.getElem?_cons_succ, List.getElem?_cons_zero]; rfl)
              case hwa12 => rfl
              case hya12 => (intro w hSw; (try dsimp only at hSw); go_simp; try with_reducible rfl)
              try simp only [Act.put, List.setIfInBounds_toArray, List.set_cons_zero, List.set_cons_succ]
              refine' takeY (i := 13) (oi := _) (v := _) ?hia13 (by kernel_rfl) (by kernel_rfl) (by kernel_rfl) (fun _ _ _ h => h) ?hwa13 ?hya13 hHeld ?resta13
              case hia13 => (simp only [List.getElem?_toArray, List.getElem?_cons_succ, List.getElem?_cons_zero]; rfl)
              case hwa13 => rfl
              case hya13 => (intro w hSw; (try dsimp only at hSw); go_simp; try with_reducible rfl)
              try simp only [Act.put, List.setIfInBounds_toArray, List.set_cons_zero, List.set_cons_succ]
              refine' takeY (i := 14) (oi := _) (v := _) ?hia14 (by kernel_rfl) (by kernel_rfl) (by kernel_rfl) (fun _ _ _ h => h) ?hwa14 ?hya14 hHeld ?resta14
              case hia14 => (simp only [List.getElem?_toArray, List.getElem?_cons_succ, List.getElem?_cons_zero]; rfl)
              case hwa14 => rfl
              case hya14 => (intro w hSw; (try dsimp only at hSw); go_simp; try with_reducible rfl)
              try simp only [Act.put, List.setIfInBounds_toArray, List.set_cons_zero, List.set_cons_succ]
              refine' takeY (i := 15) (oi := _) (v := _) ?hia15 (by kernel_rfl) (by kernel_rfl) (by kernel_rfl) (fun _ _ _ h => h) ?hwa15 ?hya15 hHeld ?resta15
              case hia15 => (simp only [List.getElem?_toArray, List.getElem?_cons_succ, List.getElem?_cons_zero]; rfl)
              case hwa15 => rfl
              case hya15 => (intro w hSw; (try dsimp only at hSw); go_simp; try with_reducible rfl)
              try simp only [Act.put, List.setIfInBounds_toArray, List.set_cons_zero, List.set_cons_succ]
              refine' takeY (i := 16) (oi := _) (v := _) ?hia16 (by kernel_rfl) (by kernel_rfl) (by kernel_rfl) (fun _ _ _ h => h) ?hwa16 ?hya16 hHeld ?resta16
              case hia16 => (simp only [List.getElem?_toArray, List.getElem?_cons_succ, List.getElem?_cons_zero]; rfl)
              case hwa16 => rfl
              case hya16 => (intro w hSw; (try dsimp only at hSw); go_simp; try with_reducible rfl)
              try simp only [Act.put, List.setIfInBounds_toArray, List.set_cons_zero, List.set_cons_succ]
              refine' takeY (i := 17) (oi := _) (v := _) ?hia17 (by kernel_rfl) (by kernel_rfl) (by kernel_rfl) (fun _ _ _ h => h) ?hwa17 ?hya17 hHeld ?resta17
              case hia17 => (simp only [List.getElem?_toArray, List.getElem?_cons_succ, List.getElem?_cons_zero]; rfl)
              case hwa17 => rfl
              case hya17 => (intro w hSw; (try dsimp only at hSw); go_simp; try with_reducible rfl)
              try simp only [Act.put, List.setIfInBounds_toArray, List.set_cons_zero, List.set_cons_succ]
              refine wpAnyH_ready (rs := [18]) (by kernel_rfl) (by simp) ?_
              refine' AllReadyH.cons (o := _) ?hia18 (fun K hK => ?stepa18) AllReadyH.nil
              case hia18 => (simp only [List.getElem?_toArray, List.getElem?_cons_succ, List.getElem?_cons_zero]; rfl)
              go_simp
              (go_at_call 26; (with_reducible refine (ptake_any TX.out c m2).mono ?_); rintro e w4 ⟨rfl, htk4, hk4, hz4⟩; have BL := Lib.hid hk4; have HT := Lib.hid htk4; have B4 := Lib.hid (hk4.below BX.out (fun k (e : k = p + 1) => by have h2 := HP.out; omega) BX.out.size); clear htk4 hk4 hz4)
              go_wp2_with fail
              clear hHeld
              refine hK.out _ _ (KEPT.out _ BL.out) (fun hHeld => ?_)
              clear hK K
              try simp only [Act.put, List.setIfInBounds_toArray, List.set_cons_zero, List.set_cons_succ]
              refine' takeY (i := 19) (oi := _) (v := _) ?hia19 (by kernel_rfl) (by kernel_rfl) (by kernel_rfl) (fun _ _ _ h => h) ?hwa19 ?hya19 hHeld ?resta19
              case hia19 => (simp only [List.getElem?_toArray, List.getElem?_cons_succ, List.getElem?_cons_zero]; rfl)
              case hwa19 => rfl
              case hya19 => (intro w hSw; (try dsimp only at hSw); go_simp; try with_reducible rfl)
              try simp only [Act.put, List.setIfInBounds_toArray, List.set_cons_zero, List.set_cons_succ]
              refine' takeY (i := 20) (oi := _) (v := _) ?hia20 (by kernel_rfl) (by kernel_rfl) (by kernel_rfl) (fun _ _ _ h => h) ?hwa20 ?hya20 hHeld ?resta20
              case hia20 => (simp only [List.getElem?_toArray, List.getElem?_cons_succ, List.getElem?_cons_zero]; rfl)
              case hwa20 => rfl
              case hya20 => (intro w hSw; (try dsimp only at hSw); go_simp; try with_reducible rfl)
              try simp only [Act.put, List.setIfInBounds_toArray, List.set_cons_zero, List.set_cons_succ]
              refine wpAnyH_done (by kernel_rfl) ?_ _
              refine NoPanic.normal ?_
              cases htb : takeB m (cs.take i) c with
              | false =>
                have V := Lib.hid (NO.out fun q => by
                  have h1 := takeB_iff.mpr ⟨q.rng.1, q.rng.2, q.nin⟩
                  rw [htb] at h1; cases h1)
                clear htb
                go_wp2
                go_ret
                exact ⟨ret_b V.out.symm, B4.out⟩
              | true =>
                have TB := Lib.hid (takeB_iff.mp htb)
                have TN := Lib.hid (ST.out ⟨⟨TB.out.1, TB.out.2.1⟩, TB.out.2.2, PF.out⟩)
                have TKN := Lib.hid (show TkAt w4 _ p (p + 1) m (cs.take (i + 1)) by have h1 := HT.out; unfold takeL at h1; rw [htb] at h1; rw [take_snoc HC.out]; exact h1)
                clear htb
                go_wp2
                go_roundw
                case rel => exact ⟨i + 1, by go_num, by omega, TN.out, TKN.out, B4.out⟩
                case measure => simp [intOf]; omega
            · have b4 : (pin != -1) = true := by simp [p4]
              have b5 : (pin != c) = false := by
                have h1 : -1 ≤ pin := RM.out.1
                have h2 := PF.out (by omega)
                simp [h2]
              clear p3 p4
              go_upto_region 7 with fail
              clear hW2
              clear x0 x1 x2
              have KEPT := Lib.hid (show ∀ w' : World, Keeps (fun k => k = p + 1) W2.drew w' → w'.cell? ⟨wr.heap.size, 1, none⟩ = some (.int .i64 pin) ∧ w'.cell? ⟨bb, ob + i, none⟩ = some (.int .i64 c) from fun w' h => ⟨(World.cell?_of_block (w := W2) (a := ⟨wr.heap.size, 1, none⟩) (h.block wr.heap.size R2.out.lt (by have h1 := TK.out.arr.lt; omega))).trans q1, (World.cell?_of_block (w := W2) (a := ⟨bb, ob + i, none⟩) (h.block bb (World.block_lt_of_cell? _ _ y) NB.out)).trans y⟩)
              clear q0 q1 q2 y
              have BL := Lib.hid (Keeps.refl (fun k => k = p + 1) W2.drew)
              refine wp_region_noPanic ?_
              refine wp_region_held_drew (S := fun w' => w'.cell? ⟨wr.heap.size, 1, none⟩ = some (.int .i64 pin) ∧ w'.cell? ⟨bb, ob + i, none⟩ = some (.int .i64 c)) (by kernel_rfl) (KEPT.out _ BL.out) (fun hHeld => ?_)
              refine' takeY (i := 0) (oi := _) (v := _) ?hic0 (by kernel_rfl) (by kernel_rfl) (by kernel_rfl) (fun _ _ _ h => h) ?hwc0 ?hyc0 hHeld ?restc0
              case hic0 => (simp only [List.getElem?_toArray, List.getElem?_cons_zero]; rfl)
              case hwc0 => rfl
              case hyc0 => (intro w hSw; (try dsimp only at hSw); go_simp; try with_reducible rfl)
              try simp only [Act.put, List.setIfInBounds_toArray, List.set_cons_zero, List.set_cons_succ]
              refine' takeY (i := 1) (oi := _) (v := _) ?hic1 (by kernel_rfl) (by kernel_rfl) (by kernel_rfl) (fun _ _ _ h => h) ?hwc1 ?hyc1 hHeld ?restc1
              case hic1 => (simp only [List.getElem?_toArray, List.getElem?_cons_succ, List.getElem?_cons_zero]; rfl)
              case hwc1 => rfl
              case hyc1 => (intro w hSw; (try dsimp only at hSw); go_simp; try with_reducible rfl)
              try simp only [Act.put, List.setIfInBounds_toArray, List.set_cons_zero, List.set_cons_succ]
              refine' takeY (i := 2) (oi := _) (v := _) ?hic2 (by kernel_rfl) (by kernel_rfl) (by kernel_rfl) (fun _ _ _ h => h) ?hwc2 ?hyc2 hHeld ?restc2
              case hic2 => (simp only [List.getElem?_toArray, List.getElem?_cons_succ, List.getElem?_cons_zero]; rfl)
              case hwc2 => rfl
              case hyc2 => (intro w hSw; (try dsimp only at hSw); go_simp; try with_reducible rfl)
              try simp only [Act.put, List.setIfInBounds_toArray, List.set_cons_zero, List.set_cons_succ]
              refine' takeY (i := 3) (oi := _) (v := _) ?hic3 (by kernel_rfl) (by kernel_rfl) (by kernel_rfl) (fun _ _ _ h => h) ?hwc3 ?hyc3 hHeld ?restc3
              case hic3 => (simp only [List.getElem?_toArray, List.getElem?_cons_succ, List.getElem?_cons_zero]; rfl)
              case hwc3 => rfl
              case hyc3 => (intro w hSw; (try dsimp only at hSw); go_simp; try with_reducible rfl)
              try simp only [Act.put, List.setIfInBounds_toArray, List.set_cons_zero, List.set_cons_succ]
              refine' takeY (i := 4) (oi := _) (v := _) ?hic4 (by kernel_rfl) (by kernel_rfl) (by kernel_rfl) (fun _ _ _ h => h) ?hwc4 ?hyc4 hHeld ?restc4
              case hic4 => (simp only [List.getElem?_toArray, List.getElem?_cons_succ, List.getElem?_cons_zero]; rfl)
              case hwc4 => rfl
              case hyc4 => (intro w hSw; (try dsimp only at hSw); go_simp; try with_reducible rfl)
              try simp only [Act.put, List.setIfInBounds_toArray, List.set_cons_zero, List.set_cons_succ]
              refine' takeY (i := 5) (oi := _) (v := _) ?hic5 (by kernel_rfl) (by kernel_rfl) (by kernel_rfl) (fun _ _ _ h => h) ?hwc5 ?hyc5 hHeld ?restc5
              case hic5 => (simp only [List.getElem?_toArray, List.getElem?_cons_succ, List.getElem?_cons_zero]; rfl)
              case hwc5 => rfl
              case hyc5 => (intro w hSw; (try dsimp only at hSw); go_simp; try with_reducible rfl)
              try simp only [Act.put, List.setIfInBounds_toArray, List.set_cons_zero, List.set_cons_succ]
              refine' takeY (i := 6) (oi := _) (v := _) ?hic6 (by kernel_rfl) (by kernel_rfl) (by kernel_rfl) (fun _ _ _ h => h) ?hwc6 ?hyc6 hHeld ?restc6
              case hic6 => (simp only [List.getElem?_toArray, List.getElem?_cons_succ, List.getElem?_cons_zero]; rfl)
              case hwc6 => rfl
              case hyc6 => (intro w hSw; (try dsimp only at hSw); go_simp; try with_reducible rfl)
              try simp only [Act.put, List.setIfInBounds_toArray, List.set_cons_zero, List.set_cons_succ]
              refine' takeY (i := 7) (oi := _) (v := _) ?hic7 (by kernel_rfl) (by kernel_rfl) (by kernel_rfl) (fun _ _ _ h => h) ?hwc7 ?hyc7 hHeld ?restc7
              case hic7 => (simp only [List.getElem?_toArray, List.getElem?_cons_succ, List.getElem?_cons_zero]; rfl)
              case hwc7 => rfl
              case hyc7 => (intro w hSw; (try dsimp only at hSw); go_simp; try with_reducible rfl)
              try simp only [Act.put, List.setIfInBounds_toArray, List.set_cons_zero, List.set_cons_succ]
              refine' takeY (i := 8) (oi := _) (v := _) ?hic8 (by kernel_rfl) (by kernel_rfl) (by kernel_rfl) (fun _ _ _ h => h) ?hwc8 ?hyc8 hHeld ?restc8
              case hic8 => (simp only [List.getElem?_toArray, List.getElem?_cons_succ, List.getElem?_cons_zero]; rfl)
              case hwc8 => rfl
              case hyc8 => (intro w hSw; (try dsimp only at hSw); go_simp; try with_reducible rfl)
              try simp only [Act.put, List.setIfInBounds_toArray, List.set_cons_zero, List.set_cons_succ]
              refine' takeY (i := 9) (oi := _) (v := _) ?hic9 (by kernel_rfl) (by kernel_rfl) (by kernel_rfl) (fun _ _ _ h => h) ?hwc9 ?hyc9 hHeld ?restc9
              case hic9 => (simp only [List.getElem?_toArray, List.getElem?_cons_succ, List.getElem?_cons_zero]; rfl)
              case hwc9 => rfl
              case hyc9 => (intro w hSw; (try dsimp only at hSw); go_simp; try with_reducible rfl)
              try simp only [Act.put, List.setIfInBounds_toArray, List.set_cons_zero, List.set_cons_succ]
              refine' takeY (i := 10) (oi := _) (v := _) ?hic10 (by kernel_rfl) (by kernel_rfl) (by kernel_rfl) (fun _ _ _ h => h) ?hwc10 ?hyc10 hHeld ?restc10
              case hic10 => (simp only [List.getElem?_toArray, List.getElem?_cons_succ, List.getElem?_cons_zero]; rfl)
              case hwc10 => rfl
              case hyc10 => (intro w hSw; (try dsimp only at hSw); go_simp; try with_reducible rfl)
              try simp only [Act.put, List.setIfInBounds_toArray, List.set_cons_zero, List.set_cons_succ]
              refine' takeY (i := 11) (oi := _) (v := _) ?hic11 (by kernel_rfl) (by kernel_rfl) (by kernel_rfl) (fun _ _ _ h => h) ?hwc11 ?hyc11 hHeld ?restc11
              case hic11 => (simp only [List.getElem?_toArray, List.getElem?_cons_succ, List.getElem?_cons_zero]; rfl)
              case hwc11 => rfl
              case hyc11 => (intro w hSw; (try dsimp only at hSw); go_simp; try with_reducible rfl)
              try simp only [Act.put, List.setIfInBounds_toArray, List.set_cons_zero, List.set_cons_succ]
              refine' takeY (i := 12) (oi := _) (v := _) ?hic12 (by kernel_rfl) (by kernel_rfl) (by kernel_rfl) (fun _ _ _ h => h) ?hwc12 ?hyc12 hHeld ?restc12
              case hic12 => (simp only [List.getElem?_toArray, List.getElem?_cons_succ, List.getElem?_cons_zero]; rfl)
              case hwc12 => rfl
              case hyc12 => (intro w hSw; (try dsimp only at hSw); go_simp; try with_reducible rfl)
              try simp only [Act.put, List.setIfInBounds_toArray, List.set_cons_zero, List.set_cons_succ]
              refine' takeY (i := 13) (oi := _) (v := _) ?hic13 (by kernel_rfl) (by kernel_rfl) (by kernel_rfl) (fun _ _ _ h => h) ?hwc13 ?hyc13 hHeld ?restc13
              case hic13 => (simp only [List.getElem?_toArray, List.getElem?_cons_succ, List.getElem?_cons_zero]; rfl)
              case hwc13 => rfl
              case hyc13 => (intro w hSw; (try dsimp only at hSw); go_simp; try with_reducible rfl)
              try simp only [Act.put, List.setIfInBounds_toArray, List.set_cons_zero, List.set_cons_succ]
              refine' takeY (i := 14) (oi := _) (v := _) ?hic14 (by kernel_rfl) (by kernel_rfl) (by kernel_rfl) (fun _ _ _ h => h) ?hwc14 ?hyc14 hHeld ?restc14
              case hic14 => (simp only [List.getElem?_toArray, List.getElem?_cons_succ, List.getElem?_cons_zero]; rfl)
              case hwc14 => rfl
              case hyc14 => (intro w hSw; (try dsimp only at hSw); go_simp; try with_reducible rfl)
              try simp only [Act.put, List.setIfInBounds_toArray, List.set_cons_zero, List.set_cons_succ]
              refine' takeY (i := 15) (oi := _) (v := _) ?hic15 (by kernel_rfl) (by kernel_rfl) (by kernel_rfl) (fun _ _ _ h => h) ?hwc15 ?hyc15 hHeld ?restc15
              case hic15 => (simp only [List.getElem?_toArray, List.getElem?_cons_succ, List.getElem?_cons_zero]; rfl)
              case hwc15 => rfl
              case hyc15 => (intro w hSw; (try dsimp only at hSw); go_simp; try with_reducible rfl)
              try simp only [Act.put, List.setIfInBounds_toArray, List.set_cons_zero, List.set_cons_succ]
              refine' takeY (i := 16) (oi := _) (v := _) ?hic16 (by kernel_rfl) (by kernel_rfl) (by kernel_rfl) (fun _ _ _ h => h) ?hwc16 ?hyc16 hHeld ?restc16
              case hic16 => (simp only [List.getElem?_toArray, List.getElem?_cons_succ, List.getElem?_cons_zero]; rfl)
              case hwc16 => rfl
              case hyc16 => (intro w hSw; (try dsimp only at hSw); go_simp; try with_reducible rfl)
              try simp only [Act.put, List.setIfInBounds_toArray, List.set_cons_zero, List.set_cons_succ]
              refine' takeY (i := 17) (oi := _) (v := _) ?hic17 (by kernel_rfl) (by kernel_rfl) (by kernel_rfl) (fun _ _ _ h => h) ?hwc17 ?hyc17 hHeld ?restc17
              case hic17 => (simp only [List.getElem?_toArray, List.getElem?_cons_succ, List.getElem?_cons_zero]; rfl)
              case hwc17 => rfl
              case hyc17 => (intro w hSw; (try dsimp only at hSw); go_simp; try with_reducible rfl)
              try simp only [Act.put, List.setIfInBounds_toArray, List.set_cons_zero, List.set_cons_succ]
              refine wpAnyH_ready (rs := [18]) (by kernel_rfl) (by simp) ?_
              refine' AllReadyH.cons (o := _) ?hic18 (fun K hK => ?stepc18) AllReadyH.nil
              case hic18 => (simp only [List.getElem?_toArray, List.getElem?_cons_succ, List.getElem?_cons_zero]; rfl)
              go_simp
              (go_at_call 26; (with_reducible refine (ptake_any TX.out c m2).mono ?_); rintro e w4 ⟨rfl, htk4, hk4, hz4⟩; have BL := Lib.hid hk4; have HT := Lib.hid htk4; have B4 := Lib.hid (hk4.below BX.out (fun k (e : k = p + 1) => by have h2 := HP.out; omega) BX.out.size); clear htk4 hk4 hz4)
              go_wp2_with fail
              clear hHeld
              refine hK.out _ _ (KEPT.out _ BL.out) (fun hHeld => ?_)
              clear hK K
              try simp only [Act.put, List.setIfInBounds_toArray, List.set_cons_zero, List.set_cons_succ]
              refine' takeY (i := 19) (oi := _) (v := _) ?hic19 (by kernel_rfl) (by kernel_rfl) (by kernel_rfl) (fun _ _ _ h => h) ?hwc19 ?hyc19 hHeld ?restc19
              case hic19 => (simp only [List.getElem?_toArray, List.getElem?_cons_succ, List.getElem?_cons_zero]; rfl)
              case hwc19 => rfl
              case hyc19 => (intro w hSw; (try dsimp only at hSw); go_simp; try with_reducible rfl)
              try simp only [Act.put, List.setIfInBounds_toArray, List.set_cons_zero, List.set_cons_succ]
              refine' takeY (i := 20) (oi := _) (v := _) ?hic20 (by kernel_rfl) (by kernel_rfl) (by kernel_rfl) (fun _ _ _ h => h) ?hwc20 ?hyc20 hHeld ?restc20
              case hic20 => (simp only [List.getElem?_toArray, List.getElem?_cons_succ, List.getElem?_cons_zero]; rfl)
              case hwc20 => rfl
              case hyc20 => (intro w hSw; (try dsimp only at hSw); go_simp; try with_reducible rfl)
              try simp only [Act.put, List.setIfInBounds_toArray, List.set_cons_zero, List.set_cons_succ]
              refine wpAnyH_done (by kernel_rfl) ?_ _
              refine NoPanic.normal ?_
              cases htb : takeB m (cs.take i) c with
              | false =>
                have V := Lib.hid (NO.out fun q => by
                  have h1 := takeB_iff.mpr ⟨q.rng.1, q.rng.2, q.nin⟩
                  rw [htb] at h1; cases h1)
                clear htb
                go_wp2
                go_ret
                exact ⟨ret_b V.out.symm, B4.out⟩
              | true =>
                have TB := Lib.hid (takeB_iff.mp htb)
                have TN := Lib.hid (ST.out ⟨⟨TB.out.1, TB.out.2.1⟩, TB.out.2.2, PF.out⟩)
                have TKN := Lib.hid (show TkAt w4 _ p (p + 1) m (cs.take (i + 1)) by have h1 := HT.out; unfold takeL at h1; rw [htb] at h1; rw [take_snoc HC.out]; exact h1)
                clear htb
                go_wp2
                go_roundw
                case rel => exact ⟨i + 1, by go_num, by omega, TN.out, TKN.out, B4.out⟩
                case measure => simp [intOf]; omega
        · have b1 : decide ((i : Int) < (lb : Int)) = false := by simp; omega
          have b1' : decide (i < lb) = false := by simp; omega
          have V := Lib.hid (holdsB_yes MB.out (on_iff.mpr ⟨by rw [LC.out, LN.out], by rw [LN.out, show lb = i by omega]; exact T.out⟩))
          go_wp2
          go_ret
          exact ⟨ret_b V.out.symm, B.out⟩
    · have b0 : ((lb : Int) != (len : Int)) = true := by simp; omega
      have V := Lib.hid (holdsB_no (l := l) (cs := cs) (m := m) (fun g => q (by have := g.len; rwa [LC.out, LN.out] at this)))
      go_wp2
      go_ret
      exact ⟨ret_b V.out.symm, B1.out⟩
end Go.Proofs.Ytokmkfoofgiddaa
