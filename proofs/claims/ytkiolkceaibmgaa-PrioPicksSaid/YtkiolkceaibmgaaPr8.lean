/-
  The walk of the law PrioPicks.
-/
import Derived.Test.YtkiolkceaibmgaaPr6
namespace Go.Proofs.Ytkiolkceaibmgaa
open Go.RowKit

/-- which of the numbers to 19 are IDs of these -/
def inA (ps : List Ent) : Array Value := ((List.range 20).map (fun j => Value.bool (ps.any (fun x => decide (x.id = ((j : Nat) : Int)))))).toArray
theorem inA_nil : inA [] = #[Value.bool false, Value.bool false, Value.bool false, Value.bool false, Value.bool false, Value.bool false, Value.bool false, Value.bool false, Value.bool false, Value.bool false, Value.bool false, Value.bool false, Value.bool false, Value.bool false, Value.bool false, Value.bool false, Value.bool false, Value.bool false, Value.bool false, Value.bool false] := rfl
theorem inA_at (ps : List Ent) (j : Nat) (hj : j < 20) : (inA ps)[j]? = some (Value.bool (ps.any (fun x => decide (x.id = (j : Int))))) := by
  unfold inA
  rw [List.getElem?_toArray, List.getElem?_map, List.getElem?_range hj]
  rfl
theorem inA_snoc (ps : List Ent) (x : Ent) (t : Nat) (hx : x.id = (t : Int)) (ht : t < 20) : (inA ps).setIfInBounds t (.bool true) = inA (ps ++ [x]) := by
  apply Array.ext_getElem?
  intro j
  by_cases hj : j < 20
  · rw [inA_at _ j hj]
    by_cases e : t = j
    · subst e
      rw [Array.getElem?_setIfInBounds_self_of_lt (by unfold inA; simpa using ht), List.any_append]
      simp [hx]
    · rw [Array.getElem?_setIfInBounds_ne e, inA_at _ j hj, List.any_append]
      have : ¬ (t : Int) = (j : Int) := by omega
      simp [hx, this]
  · have h1 : ∀ ps, (inA ps).size = 20 := fun ps => by unfold inA; simp
    rw [Array.getElem?_eq_none (by rw [Array.size_setIfInBounds, h1]; omega), Array.getElem?_eq_none (by rw [h1]; omega)]
theorem Blk.setB {W : World} {T : TypeId} {g : Nat} {cs : Array Value} (h : Blk W T g cs) (j : Nat) (v : Value) : Blk (W.setCell ⟨g, j, none⟩ v) T g (cs.setIfInBounds j v) := heap_setCell_same W g j cs T v h
/-- who is not picked does not go ahead of one who is -/
theorem picked {l : List Ent} {k i j : Nat} {x y : Ent} (hx : l[i]? = some x) (hn : ((sortE l).take k).any (fun z => decide (z.id = x.id)) = false) (hy : ((sortE l).take k)[j]? = some y) : lessB x y = false := by
  have s := sortE_sorted l
  unfold Sorted at s
  rw [← List.take_append_drop k (sortE l), List.pairwise_append] at s
  have hm : x ∈ sortE l := (sortE_perm l).mem_iff.mpr (List.mem_of_getElem? hx)
  rw [← List.take_append_drop k (sortE l)] at hm
  rcases List.mem_append.mp hm with g | g
  · rw [List.any_eq_false] at hn
    exact absurd (by simp) (hn x g)
  · exact lessB_no (s.2.2 y (List.mem_of_getElem? hy) x g)
set_option maxRecDepth 20000 in
set_option maxHeartbeats 4000000 in
theorem picks_walk (a : Option Addr) (len cap : Nat) (es : List Ent) (n : Int) (w : World) (h : RowE w a len cap es) : Calls Try.prog 6 #[.slice a len cap, .int .i64 n] w fun e w' => e = .returned (.bool true) ∧ Below w.heap.size w w' := by
  have r1 := Int.lt_tmod_of_pos n (show (0:Int) < 26 by omega)
  have r2 := Int.tmod_lt_of_pos n (show (0:Int) < 26 by omega)
  obtain ⟨r, hr⟩ : ∃ r, n.tmod 26 = r := ⟨_, rfl⟩
  rw [hr] at r1 r2
  obtain ⟨kk, hkk⟩ : ∃ m : Nat, (r + 26) % 26 = (m : Int) := ⟨((r + 26) % 26).toNat, by omega⟩
  have k25 : kk ≤ 25 := by omega
  have H := Lib.hid h
  clear h
  obtain ⟨i0, hi, hz0, hz1, hz2⟩ := info_parts Try.infoE
  have HI := Lib.hid hi; have HZ0 := Lib.hid hz0; have HZ1 := Lib.hid hz1; have HZ2 := Lib.hid hz2
  clear hi hz0 hz1 hz2
  go_enter Try.func6, Try.ntmps6
  go_wp2_with fail
  refine (l6awake_any _).mono ?_
  rintro e w1 ⟨rfl, hb⟩
  have B := Lib.hid hb
  have H := Lib.hid (H.out.below hb)
  clear hb
  go_wp2_with fail
  refine (l6few_any a len cap es _ (H.out.below (wbox _ _))).mono ?_
  rintro e wz ⟨m, rfl, hrow, m20, rfl⟩
  have R := Lib.hid hrow
  have LM := Lib.hid hrow.len
  have B0 := Lib.hid B.out
  have B := Lib.hid (below_next B.out (wbox w1 (Obj.cells #[] 27)))
  have O0 := Lib.hid (show (w1.alloc (Obj.cells #[] 27)).ownsRow w.heap.size 27 6 (.slice (some ⟨w1.heap.size, 0, none⟩) 0 0) 0 (([] : List (List Value)).flatten) from World.ownsRow_made w1 #[] 0 B0.out.size (by decide) rfl)
  clear hrow
  obtain ⟨W0, hW0⟩ : ∃ W0, w1.alloc (Obj.cells #[] 27) = W0 := ⟨_, rfl⟩
  rw [hW0] at R B O0 ⊢
  clear hW0
  go_wp2_with (at_builtin; refine wpList_append_rowF rfl _ _ _ rfl w.heap.size 27 i0 _ 6 48 Try.underlying22 HI.out HZ0.out HZ1.out HZ2.out rfl (by decide) (by decide) _ [] 0 rfl O0.out a m cap ((es.take 20).map Ent.cs) rfl R.out (wideE _) (oneE _) B.out.size (by omega) ?_; intro v2 w2 hown2 hgrow2; rw [Nat.zero_add, List.nil_append] at hown2; have HO := Lib.hid hown2; have B2 := Lib.hid (B.out.grown hgrow2 B.out.size (fun g hg => (O0.out.lt g hg).1)); obtain ⟨am, cm, hv, _, hfm⟩ := rowE_of_owns hown2 LM.out; subst hv; have FM := Lib.hid hfm; clear hown2 hgrow2 hfm)
  obtain ⟨es', hes⟩ : ∃ es', es.take 20 = es' := ⟨_, rfl⟩
  rw [hes] at LM HO
  clear hes R O0 B B0 H
  have B := Lib.hid B2.out
  clear B2
  go_loopw [7] (fun u wr => ∃ i : Nat, u = .int .i64 i ∧ i ≤ m ∧ wr.ownsRow w.heap.size 27 6 (.slice am m cm) m ((idTo (fun i => (i : Int)) i es').map Ent.cs).flatten ∧ Below w.heap.size w wr) (fun u _ => m - (intOf u).toNat)
  case atStart => exact ⟨0, rfl, by omega, by rw [idTo_zero]; exact HO.out, B.out⟩
  case round =>
    obtain ⟨i, rfl, il, hown, hbel⟩ := hrel
    clear HO B
    have HO := Lib.hid hown
    have B := Lib.hid hbel
    clear hown hbel
    by_cases go : i < m
    · have b1 : decide (i < m) = true := by simp; omega
      have b2 : decide ((i : Int) < (m : Int)) = true := by simp; omega
      obtain ⟨g, cm', hv⟩ := owns_form HO.out (by omega)
      simp only [Value.slice.injEq, true_and] at hv
      obtain ⟨rfl, rfl⟩ := hv
      have HF := Lib.hid (FM.out _ rfl)
      have ST := Lib.hid ((HO.out.stored (i * 6) (.int .i64 ((i : Int)))).1)
      rw [idTo_step (fun i => (i : Int)) i es' (by rw [LM.out]; exact go)] at ST
      obtain ⟨av, cv, hv, hrow, _⟩ := rowE_of_owns HO.out (by rw [idTo_len]; exact LM.out)
      simp only [Value.slice.injEq, true_and] at hv
      obtain ⟨rfl, rfl⟩ := hv
      obtain ⟨x, hx, _, _⟩ := getE (es := idTo (fun i => (i : Int)) i es') (i := i) (by rw [idTo_len, LM.out]; exact go)
      obtain ⟨bo, oo, hab, hat⟩ := hrow.at hx
      simp only [Option.some.injEq, Addr.mk.injEq, and_true] at hab
      obtain ⟨rfl, rfl⟩ := hab
      have c0 := hat.c0
      rw [Nat.zero_add] at c0
      have f0 := HO.out.frozenAt (i * 6)
      clear hrow hx hat
      have j1 : (i : Int) < (m : Int) := by omega
      have j2 : 0 ≤ (i : Int) := by omega
      go_wp2
      go_roundw
      case rel => exact ⟨i + 1, by go_num, by omega, ST.out, B.out.setCell (show w.heap.size ≤ (⟨g, i * 6, none⟩ : Addr).block from HF.out) _⟩
      case measure => simp [intOf]; omega
    have b1 : decide (i < m) = false := by simp; omega
    have b2 : decide ((i : Int) < (m : Int)) = false := by simp; omega
    have im : i = es'.length := by rw [LM.out]; omega
    obtain ⟨av, cv, hv, hrow, _⟩ := rowE_of_owns HO.out (by rw [idTo_len]; exact LM.out)
    simp only [Value.slice.injEq, true_and] at hv
    obtain ⟨rfl, rfl⟩ := hv
    rw [im] at hrow
    obtain ⟨ms, hms⟩ : ∃ ms, idTo (fun i => (i : Int)) es'.length es' = ms := ⟨_, rfl⟩
    rw [hms] at hrow
    have MS := Lib.hid hms
    have RM := Lib.hid hrow
    have LL := Lib.hid hrow.len
    clear hrow hms HO im
    obtain ⟨wa, hwa⟩ : ∃ wa, wa = wr := ⟨_, rfl⟩
    rw [← hwa] at RM B ⊢
    clear hwa
    have ID := Lib.hid (show ∀ (j : Nat) (x : Ent), ms[j]? = some x → x.id = (j : Int) from fun j x hx => by rw [← MS.out] at hx; exact (idTo_id hx).1)
    go_wp2_with fail
    refine (ppick_any _ m _ ms (kk : Int) _ RM.out (by omega)).mono ?_
    rintro e wb ⟨pa, lp, pc, rfl, hrp, hb, hf⟩
    rw [show pickE ms (kk : Int) = (sortE ms).take kk by unfold pickE; by_cases z : (kk : Int) < 1; (obtain rfl : kk = 0 := by omega); rfl; rw [if_neg z]; rfl] at hrp
    have LP := Lib.hid hrp.len
    have RP := Lib.hid hrp
    have RM := Lib.hid (RM.out.below hb)
    have B := Lib.hid (below_next B.out hb)
    have lpe : lp = min kk m := by rw [← LP.out, List.length_take, sortE_len, LL.out]
    clear hrp hb hf
    obtain ⟨ps, hps⟩ : ∃ ps, (sortE ms).take kk = ps := ⟨_, rfl⟩
    have PS := Lib.hid hps
    rw [hps] at RP LP
    clear hps
    have IP := Lib.hid (show ∀ (j : Nat) (x : Ent), ps[j]? = some x → ∃ t : Nat, x.id = (t : Int) ∧ t < 20 from fun j x hx => by
      have h1 := List.mem_of_getElem? hx
      rw [← PS.out] at h1
      have h2 := (sortE_perm ms).mem_iff.mp (List.mem_of_mem_take h1)
      obtain ⟨t, ht, e⟩ := List.mem_iff_getElem.mp h2
      exact ⟨t, ID.out t x (by rw [List.getElem?_eq_getElem ht, e]), by rw [LL.out] at ht; omega⟩)
    have IN0 := Lib.hid (show Blk (wb.alloc (Obj.cells #[Value.bool false, Value.bool false, Value.bool false, Value.bool false, Value.bool false, Value.bool false, Value.bool false, Value.bool false, Value.bool false, Value.bool false, Value.bool false, Value.bool false, Value.bool false, Value.bool false, Value.bool false, Value.bool false, Value.bool false, Value.bool false, Value.bool false, Value.bool false] 38)) 38 wb.heap.size (inA (ps.take 0)) from Blk.new _ _ _)
    have L0 := Lib.hid (wbox wb (Obj.cells #[Value.bool false, Value.bool false, Value.bool false, Value.bool false, Value.bool false, Value.bool false, Value.bool false, Value.bool false, Value.bool false, Value.bool false, Value.bool false, Value.bool false, Value.bool false, Value.bool false, Value.bool false, Value.bool false, Value.bool false, Value.bool false, Value.bool false, Value.bool false] 38))
    obtain ⟨gi, hgi⟩ : ∃ gi, wb.heap.size = gi := ⟨_, rfl⟩
    have lp25 : lp ≤ 20 := by omega
    by_cases big : m < kk
    · have t1 : decide (m < kk) = true := by simp; omega
      have t2 : decide ((m : Int) < (kk : Int)) = true := by simp; omega
      have lm : lp = m := by omega
      clear lpe
      have u1 : ((lp : Int) != (m : Int)) = false := by simp; omega
      have u2 : (lp != m) = false := by simp; omega
      clear lm
      go_wp2
      obtain ⟨W1, hW1⟩ : ∃ W1, wb.alloc (Obj.cells #[Value.bool false, Value.bool false, Value.bool false, Value.bool false, Value.bool false, Value.bool false, Value.bool false, Value.bool false, Value.bool false, Value.bool false, Value.bool false, Value.bool false, Value.bool false, Value.bool false, Value.bool false, Value.bool false, Value.bool false, Value.bool false, Value.bool false, Value.bool false] 38) = W1 := ⟨_, rfl⟩
      rw [hW1] at IN0 L0
      rw [hW1]
      clear hW1
      have GB := Lib.hid (show wb.heap.size ≤ gi by rw [hgi]; exact Nat.le_refl _)
      rw [hgi] at IN0
      go_loopw [12] (fun u wr => ∃ i : Nat, u = .int .i64 i ∧ i ≤ lp ∧ Blk wr 38 gi (inA (ps.take i)) ∧ Below wb.heap.size wb wr) (fun u _ => lp - (intOf u).toNat)
      case atStart => exact ⟨0, rfl, by omega, IN0.out, L0.out⟩
      case round =>
        obtain ⟨i, rfl, il, hin, hbel⟩ := hrel
        have IN := Lib.hid hin
        have BE := Lib.hid hbel
        clear hin hbel
        by_cases go2 : i < lp
        · have b3 : decide (i < lp) = true := by simp; omega
          have b4 : decide ((i : Int) < (lp : Int)) = true := by simp; omega
          obtain ⟨x, hx, _, _⟩ := getE (es := ps) (i := i) (by rw [LP.out]; exact go2)
          obtain ⟨t, xt, t20⟩ := IP.out i x hx
          have SN := Lib.hid (show (inA (ps.take i)).setIfInBounds t (.bool true) = inA (ps.take (i + 1)) by rw [inA_snoc _ x t xt t20, List.take_add_one, hx]; rfl)
          obtain ⟨bp, op, rfl, hxp⟩ := (RP.out.below BE.out).at hx
          have c0 := hxp.c0
          rw [xt] at c0
          have ia := (IN.out.cell t).trans (inA_at (ps.take i) t t20)
          obtain ⟨bb, hbb⟩ : ∃ bb, (ps.take i).any (fun x => decide (x.id = (t : Int))) = bb := ⟨_, rfl⟩
          rw [hbb] at ia
          have fr := IN.out.free t
          have i1 : (i : Int) < (lp : Int) := by omega
          have i2 : 0 ≤ (i : Int) := by omega
          have j1 : (t : Int) < 20 := by omega
          have j2 : 0 ≤ (t : Int) := by omega
          have t3 : decide ((t : Int) < 0) = false := decide_eq_false (by omega)
          have t4 : decide (19 < (t : Int)) = false := decide_eq_false (by omega)
          have t5 : decide (19 < t) = false := decide_eq_false (by omega)
          clear hx hxp xt hbb
          go_wp2
          go_roundw
          case rel => exact ⟨i + 1, by go_num, by omega, by rw [← SN.out]; exact IN.out.setB t _, BE.out.setCell (show wb.heap.size ≤ (⟨gi, t, none⟩ : Addr).block from GB.out) _⟩
          case measure => simp [intOf]; omega
        have b3 : decide (i < lp) = false := by simp; omega
        have b4 : decide ((i : Int) < (lp : Int)) = false := by simp; omega
        have IN := Lib.hid (show Blk wr 38 gi (inA ps) by have := IN.out; rw [List.take_of_length_le (by rw [LP.out]; omega)] at this; exact this)
        have RP := Lib.hid (RP.out.below BE.out)
        have RM := Lib.hid (RM.out.below BE.out)
        have B := Lib.hid (below_next B.out BE.out)
        obtain ⟨wc, hwc⟩ : ∃ wc, wc = wr := ⟨_, rfl⟩
        rw [← hwc] at IN RP RM B ⊢
        clear BE IN0 L0 hwc
        go_wp2
        go_loopw [13] (fun u wr => ∃ i : Nat, u = .int .i64 i ∧ i ≤ m ∧ Below wc.heap.size wc wr) (fun u _ => m - (intOf u).toNat)
        case atStart => exact ⟨0, rfl, by omega, Below.refl _ _⟩
        case round =>
          obtain ⟨i, rfl, il, hbel⟩ := hrel
          have BE := Lib.hid hbel
          clear hbel
          by_cases go3 : i < m
          · have b5 : decide (i < m) = true := by simp; omega
            have b6 : decide ((i : Int) < (m : Int)) = true := by simp; omega
            obtain ⟨x, hx, _, _⟩ := getE (es := ms) (i := i) (by rw [LL.out]; exact go3)
            have xi := ID.out i x hx
            have HX := Lib.hid hx
            have i1 : (i : Int) < (m : Int) := by omega
            have i2 : 0 ≤ (i : Int) := by omega
            have i3 : (i : Int) < 20 := by omega
            have ia := (inA_at ps i (by omega))
            obtain ⟨bb, hbb⟩ : ∃ bb, ps.any (fun x => decide (x.id = (i : Int))) = bb := ⟨_, rfl⟩
            rw [hbb] at ia
            have HIA := Lib.hid ia
            have HBB := Lib.hid hbb
            have HXI := Lib.hid xi
            clear hx ia hbb xi
            obtain ⟨wd, hwd⟩ : ∃ wd, wd = wr := ⟨_, rfl⟩
            rw [← hwd] at BE ⊢
            clear hwd
            go_wp2
            go_loopw [14] (fun u wr => ∃ j : Nat, u = .int .i64 j ∧ j ≤ lp ∧ Below wc.heap.size wc wr) (fun u _ => lp - (intOf u).toNat)
            case atStart => exact ⟨0, rfl, by omega, BE.out⟩
            case round =>
              obtain ⟨j, rfl, jl, hbel⟩ := hrel
              clear BE
              have BE := Lib.hid hbel
              clear hbel
              by_cases go4 : j < lp
              · have b7 : decide (j < lp) = true := by simp; omega
                have b8 : decide ((j : Int) < (lp : Int)) = true := by simp; omega
                have k1' : (j : Int) < (lp : Int) := by omega
                have k2' : 0 ≤ (j : Int) := by omega
                obtain ⟨y, hy, _, _⟩ := getE (es := ps) (i := j) (by rw [LP.out]; exact go4)
                obtain ⟨bm, om, ham, hxm⟩ := RM.out.at HX.out
                obtain ⟨bp, op, hap, hyp⟩ := RP.out.at hy
                subst ham hap
                have XM := Lib.hid (hxm.below BE.out).drew
                have YP := Lib.hid (hyp.below BE.out).drew
                have IQ := Lib.hid (show Blk wr.drew 38 gi (inA ps) from (IN.out.below BE.out).drew)
                have BE := Lib.hid BE.out.drew
                clear hxm hyp
                cases bb with
                | true =>
                  clear hy
                  go_upto_region 27 with fail
                  have KEPT := Lib.hid (show ∀ w' : World, Below wr.drew.heap.size wr.drew w' → w'.cell? ⟨gi, i, none⟩ = some (.bool true) from fun w' h => ((IQ.out.below h).cell i).trans HIA.out)
                  have BL := Lib.hid (Below.refl wr.drew.heap.size wr.drew)
                  refine wp_region_noPanic ?_
                  refine wp_region_held_drew (S := fun w' => w'.cell? ⟨gi, i, none⟩ = some (.bool true)) (by kernel_rfl) (KEPT.out _ BL.out) (fun hHeld => ?_)
                  refine' takeY (i := 0) (oi := _) (v := _) ?hiau0 (by kernel_rfl) (by kernel_rfl) (by kernel_rfl) (fun _ _ _ h => h) ?hwau0 ?hyau0 hHeld ?restau0
                  case hiau0 => (simp only [List.getElem?_toArray, List.getElem?_cons_zero]; rfl)
                  case hwau0 => rfl
                  case hyau0 => (intro w hSw; (try dsimp only at hSw); go_simp; try with_reducible rfl)
                  try simp only [Act.put, List.setIfInBounds_toArray, List.set_cons_zero, List.set_cons_succ]
                  refine' takeY (i := 1) (oi := _) (v := _) ?hiau1 (by kernel_rfl) (by kernel_rfl) (by kernel_rfl) (fun _ _ _ h => h) ?hwau1 ?hyau1 hHeld ?restau1
                  case hiau1 => (simp only [List.getElem?_toArray, List.getElem?_cons_succ, List.getElem?_cons_zero]; rfl)
                  case hwau1 => rfl
                  case hyau1 => (intro w hSw; (try dsimp only at hSw); go_simp; try with_reducible rfl)
                  try simp only [Act.put, List.setIfInBounds_toArray, List.set_cons_zero, List.set_cons_succ]
                  refine' takeY (i := 2) (oi := _) (v := _) ?hiau2 (by kernel_rfl) (by kernel_rfl) (by kernel_rfl) (fun _ _ _ h => h) ?hwau2 ?hyau2 hHeld ?restau2
                  case hiau2 => (simp only [List.getElem?_toArray, List.getElem?_cons_succ, List.getElem?_cons_zero]; rfl)
                  case hwau2 => rfl
                  case hyau2 => (intro w hSw; (try dsimp only at hSw); go_simp; try with_reducible rfl)
                  try simp only [Act.put, List.setIfInBounds_toArray, List.set_cons_zero, List.set_cons_succ]
                  refine' takeY (i := 3) (oi := _) (v := _) ?hiau3 (by kernel_rfl) (by kernel_rfl) (by kernel_rfl) (fun _ _ _ h => h) ?hwau3 ?hyau3 hHeld ?restau3
                  case hiau3 => (simp only [List.getElem?_toArray, List.getElem?_cons_succ, List.getElem?_cons_zero]; rfl)
                  case hwau3 => rfl
                  case hyau3 => (intro w hSw; (try dsimp only at hSw); go_simp; try with_reducible rfl)
                  try simp only [Act.put, List.setIfInBounds_toArray, List.set_cons_zero, List.set_cons_succ]
                  refine' takeY (i := 4) (oi := _) (v := _) ?hiau4 (by kernel_rfl) (by kernel_rfl) (by kernel_rfl) (fun _ _ _ h => h) ?hwau4 ?hyau4 hHeld ?restau4
                  case hiau4 => (simp only [List.getElem?_toArray, List.getElem?_cons_succ, List.getElem?_cons_zero]; rfl)
                  case hwau4 => rfl
                  case hyau4 => (intro w hSw; (try dsimp only at hSw); go_simp; try with_reducible rfl)
                  try simp only [Act.put, List.setIfInBounds_toArray, List.set_cons_zero, List.set_cons_succ]
                  refine' takeN (i := 5) (oi := _) ?hiau5 (by kernel_rfl) (by kernel_rfl) (by kernel_rfl) (fun _ _ _ h => h) ?hwau5 hHeld ?restau5
                  case hiau5 => (simp only [List.getElem?_toArray, List.getElem?_cons_succ, List.getElem?_cons_zero]; rfl)
                  case hwau5 => rfl
                  try simp only [Act.put, List.setIfInBounds_toArray, List.set_cons_zero, List.set_cons_succ]
                  refine' takeN (i := 6) (oi := _) ?hiau6 (by kernel_rfl) (by kernel_rfl) (by kernel_rfl) (fun _ _ _ h => h) ?hwau6 hHeld ?restau6
                  case hiau6 => (simp only [List.getElem?_toArray, List.getElem?_cons_succ, List.getElem?_cons_zero]; rfl)
                  case hwau6 => rfl
                  try simp only [Act.put, List.setIfInBounds_toArray, List.set_cons_zero, List.set_cons_succ]
                  refine' takeN (i := 7) (oi := _) ?hiau7 (by kernel_rfl) (by kernel_rfl) (by kernel_rfl) (fun _ _ _ h => h) ?hwau7 hHeld ?restau7
                  case hiau7 => (simp only [List.getElem?_toArray, List.getElem?_cons_succ, List.getElem?_cons_zero]; rfl)
                  case hwau7 => rfl
                  try simp only [Act.put, List.setIfInBounds_toArray, List.set_cons_zero, List.set_cons_succ]
                  refine' takeN (i := 8) (oi := _) ?hiau8 (by kernel_rfl) (by kernel_rfl) (by kernel_rfl) (fun _ _ _ h => h) ?hwau8 hHeld ?restau8
                  case hiau8 => (simp only [List.getElem?_toArray, List.getElem?_cons_succ, List.getElem?_cons_zero]; rfl)
                  case hwau8 => rfl
                  try simp only [Act.put, List.setIfInBounds_toArray, List.set_cons_zero, List.set_cons_succ]
                  refine' takeN (i := 9) (oi := _) ?hiau9 (by kernel_rfl) (by kernel_rfl) (by kernel_rfl) (fun _ _ _ h => h) ?hwau9 hHeld ?restau9
                  case hiau9 => (simp only [List.getElem?_toArray, List.getElem?_cons_succ, List.getElem?_cons_zero]; rfl)
                  case hwau9 => rfl
                  try simp only [Act.put, List.setIfInBounds_toArray, List.set_cons_zero, List.set_cons_succ]
                  refine' takeN (i := 10) (oi := _) ?hiau10 (by kernel_rfl) (by kernel_rfl) (by kernel_rfl) (fun _ _ _ h => h) ?hwau10 hHeld ?restau10
                  case hiau10 => (simp only [List.getElem?_toArray, List.getElem?_cons_succ, List.getElem?_cons_zero]; rfl)
                  case hwau10 => rfl
                  try simp only [Act.put, List.setIfInBounds_toArray, List.set_cons_zero, List.set_cons_succ]
                  refine' takeN (i := 11) (oi := _) ?hiau11 (by kernel_rfl) (by kernel_rfl) (by kernel_rfl) (fun _ _ _ h => h) ?hwau11 hHeld ?restau11
                  case hiau11 => (simp only [List.getElem?_toArray, List.getElem?_cons_succ, List.getElem?_cons_zero]; rfl)
                  case hwau11 => rfl
                  try simp only [Act.put, List.setIfInBounds_toArray, List.set_cons_zero, List.set_cons_succ]
                  refine' takeN (i := 12) (oi := _) ?hiau12 (by kernel_rfl) (by kernel_rfl) (by kernel_rfl) (fun _ _ _ h => h) ?hwau12 hHeld ?restau12
                  case hiau12 => (simp only [List.getElem?_toArray, List.getElem?_cons_succ, List.getElem?_cons_zero]; rfl)
                  case hwau12 => rfl
                  try simp only [Act.put, List.setIfInBounds_toArray, List.set_cons_zero, List.set_cons_succ]
                  refine' takeN (i := 13) (oi := _) ?hiau13 (by kernel_rfl) (by kernel_rfl) (by kernel_rfl) (fun _ _ _ h => h) ?hwau13 hHeld ?restau13
                  case hiau13 => (simp only [List.getElem?_toArray, List.getElem?_cons_succ, List.getElem?_cons_zero]; rfl)
                  case hwau13 => rfl
                  try simp only [Act.put, List.setIfInBounds_toArray, List.set_cons_zero, List.set_cons_succ]
                  refine' takeY (i := 14) (oi := _) (v := _) ?hiau14 (by kernel_rfl) (by kernel_rfl) (by kernel_rfl) (fun _ _ _ h => h) ?hwau14 ?hyau14 hHeld ?restau14
                  case hiau14 => (simp only [List.getElem?_toArray, List.getElem?_cons_succ, List.getElem?_cons_zero]; rfl)
                  case hwau14 => rfl
                  case hyau14 => (intro w hSw; (try dsimp only at hSw); go_simp; try with_reducible rfl)
                  try simp only [Act.put, List.setIfInBounds_toArray, List.set_cons_zero, List.set_cons_succ]
                  refine wpAnyH_done (by kernel_rfl) ?_ _
                  refine NoPanic.normal ?_
                  go_wp2
                  go_roundw
                  case rel => exact ⟨j + 1, by go_num, by omega, below_next BE.out BL.out⟩
                  case measure => simp [intOf]; omega
                | false =>
                  have VL := Lib.hid (picked HX.out (by rw [PS.out, HXI.out]; exact HBB.out) (by rw [PS.out]; exact hy))
                  clear hy
                  go_upto_region 27 with fail
                  have KEPT := Lib.hid (show ∀ w' : World, Below wr.drew.heap.size wr.drew w' → w'.cell? ⟨gi, i, none⟩ = some (.bool false) ∧ w'.cell? ⟨bm, om + i * 6, none⟩ = some (.int .i64 x.id) ∧ w'.cell? ⟨bm, om + i * 6 + 1, none⟩ = some (.int .i64 x.idx) ∧ w'.cell? ⟨bm, om + i * 6 + 2, none⟩ = some (.int .i64 x.rel) ∧ w'.cell? ⟨bm, om + i * 6 + 3, none⟩ = some (.int .i64 x.dl) ∧ w'.cell? ⟨bm, om + i * 6 + 4, none⟩ = some (.int .i64 x.bit) ∧ w'.cell? ⟨bm, om + i * 6 + 5, none⟩ = some (.int .i64 x.grp) ∧ w'.cell? ⟨bp, op + j * 6, none⟩ = some (.int .i64 y.id) ∧ w'.cell? ⟨bp, op + j * 6 + 1, none⟩ = some (.int .i64 y.idx) ∧ w'.cell? ⟨bp, op + j * 6 + 2, none⟩ = some (.int .i64 y.rel) ∧ w'.cell? ⟨bp, op + j * 6 + 3, none⟩ = some (.int .i64 y.dl) ∧ w'.cell? ⟨bp, op + j * 6 + 4, none⟩ = some (.int .i64 y.bit) ∧ w'.cell? ⟨bp, op + j * 6 + 5, none⟩ = some (.int .i64 y.grp) from fun w' h => ⟨((IQ.out.below h).cell i).trans HIA.out, (XM.out.below h).c0, (XM.out.below h).c1, (XM.out.below h).c2, (XM.out.below h).c3, (XM.out.below h).c4, (XM.out.below h).c5, (YP.out.below h).c0, (YP.out.below h).c1, (YP.out.below h).c2, (YP.out.below h).c3, (YP.out.below h).c4, (YP.out.below h).c5⟩)
                  have BL := Lib.hid (Below.refl wr.drew.heap.size wr.drew)
                  refine wp_region_noPanic ?_
                  refine wp_region_held_drew (S := fun w' => w'.cell? ⟨gi, i, none⟩ = some (.bool false) ∧ w'.cell? ⟨bm, om + i * 6, none⟩ = some (.int .i64 x.id) ∧ w'.cell? ⟨bm, om + i * 6 + 1, none⟩ = some (.int .i64 x.idx) ∧ w'.cell? ⟨bm, om + i * 6 + 2, none⟩ = some (.int .i64 x.rel) ∧ w'.cell? ⟨bm, om + i * 6 + 3, none⟩ = some (.int .i64 x.dl) ∧ w'.cell? ⟨bm, om + i * 6 + 4, none⟩ = some (.int .i64 x.bit) ∧ w'.cell? ⟨bm, om + i * 6 + 5, none⟩ = some (.int .i64 x.grp) ∧ w'.cell? ⟨bp, op + j * 6, none⟩ = some (.int .i64 y.id) ∧ w'.cell? ⟨bp, op + j * 6 + 1, none⟩ = some (.int .i64 y.idx) ∧ w'.cell? ⟨bp, op + j * 6 + 2, none⟩ = some (.int .i64 y.rel) ∧ w'.cell? ⟨bp, op + j * 6 + 3, none⟩ = some (.int .i64 y.dl) ∧ w'.cell? ⟨bp, op + j * 6 + 4, none⟩ = some (.int .i64 y.bit) ∧ w'.cell? ⟨bp, op + j * 6 + 5, none⟩ = some (.int .i64 y.grp)) (by kernel_rfl) (KEPT.out _ BL.out) (fun hHeld => ?_)
                  refine' takeY (i := 0) (oi := _) (v := _) ?hiav0 (by kernel_rfl) (by kernel_rfl) (by kernel_rfl) (fun _ _ _ h => h) ?hwav0 ?hyav0 hHeld ?restav0
                  case hiav0 => (simp only [List.getElem?_toArray, List.getElem?_cons_zero]; rfl)
                  case hwav0 => rfl
                  case hyav0 => (intro w hSw; (try dsimp only at hSw); go_simp; try with_reducible rfl)
                  try simp only [Act.put, List.setIfInBounds_toArray, List.set_cons_zero, List.set_cons_succ]
                  refine' takeY (i := 1) (oi := _) (v := _) ?hiav1 (by kernel_rfl) (by kernel_rfl) (by kernel_rfl) (fun _ _ _ h => h) ?hwav1 ?hyav1 hHeld ?restav1
                  case hiav1 => (simp only [List.getElem?_toArray, List.getElem?_cons_succ, List.getElem?_cons_zero]; rfl)
                  case hwav1 => rfl
                  case hyav1 => (intro w hSw; (try dsimp only at hSw); go_simp; try with_reducible rfl)
                  try simp only [Act.put, List.setIfInBounds_toArray, List.set_cons_zero, List.set_cons_succ]
                  refine' takeY (i := 2) (oi := _) (v := _) ?hiav2 (by kernel_rfl) (by kernel_rfl) (by kernel_rfl) (fun _ _ _ h => h) ?hwav2 ?hyav2 hHeld ?restav2
                  case hiav2 => (simp only [List.getElem?_toArray, List.getElem?_cons_succ, List.getElem?_cons_zero]; rfl)
                  case hwav2 => rfl
                  case hyav2 => (intro w hSw; (try dsimp only at hSw); go_simp; try with_reducible rfl)
                  try simp only [Act.put, List.setIfInBounds_toArray, List.set_cons_zero, List.set_cons_succ]
                  refine' takeY (i := 3) (oi := _) (v := _) ?hiav3 (by kernel_rfl) (by kernel_rfl) (by kernel_rfl) (fun _ _ _ h => h) ?hwav3 ?hyav3 hHeld ?restav3
                  case hiav3 => (simp only [List.getElem?_toArray, List.getElem?_cons_succ, List.getElem?_cons_zero]; rfl)
                  case hwav3 => rfl
                  case hyav3 => (intro w hSw; (try dsimp only at hSw); go_simp; try with_reducible rfl)
                  try simp only [Act.put, List.setIfInBounds_toArray, List.set_cons_zero, List.set_cons_succ]
                  refine' takeY (i := 4) (oi := _) (v := _) ?hiav4 (by kernel_rfl) (by kernel_rfl) (by kernel_rfl) (fun _ _ _ h => h) ?hwav4 ?hyav4 hHeld ?restav4
                  case hiav4 => (simp only [List.getElem?_toArray, List.getElem?_cons_succ, List.getElem?_cons_zero]; rfl)
                  case hwav4 => rfl
                  case hyav4 => (intro w hSw; (try dsimp only at hSw); go_simp; try with_reducible rfl)
                  try simp only [Act.put, List.setIfInBounds_toArray, List.set_cons_zero, List.set_cons_succ]
                  refine' takeY (i := 5) (oi := _) (v := _) ?hiav5 (by kernel_rfl) (by kernel_rfl) (by kernel_rfl) (fun _ _ _ h => h) ?hwav5 ?hyav5 hHeld ?restav5
                  case hiav5 => (simp only [List.getElem?_toArray, List.getElem?_cons_succ, List.getElem?_cons_zero]; rfl)
                  case hwav5 => rfl
                  case hyav5 => (intro w hSw; (try dsimp only at hSw); go_simp; try with_reducible rfl)
                  try simp only [Act.put, List.setIfInBounds_toArray, List.set_cons_zero, List.set_cons_succ]
                  refine' takeY (i := 6) (oi := _) (v := _) ?hiav6 (by kernel_rfl) (by kernel_rfl) (by kernel_rfl) (fun _ _ _ h => h) ?hwav6 ?hyav6 hHeld ?restav6
                  case hiav6 => (simp only [List.getElem?_toArray, List.getElem?_cons_succ, List.getElem?_cons_zero]; rfl)
                  case hwav6 => rfl
                  case hyav6 => (intro w hSw; (try dsimp only at hSw); go_simp; try with_reducible rfl)
                  try simp only [Act.put, List.setIfInBounds_toArray, List.set_cons_zero, List.set_cons_succ]
                  refine' takeY (i := 7) (oi := _) (v := _) ?hiav7 (by kernel_rfl) (by kernel_rfl) (by kernel_rfl) (fun _ _ _ h => h) ?hwav7 ?hyav7 hHeld ?restav7
                  case hiav7 => (simp only [List.getElem?_toArray, List.getElem?_cons_succ, List.getElem?_cons_zero]; rfl)
                  case hwav7 => rfl
                  case hyav7 => (intro w hSw; (try dsimp only at hSw); go_simp; try with_reducible rfl)
                  try simp only [Act.put, List.setIfInBounds_toArray, List.set_cons_zero, List.set_cons_succ]
                  refine' takeY (i := 8) (oi := _) (v := _) ?hiav8 (by kernel_rfl) (by kernel_rfl) (by kernel_rfl) (fun _ _ _ h => h) ?hwav8 ?hyav8 hHeld ?restav8
                  case hiav8 => (simp only [List.getElem?_toArray, List.getElem?_cons_succ, List.getElem?_cons_zero]; rfl)
                  case hwav8 => rfl
                  case hyav8 => (intro w hSw; (try dsimp only at hSw); go_simp; try with_reducible rfl)
                  try simp only [Act.put, List.setIfInBounds_toArray, List.set_cons_zero, List.set_cons_succ]
                  refine' takeY (i := 9) (oi := _) (v := _) ?hiav9 (by kernel_rfl) (by kernel_rfl) (by kernel_rfl) (fun _ _ _ h => h) ?hwav9 ?hyav9 hHeld ?restav9
                  case hiav9 => (simp only [List.getElem?_toArray, List.getElem?_cons_succ, List.getElem?_cons_zero]; rfl)
                  case hwav9 => rfl
                  case hyav9 => (intro w hSw; (try dsimp only at hSw); go_simp; try with_reducible rfl)
                  try simp only [Act.put, List.setIfInBounds_toArray, List.set_cons_zero, List.set_cons_succ]
                  refine' takeY (i := 10) (oi := _) (v := _) ?hiav10 (by kernel_rfl) (by kernel_rfl) (by kernel_rfl) (fun _ _ _ h => h) ?hwav10 ?hyav10 hHeld ?restav10
                  case hiav10 => (simp only [List.getElem?_toArray, List.getElem?_cons_succ, List.getElem?_cons_zero]; rfl)
                  case hwav10 => rfl
                  case hyav10 => (intro w hSw; (try dsimp only at hSw); go_simp; try with_reducible rfl)
                  try simp only [Act.put, List.setIfInBounds_toArray, List.set_cons_zero, List.set_cons_succ]
                  refine' takeY (i := 11) (oi := _) (v := _) ?hiav11 (by kernel_rfl) (by kernel_rfl) (by kernel_rfl) (fun _ _ _ h => h) ?hwav11 ?hyav11 hHeld ?restav11
                  case hiav11 => (simp only [List.getElem?_toArray, List.getElem?_cons_succ, List.getElem?_cons_zero]; rfl)
                  case hwav11 => rfl
                  case hyav11 => (intro w hSw; (try dsimp only at hSw); go_simp; try with_reducible rfl)
                  try simp only [Act.put, List.setIfInBounds_toArray, List.set_cons_zero, List.set_cons_succ]
                  refine' takeY (i := 12) (oi := _) (v := _) ?hiav12 (by kernel_rfl) (by kernel_rfl) (by kernel_rfl) (fun _ _ _ h => h) ?hwav12 ?hyav12 hHeld ?restav12
                  case hiav12 => (simp only [List.getElem?_toArray, List.getElem?_cons_succ, List.getElem?_cons_zero]; rfl)
                  case hwav12 => rfl
                  case hyav12 => (intro w hSw; (try dsimp only at hSw); go_simp; try with_reducible rfl)
                  try simp only [Act.put, List.setIfInBounds_toArray, List.set_cons_zero, List.set_cons_succ]
                  refine wpAnyH_ready (rs := [13]) (by kernel_rfl) (by simp) ?_
                  refine' AllReadyH.cons (o := _) ?hiav13 (fun K hK => ?stepav13) AllReadyH.nil
                  case hiav13 => (simp only [List.getElem?_toArray, List.getElem?_cons_succ, List.getElem?_cons_zero]; rfl)
                  go_simp
                  (go_at_call 18; (with_reducible refine (pless_at x y _ _ VL.out).mono ?_); rintro e w5 ⟨rfl, hb⟩; have BL := Lib.hid (below_next BL.out hb); clear hb)
                  go_wp2_with fail
                  clear hHeld
                  refine hK.out _ _ (KEPT.out _ BL.out) (fun hHeld => ?_)
                  clear hK K
                  try simp only [Act.put, List.setIfInBounds_toArray, List.set_cons_zero, List.set_cons_succ]
                  refine' takeY (i := 14) (oi := _) (v := _) ?hiav14 (by kernel_rfl) (by kernel_rfl) (by kernel_rfl) (fun _ _ _ h => h) ?hwav14 ?hyav14 hHeld ?restav14
                  case hiav14 => (simp only [List.getElem?_toArray, List.getElem?_cons_succ, List.getElem?_cons_zero]; rfl)
                  case hwav14 => rfl
                  case hyav14 => (intro w hSw; (try dsimp only at hSw); go_simp; try with_reducible rfl)
                  try simp only [Act.put, List.setIfInBounds_toArray, List.set_cons_zero, List.set_cons_succ]
                  refine wpAnyH_done (by kernel_rfl) ?_ _
                  refine NoPanic.normal ?_
                  go_wp2
                  go_roundw
                  case rel => exact ⟨j + 1, by go_num, by omega, below_next BE.out BL.out⟩
                  case measure => simp [intOf]; omega
              have b7 : decide (j < lp) = false := by simp; omega
              have b8 : decide ((j : Int) < (lp : Int)) = false := by simp; omega
              go_wp2
              go_roundw
              case rel => exact ⟨i + 1, by go_num, by omega, BE.out⟩
              case measure => simp [intOf]; omega
          have b5 : decide (i < m) = false := by simp; omega
          have b6 : decide ((i : Int) < (m : Int)) = false := by simp; omega
          go_wp2
          go_ret
          exact ⟨rfl, below_next B.out BE.out⟩
    · have t1 : decide (m < kk) = false := by simp; omega
      have t2 : decide ((m : Int) < (kk : Int)) = false := by simp; omega
      have lm : lp = kk := by omega
      clear lpe
      have u1 : ((lp : Int) != (kk : Int)) = false := by simp; omega
      have u2 : (lp != kk) = false := by simp; omega
      clear lm
      go_wp2
      obtain ⟨W1, hW1⟩ : ∃ W1, wb.alloc (Obj.cells #[Value.bool false, Value.bool false, Value.bool false, Value.bool false, Value.bool false, Value.bool false, Value.bool false, Value.bool false, Value.bool false, Value.bool false, Value.bool false, Value.bool false, Value.bool false, Value.bool false, Value.bool false, Value.bool false, Value.bool false, Value.bool false, Value.bool false, Value.bool false] 38) = W1 := ⟨_, rfl⟩
      rw [hW1] at IN0 L0
      rw [hW1]
      clear hW1
      have GB := Lib.hid (show wb.heap.size ≤ gi by rw [hgi]; exact Nat.le_refl _)
      rw [hgi] at IN0
      go_loopw [12] (fun u wr => ∃ i : Nat, u = .int .i64 i ∧ i ≤ lp ∧ Blk wr 38 gi (inA (ps.take i)) ∧ Below wb.heap.size wb wr) (fun u _ => lp - (intOf u).toNat)
      case atStart => exact ⟨0, rfl, by omega, IN0.out, L0.out⟩
      case round =>
        obtain ⟨i, rfl, il, hin, hbel⟩ := hrel
        have IN := Lib.hid hin
        have BE := Lib.hid hbel
        clear hin hbel
        by_cases go2 : i < lp
        · have b3 : decide (i < lp) = true := by simp; omega
          have b4 : decide ((i : Int) < (lp : Int)) = true := by simp; omega
          obtain ⟨x, hx, _, _⟩ := getE (es := ps) (i := i) (by rw [LP.out]; exact go2)
          obtain ⟨t, xt, t20⟩ := IP.out i x hx
          have SN := Lib.hid (show (inA (ps.take i)).setIfInBounds t (.bool true) = inA (ps.take (i + 1)) by rw [inA_snoc _ x t xt t20, List.take_add_one, hx]; rfl)
          obtain ⟨bp, op, rfl, hxp⟩ := (RP.out.below BE.out).at hx
          have c0 := hxp.c0
          rw [xt] at c0
          have ia := (IN.out.cell t).trans (inA_at (ps.take i) t t20)
          obtain ⟨bb, hbb⟩ : ∃ bb, (ps.take i).any (fun x => decide (x.id = (t : Int))) = bb := ⟨_, rfl⟩
          rw [hbb] at ia
          have fr := IN.out.free t
          have i1 : (i : Int) < (lp : Int) := by omega
          have i2 : 0 ≤ (i : Int) := by omega
          have j1 : (t : Int) < 20 := by omega
          have j2 : 0 ≤ (t : Int) := by omega
          have t3 : decide ((t : Int) < 0) = false := decide_eq_false (by omega)
          have t4 : decide (19 < (t : Int)) = false := decide_eq_false (by omega)
          have t5 : decide (19 < t) = false := decide_eq_false (by omega)
          clear hx hxp xt hbb
          go_wp2
          go_roundw
          case rel => exact ⟨i + 1, by go_num, by omega, by rw [← SN.out]; exact IN.out.setB t _, BE.out.setCell (show wb.heap.size ≤ (⟨gi, t, none⟩ : Addr).block from GB.out) _⟩
          case measure => simp [intOf]; omega
        have b3 : decide (i < lp) = false := by simp; omega
        have b4 : decide ((i : Int) < (lp : Int)) = false := by simp; omega
        have IN := Lib.hid (show Blk wr 38 gi (inA ps) by have := IN.out; rw [List.take_of_length_le (by rw [LP.out]; omega)] at this; exact this)
        have RP := Lib.hid (RP.out.below BE.out)
        have RM := Lib.hid (RM.out.below BE.out)
        have B := Lib.hid (below_next B.out BE.out)
        obtain ⟨wc, hwc⟩ : ∃ wc, wc = wr := ⟨_, rfl⟩
        rw [← hwc] at IN RP RM B ⊢
        clear BE IN0 L0 hwc
        go_wp2
        go_loopw [13] (fun u wr => ∃ i : Nat, u = .int .i64 i ∧ i ≤ m ∧ Below wc.heap.size wc wr) (fun u _ => m - (intOf u).toNat)
        case atStart => exact ⟨0, rfl, by omega, Below.refl _ _⟩
        case round =>
          obtain ⟨i, rfl, il, hbel⟩ := hrel
          have BE := Lib.hid hbel
          clear hbel
          by_cases go3 : i < m
          · have b5 : decide (i < m) = true := by simp; omega
            have b6 : decide ((i : Int) < (m : Int)) = true := by simp; omega
            obtain ⟨x, hx, _, _⟩ := getE (es := ms) (i := i) (by rw [LL.out]; exact go3)
            have xi := ID.out i x hx
            have HX := Lib.hid hx
            have i1 : (i : Int) < (m : Int) := by omega
            have i2 : 0 ≤ (i : Int) := by omega
            have i3 : (i : Int) < 20 := by omega
            have ia := (inA_at ps i (by omega))
            obtain ⟨bb, hbb⟩ : ∃ bb, ps.any (fun x => decide (x.id = (i : Int))) = bb := ⟨_, rfl⟩
            rw [hbb] at ia
            have HIA := Lib.hid ia
            have HBB := Lib.hid hbb
            have HXI := Lib.hid xi
            clear hx ia hbb xi
            obtain ⟨wd, hwd⟩ : ∃ wd, wd = wr := ⟨_, rfl⟩
            rw [← hwd] at BE ⊢
            clear hwd
            go_wp2
            go_loopw [14] (fun u wr => ∃ j : Nat, u = .int .i64 j ∧ j ≤ lp ∧ Below wc.heap.size wc wr) (fun u _ => lp - (intOf u).toNat)
            case atStart => exact ⟨0, rfl, by omega, BE.out⟩
            case round =>
              obtain ⟨j, rfl, jl, hbel⟩ := hrel
              clear BE
              have BE := Lib.hid hbel
              clear hbel
              by_cases go4 : j < lp
              · have b7 : decide (j < lp) = true := by simp; omega
                have b8 : decide ((j : Int) < (lp : Int)) = true := by simp; omega
                have k1' : (j : Int) < (lp : Int) := by omega
                have k2' : 0 ≤ (j : Int) := by omega
                obtain ⟨y, hy, _, _⟩ := getE (es := ps) (i := j) (by rw [LP.out]; exact go4)
                obtain ⟨bm, om, ham, hxm⟩ := RM.out.at HX.out
                obtain ⟨bp, op, hap, hyp⟩ := RP.out.at hy
                subst ham hap
                have XM := Lib.hid (hxm.below BE.out).drew
                have YP := Lib.hid (hyp.below BE.out).drew
                have IQ := Lib.hid (show Blk wr.drew 38 gi (inA ps) from (IN.out.below BE.out).drew)
                have BE := Lib.hid BE.out.drew
                clear hxm hyp
                cases bb with
                | true =>
                  clear hy
                  go_upto_region 27 with fail
                  have KEPT := Lib.hid (show ∀ w' : World, Below wr.drew.heap.size wr.drew w' → w'.cell? ⟨gi, i, none⟩ = some (.bool true) from fun w' h => ((IQ.out.below h).cell i).trans HIA.out)
                  have BL := Lib.hid (Below.refl wr.drew.heap.size wr.drew)
                  refine wp_region_noPanic ?_
                  refine wp_region_held_drew (S := fun w' => w'.cell? ⟨gi, i, none⟩ = some (.bool true)) (by kernel_rfl) (KEPT.out _ BL.out) (fun hHeld => ?_)
                  refine' takeY (i := 0) (oi := _) (v := _) ?hibu0 (by kernel_rfl) (by kernel_rfl) (by kernel_rfl) (fun _ _ _ h => h) ?hwbu0 ?hybu0 hHeld ?restbu0
                  case hibu0 => (simp only [List.getElem?_toArray, List.getElem?_cons_zero]; rfl)
                  case hwbu0 => rfl
                  case hybu0 => (intro w hSw; (try dsimp only at hSw); go_simp; try with_reducible rfl)
                  try simp only [Act.put, List.setIfInBounds_toArray, List.set_cons_zero, List.set_cons_succ]
                  refine' takeY (i := 1) (oi := _) (v := _) ?hibu1 (by kernel_rfl) (by kernel_rfl) (by kernel_rfl) (fun _ _ _ h => h) ?hwbu1 ?hybu1 hHeld ?restbu1
                  case hibu1 => (simp only [List.getElem?_toArray, List.getElem?_cons_succ, List.getElem?_cons_zero]; rfl)
                  case hwbu1 => rfl
                  case hybu1 => (intro w hSw; (try dsimp only at hSw); go_simp; try with_reducible rfl)
                  try simp only [Act.put, List.setIfInBounds_toArray, List.set_cons_zero, List.set_cons_succ]
                  refine' takeY (i := 2) (oi := _) (v := _) ?hibu2 (by kernel_rfl) (by kernel_rfl) (by kernel_rfl) (fun _ _ _ h => h) ?hwbu2 ?hybu2 hHeld ?restbu2
                  case hibu2 => (simp only [List.getElem?_toArray, List.getElem?_cons_succ, List.getElem?_cons_zero]; rfl)
                  case hwbu2 => rfl
                  case hybu2 => (intro w hSw; (try dsimp only at hSw); go_simp; try with_reducible rfl)
                  try simp only [Act.put, List.setIfInBounds_toArray, List.set_cons_zero, List.set_cons_succ]
                  refine' takeY (i := 3) (oi := _) (v := _) ?hibu3 (by kernel_rfl) (by kernel_rfl) (by kernel_rfl) (fun _ _ _ h => h) ?hwbu3 ?hybu3 hHeld ?restbu3
                  case hibu3 => (simp only [List.getElem?_toArray, List.getElem?_cons_succ, List.getElem?_cons_zero]; rfl)
                  case hwbu3 => rfl
                  case hybu3 => (intro w hSw; (try dsimp only at hSw); go_simp; try with_reducible rfl)
                  try simp only [Act.put, List.setIfInBounds_toArray, List.set_cons_zero, List.set_cons_succ]
                  refine' takeY (i := 4) (oi := _) (v := _) ?hibu4 (by kernel_rfl) (by kernel_rfl) (by kernel_rfl) (fun _ _ _ h => h) ?hwbu4 ?hybu4 hHeld ?restbu4
                  case hibu4 => (simp only [List.getElem?_toArray, List.getElem?_cons_succ, List.getElem?_cons_zero]; rfl)
                  case hwbu4 => rfl
                  case hybu4 => (intro w hSw; (try dsimp only at hSw); go_simp; try with_reducible rfl)
                  try simp only [Act.put, List.setIfInBounds_toArray, List.set_cons_zero, List.set_cons_succ]
                  refine' takeN (i := 5) (oi := _) ?hibu5 (by kernel_rfl) (by kernel_rfl) (by kernel_rfl) (fun _ _ _ h => h) ?hwbu5 hHeld ?restbu5
                  case hibu5 => (simp only [List.getElem?_toArray, List.getElem?_cons_succ, List.getElem?_cons_zero]; rfl)
                  case hwbu5 => rfl
                  try simp only [Act.put, List.setIfInBounds_toArray, List.set_cons_zero, List.set_cons_succ]
                  refine' takeN (i := 6) (oi := _) ?hibu6 (by kernel_rfl) (by kernel_rfl) (by kernel_rfl) (fun _ _ _ h => h) ?hwbu6 hHeld ?restbu6
                  case hibu6 => (simp only [List.getElem?_toArray, List.getElem?_cons_succ, List.getElem?_cons_zero]; rfl)
                  case hwbu6 => rfl
                  try simp only [Act.put, List.setIfInBounds_toArray, List.set_cons_zero, List.set_cons_succ]
                  refine' takeN (i := 7) (oi := _) ?hibu7 (by kernel_rfl) (by kernel_rfl) (by kernel_rfl) (fun _ _ _ h => h) ?hwbu7 hHeld ?restbu7
                  case hibu7 => (simp only [List.getElem?_toArray, List.getElem?_cons_succ, List.getElem?_cons_zero]; rfl)
                  case hwbu7 => rfl
                  try simp only [Act.put, List.setIfInBounds_toArray, List.set_cons_zero, List.set_cons_succ]
                  refine' takeN (i := 8) (oi := _) ?hibu8 (by kernel_rfl) (by kernel_rfl) (by kernel_rfl) (fun _ _ _ h => h) ?hwbu8 hHeld ?restbu8
                  case hibu8 => (simp only [List.getElem?_toArray, List.getElem?_cons_succ, List.getElem?_cons_zero]; rfl)
                  case hwbu8 => rfl
                  try simp only [Act.put, List.setIfInBounds_toArray, List.set_cons_zero, List.set_cons_succ]
                  refine' takeN (i := 9) (oi := _) ?hibu9 (by kernel_rfl) (by kernel_rfl) (by kernel_rfl) (fun _ _ _ h => h) ?hwbu9 hHeld ?restbu9
                  case hibu9 => (simp only [List.getElem?_toArray, List.getElem?_cons_succ, List.getElem?_cons_zero]; rfl)
                  case hwbu9 => rfl
                  try simp only [Act.put, List.setIfInBounds_toArray, List.set_cons_zero, List.set_cons_succ]
                  refine' takeN (i := 10) (oi := _) ?hibu10 (by kernel_rfl) (by kernel_rfl) (by kernel_rfl) (fun _ _ _ h => h) ?hwbu10 hHeld ?restbu10
                  case hibu10 => (simp only [List.getElem?_toArray, List.getElem?_cons_succ, List.getElem?_cons_zero]; rfl)
                  case hwbu10 => rfl
                  try simp only [Act.put, List.setIfInBounds_toArray, List.set_cons_zero, List.set_cons_succ]
                  refine' takeN (i := 11) (oi := _) ?hibu11 (by kernel_rfl) (by kernel_rfl) (by kernel_rfl) (fun _ _ _ h => h) ?hwbu11 hHeld ?restbu11
                  case hibu11 => (simp only [List.getElem?_toArray, List.getElem?_cons_succ, List.getElem?_cons_zero]; rfl)
                  case hwbu11 => rfl
                  try simp only [Act.put, List.setIfInBounds_toArray, List.set_cons_zero, List.set_cons_succ]
                  refine' takeN (i := 12) (oi := _) ?hibu12 (by kernel_rfl) (by kernel_rfl) (by kernel_rfl) (fun _ _ _ h => h) ?hwbu12 hHeld ?restbu12
                  case hibu12 => (simp only [List.getElem?_toArray, List.getElem?_cons_succ, List.getElem?_cons_zero]; rfl)
                  case hwbu12 => rfl
                  try simp only [Act.put, List.setIfInBounds_toArray, List.set_cons_zero, List.set_cons_succ]
                  refine' takeN (i := 13) (oi := _) ?hibu13 (by kernel_rfl) (by kernel_rfl) (by kernel_rfl) (fun _ _ _ h => h) ?hwbu13 hHeld ?restbu13
                  case hibu13 => (simp only [List.getElem?_toArray, List.getElem?_cons_succ, List.getElem?_cons_zero]; rfl)
                  case hwbu13 => rfl
                  try simp only [Act.put, List.setIfInBounds_toArray, List.set_cons_zero, List.set_cons_succ]
                  refine' takeY (i := 14) (oi := _) (v := _) ?hibu14 (by kernel_rfl) (by kernel_rfl) (by kernel_rfl) (fun _ _ _ h => h) ?hwbu14 ?hybu14 hHeld ?restbu14
                  case hibu14 => (simp only [List.getElem?_toArray, List.getElem?_cons_succ, List.getElem?_cons_zero]; rfl)
                  case hwbu14 => rfl
                  case hybu14 => (intro w hSw; (try dsimp only at hSw); go_simp; try with_reducible rfl)
                  try simp only [Act.put, List.setIfInBounds_toArray, List.set_cons_zero, List.set_cons_succ]
                  refine wpAnyH_done (by kernel_rfl) ?_ _
                  refine NoPanic.normal ?_
                  go_wp2
                  go_roundw
                  case rel => exact ⟨j + 1, by go_num, by omega, below_next BE.out BL.out⟩
                  case measure => simp [intOf]; omega
                | false =>
                  have VL := Lib.hid (picked HX.out (by rw [PS.out, HXI.out]; exact HBB.out) (by rw [PS.out]; exact hy))
                  clear hy
                  go_upto_region 27 with fail
                  have KEPT := Lib.hid (show ∀ w' : World, Below wr.drew.heap.size wr.drew w' → w'.cell? ⟨gi, i, none⟩ = some (.bool false) ∧ w'.cell? ⟨bm, om + i * 6, none⟩ = some (.int .i64 x.id) ∧ w'.cell? ⟨bm, om + i * 6 + 1, none⟩ = some (.int .i64 x.idx) ∧ w'.cell? ⟨bm, om + i * 6 + 2, none⟩ = some (.int .i64 x.rel) ∧ w'.cell? ⟨bm, om + i * 6 + 3, none⟩ = some (.int .i64 x.dl) ∧ w'.cell? ⟨bm, om + i * 6 + 4, none⟩ = some (.int .i64 x.bit) ∧ w'.cell? ⟨bm, om + i * 6 + 5, none⟩ = some (.int .i64 x.grp) ∧ w'.cell? ⟨bp, op + j * 6, none⟩ = some (.int .i64 y.id) ∧ w'.cell? ⟨bp, op + j * 6 + 1, none⟩ = some (.int .i64 y.idx) ∧ w'.cell? ⟨bp, op + j * 6 + 2, none⟩ = some (.int .i64 y.rel) ∧ w'.cell? ⟨bp, op + j * 6 + 3, none⟩ = some (.int .i64 y.dl) ∧ w'.cell? ⟨bp, op + j * 6 + 4, none⟩ = some (.int .i64 y.bit) ∧ w'.cell? ⟨bp, op + j * 6 + 5, none⟩ = some (.int .i64 y.grp) from fun w' h => ⟨((IQ.out.below h).cell i).trans HIA.out, (XM.out.below h).c0, (XM.out.below h).c1, (XM.out.below h).c2, (XM.out.below h).c3, (XM.out.below h).c4, (XM.out.below h).c5, (YP.out.below h).c0, (YP.out.below h).c1, (YP.out.below h).c2, (YP.out.below h).c3, (YP.out.below h).c4, (YP.out.below h).c5⟩)
                  have BL := Lib.hid (Below.refl wr.drew.heap.size wr.drew)
                  refine wp_region_noPanic ?_
                  refine wp_region_held_drew (S := fun w' => w'.cell? ⟨gi, i, none⟩ = some (.bool false) ∧ w'.cell? ⟨bm, om + i * 6, none⟩ = some (.int .i64 x.id) ∧ w'.cell? ⟨bm, om + i * 6 + 1, none⟩ = some (.int .i64 x.idx) ∧ w'.cell? ⟨bm, om + i * 6 + 2, none⟩ = some (.int .i64 x.rel) ∧ w'.cell? ⟨bm, om + i * 6 + 3, none⟩ = some (.int .i64 x.dl) ∧ w'.cell? ⟨bm, om + i * 6 + 4, none⟩ = some (.int .i64 x.bit) ∧ w'.cell? ⟨bm, om + i * 6 + 5, none⟩ = some (.int .i64 x.grp) ∧ w'.cell? ⟨bp, op + j * 6, none⟩ = some (.int .i64 y.id) ∧ w'.cell? ⟨bp, op + j * 6 + 1, none⟩ = some (.int .i64 y.idx) ∧ w'.cell? ⟨bp, op + j * 6 + 2, none⟩ = some (.int .i64 y.rel) ∧ w'.cell? ⟨bp, op + j * 6 + 3, none⟩ = some (.int .i64 y.dl) ∧ w'.cell? ⟨bp, op + j * 6 + 4, none⟩ = some (.int .i64 y.bit) ∧ w'.cell? ⟨bp, op + j * 6 + 5, none⟩ = some (.int .i64 y.grp)) (by kernel_rfl) (KEPT.out _ BL.out) (fun hHeld => ?_)
                  refine' takeY (i := 0) (oi := _) (v := _) ?hibv0 (by kernel_rfl) (by kernel_rfl) (by kernel_rfl) (fun _ _ _ h => h) ?hwbv0 ?hybv0 hHeld ?restbv0
                  case hibv0 => (simp only [List.getElem?_toArray, List.getElem?_cons_zero]; rfl)
                  case hwbv0 => rfl
                  case hybv0 => (intro w hSw; (try dsimp only at hSw); go_simp; try with_reducible rfl)
                  try simp only [Act.put, List.setIfInBounds_toArray, List.set_cons_zero, List.set_cons_succ]
                  refine' takeY (i := 1) (oi := _) (v := _) ?hibv1 (by kernel_rfl) (by kernel_rfl) (by kernel_rfl) (fun _ _ _ h => h) ?hwbv1 ?hybv1 hHeld ?restbv1
                  case hibv1 => (simp only [List.getElem?_toArray, List.getElem?_cons_succ, List.getElem?_cons_zero]; rfl)
                  case hwbv1 => rfl
                  case hybv1 => (intro w hSw; (try dsimp only at hSw); go_simp; try with_reducible rfl)
                  try simp only [Act.put, List.setIfInBounds_toArray, List.set_cons_zero, List.set_cons_succ]
                  refine' takeY (i := 2) (oi := _) (v := _) ?hibv2 (by kernel_rfl) (by kernel_rfl) (by kernel_rfl) (fun _ _ _ h => h) ?hwbv2 ?hybv2 hHeld ?restbv2
                  case hibv2 => (simp only [List.getElem?_toArray, List.getElem?_cons_succ, List.getElem?_cons_zero]; rfl)
                  case hwbv2 => rfl
                  case hybv2 => (intro w hSw; (try dsimp only at hSw); go_simp; try with_reducible rfl)
                  try simp only [Act.put, List.setIfInBounds_toArray, List.set_cons_zero, List.set_cons_succ]
                  refine' takeY (i := 3) (oi := _) (v := _) ?hibv3 (by kernel_rfl) (by kernel_rfl) (by kernel_rfl) (fun _ _ _ h => h) ?hwbv3 ?hybv3 hHeld ?restbv3
                  case hibv3 => (simp only [List.getElem?_toArray, List.getElem?_cons_succ, List.getElem?_cons_zero]; rfl)
                  case hwbv3 => rfl
                  case hybv3 => (intro w hSw; (try dsimp only at hSw); go_simp; try with_reducible rfl)
                  try simp only [Act.put, List.setIfInBounds_toArray, List.set_cons_zero, List.set_cons_succ]
                  refine' takeY (i := 4) (oi := _) (v := _) ?hibv4 (by kernel_rfl) (by kernel_rfl) (by kernel_rfl) (fun _ _ _ h => h) ?hwbv4 ?hybv4 hHeld ?restbv4
                  case hibv4 => (simp only [List.getElem?_toArray, List.getElem?_cons_succ, List.getElem?_cons_zero]; rfl)
                  case hwbv4 => rfl
                  case hybv4 => (intro w hSw; (try dsimp only at hSw); go_simp; try with_reducible rfl)
                  try simp only [Act.put, List.setIfInBounds_toArray, List.set_cons_zero, List.set_cons_succ]
                  refine' takeY (i := 5) (oi := _) (v := _) ?hibv5 (by kernel_rfl) (by kernel_rfl) (by kernel_rfl) (fun _ _ _ h => h) ?hwbv5 ?hybv5 hHeld ?restbv5
                  case hibv5 => (simp only [List.getElem?_toArray, List.getElem?_cons_succ, List.getElem?_cons_zero]; rfl)
                  case hwbv5 => rfl
                  case hybv5 => (intro w hSw; (try dsimp only at hSw); go_simp; try with_reducible rfl)
                  try simp only [Act.put, List.setIfInBounds_toArray, List.set_cons_zero, List.set_cons_succ]
                  refine' takeY (i := 6) (oi := _) (v := _) ?hibv6 (by kernel_rfl) (by kernel_rfl) (by kernel_rfl) (fun _ _ _ h => h) ?hwbv6 ?hybv6 hHeld ?restbv6
                  case hibv6 => (simp only [List.getElem?_toArray, List.getElem?_cons_succ, List.getElem?_cons_zero]; rfl)
                  case hwbv6 => rfl
                  case hybv6 => (intro w hSw; (try dsimp only at hSw); go_simp; try with_reducible rfl)
                  try simp only [Act.put, List.setIfInBounds_toArray, List.set_cons_zero, List.set_cons_succ]
                  refine' takeY (i := 7) (oi := _) (v := _) ?hibv7 (by kernel_rfl) (by kernel_rfl) (by kernel_rfl) (fun _ _ _ h => h) ?hwbv7 ?hybv7 hHeld ?restbv7
                  case hibv7 => (simp only [List.getElem?_toArray, List.getElem?_cons_succ, List.getElem?_cons_zero]; rfl)
                  case hwbv7 => rfl
                  case hybv7 => (intro w hSw; (try dsimp only at hSw); go_simp; try with_reducible rfl)
                  try simp only [Act.put, List.setIfInBounds_toArray, List.set_cons_zero, List.set_cons_succ]
                  refine' takeY (i := 8) (oi := _) (v := _) ?hibv8 (by kernel_rfl) (by kernel_rfl) (by kernel_rfl) (fun _ _ _ h => h) ?hwbv8 ?hybv8 hHeld ?restbv8
                  case hibv8 => (simp only [List.getElem?_toArray, List.getElem?_cons_succ, List.getElem?_cons_zero]; rfl)
                  case hwbv8 => rfl
                  case hybv8 => (intro w hSw; (try dsimp only at hSw); go_simp; try with_reducible rfl)
                  try simp only [Act.put, List.setIfInBounds_toArray, List.set_cons_zero, List.set_cons_succ]
                  refine' takeY (i := 9) (oi := _) (v := _) ?hibv9 (by kernel_rfl) (by kernel_rfl) (by kernel_rfl) (fun _ _ _ h => h) ?hwbv9 ?hybv9 hHeld ?restbv9
                  case hibv9 => (simp only [List.getElem?_toArray, List.getElem?_cons_succ, List.getElem?_cons_zero]; rfl)
                  case hwbv9 => rfl
                  case hybv9 => (intro w hSw; (try dsimp only at hSw); go_simp; try with_reducible rfl)
                  try simp only [Act.put, List.setIfInBounds_toArray, List.set_cons_zero, List.set_cons_succ]
                  refine' takeY (i := 10) (oi := _) (v := _) ?hibv10 (by kernel_rfl) (by kernel_rfl) (by kernel_rfl) (fun _ _ _ h => h) ?hwbv10 ?hybv10 hHeld ?restbv10
                  case hibv10 => (simp only [List.getElem?_toArray, List.getElem?_cons_succ, List.getElem?_cons_zero]; rfl)
                  case hwbv10 => rfl
                  case hybv10 => (intro w hSw; (try dsimp only at hSw); go_simp; try with_reducible rfl)
                  try simp only [Act.put, List.setIfInBounds_toArray, List.set_cons_zero, List.set_cons_succ]
                  refine' takeY (i := 11) (oi := _) (v := _) ?hibv11 (by kernel_rfl) (by kernel_rfl) (by kernel_rfl) (fun _ _ _ h => h) ?hwbv11 ?hybv11 hHeld ?restbv11
                  case hibv11 => (simp only [List.getElem?_toArray, List.getElem?_cons_succ, List.getElem?_cons_zero]; rfl)
                  case hwbv11 => rfl
                  case hybv11 => (intro w hSw; (try dsimp only at hSw); go_simp; try with_reducible rfl)
                  try simp only [Act.put, List.setIfInBounds_toArray, List.set_cons_zero, List.set_cons_succ]
                  refine' takeY (i := 12) (oi := _) (v := _) ?hibv12 (by kernel_rfl) (by kernel_rfl) (by kernel_rfl) (fun _ _ _ h => h) ?hwbv12 ?hybv12 hHeld ?restbv12
                  case hibv12 => (simp only [List.getElem?_toArray, List.getElem?_cons_succ, List.getElem?_cons_zero]; rfl)
                  case hwbv12 => rfl
                  case hybv12 => (intro w hSw; (try dsimp only at hSw); go_simp; try with_reducible rfl)
                  try simp only [Act.put, List.setIfInBounds_toArray, List.set_cons_zero, List.set_cons_succ]
                  refine wpAnyH_ready (rs := [13]) (by kernel_rfl) (by simp) ?_
                  refine' AllReadyH.cons (o := _) ?hibv13 (fun K hK => ?stepbv13) AllReadyH.nil
                  case hibv13 => (simp only [List.getElem?_toArray, List.getElem?_cons_succ, List.getElem?_cons_zero]; rfl)
                  go_simp
                  (go_at_call 18; (with_reducible refine (pless_at x y _ _ VL.out).mono ?_); rintro e w5 ⟨rfl, hb⟩; have BL := Lib.hid (below_next BL.out hb); clear hb)
                  go_wp2_with fail
                  clear hHeld
                  refine hK.out _ _ (KEPT.out _ BL.out) (fun hHeld => ?_)
                  clear hK K
                  try simp only [Act.put, List.setIfInBounds_toArray, List.set_cons_zero, List.set_cons_succ]
                  refine' takeY (i := 14) (oi := _) (v := _) ?hibv14 (by kernel_rfl) (by kernel_rfl) (by kernel_rfl) (fun _ _ _ h => h) ?hwbv14 ?hybv14 hHeld ?restbv14
                  case hibv14 => (simp only [List.getElem?_toArray, List.getElem?_cons_succ, List.getElem?_cons_zero]; rfl)
                  case hwbv14 => rfl
                  case hybv14 => (intro w hSw; (try dsimp only at hSw); go_simp; try with_reducible rfl)
                  try simp only [Act.put, List.setIfInBounds_toArray, List.set_cons_zero, List.set_cons_succ]
                  refine wpAnyH_done (by kernel_rfl) ?_ _
                  refine NoPanic.normal ?_
                  go_wp2
                  go_roundw
                  case rel => exact ⟨j + 1, by go_num, by omega, below_next BE.out BL.out⟩
                  case measure => simp [intOf]; omega
              have b7 : decide (j < lp) = false := by simp; omega
              have b8 : decide ((j : Int) < (lp : Int)) = false := by simp; omega
              go_wp2
              go_roundw
              case rel => exact ⟨i + 1, by go_num, by omega, BE.out⟩
              case measure => simp [intOf]; omega
          have b5 : decide (i < m) = false := by simp; omega
          have b6 : decide ((i : Int) < (m : Int)) = false := by simp; omega
          go_wp2
          go_ret
          exact ⟨rfl, below_next B.out BE.out⟩
end Go.Proofs.Ytkiolkceaibmgaa
