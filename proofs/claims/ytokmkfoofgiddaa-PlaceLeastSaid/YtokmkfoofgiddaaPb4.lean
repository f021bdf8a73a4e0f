/-
  The laws' made: runners that may be: contract.
-/
import Derived.Test.YtokmkfoofgiddaaPb3
namespace Go.Proofs.Ytokmkfoofgiddaa
open Go.RowKit

theorem below_appR {w wr w2 : World} {e : TypeId} {c : Nat} {v : Value} {n : Nat} {xs : List Value} {o : Obj} (hb : Below w.heap.size w wr) (ho : wr.ownsRow w.heap.size e c v n xs) (hg : (wr.alloc o).grownBy w2 v.ownBlock) : Below w.heap.size w w2 :=
  (hb.alloc hb.size _).grown hg (by have := hb.size; simp; omega) (fun g hg => (ho.lt g hg).1)
/-- runners of one's own, and which pins are used -/
structure MadeM (w wr : World) (n : Nat) (g : Nat) (v : Value) (rs : List Rn) : Prop where
  o : wr.ownsRow w.heap.size 39 3 v rs.length (rs.map Rn.cs).flatten
  u : Blk wr 4 g (bkc n (pinsR rs))
  ng : v.ownBlock ≠ some g
  wg : w.heap.size ≤ g
  bel : Below w.heap.size w wr
theorem MadeM.below {w wr w2 : World} {n g : Nat} {v : Value} {rs : List Rn} (h : MadeM w wr n g v rs) (hb : Below wr.heap.size wr w2) : MadeM w w2 n g v rs := ⟨owns_below h.o hb, h.u.below hb, h.ng, h.wg, below_next h.bel hb⟩
/-- a pin that is used is one more -/
def UsedS (w wr : World) (n : Nat) (g : Nat) (v : Value) (rs : List Rn) (us : List Int) : Prop :=
  wr.ownsRow w.heap.size 39 3 v rs.length (rs.map Rn.cs).flatten ∧ Blk wr 4 g (bkc n us) ∧ v.ownBlock ≠ some g ∧ w.heap.size ≤ g ∧ Below w.heap.size w wr
theorem UsedS.app {w wr w2 : World} {n g : Nat} {v v2 : Value} {rs : List Rn} {us : List Int} {r : Rn} {ob : Obj} (h : UsedS w wr n g v rs us) (hu : us = pinsR (rs ++ [r]))
    (h1 : w2.ownsRow w.heap.size 39 3 v2 (rs ++ [r]).length ((rs ++ [r]).map Rn.cs).flatten) (h2 : (wr.alloc ob).grownBy w2 v.ownBlock) (h3 : ∃ k, v2.ownBlock = some k ∧ (v.ownBlock = some k ∨ k = (wr.alloc ob).heap.size)) : MadeM w w2 n g v2 (rs ++ [r]) := by
  obtain ⟨a1, a2, a3, a4, a5⟩ := h
  subst hu
  have hlt := a2.lt
  refine ⟨h1, ?_, ?_, a4, below_appR a5 a1 h2⟩
  · exact (h2.block g (by simp; omega) (fun e => a3 e.symm)).trans (a2.alloc ob)
  · obtain ⟨k, e1, e2⟩ := h3
    intro e
    rw [e1] at e
    obtain rfl : k = g := by simpa using e
    rcases e2 with q | q
    · exact a3 q
    · have h6 : (wr.alloc ob).heap.size = wr.heap.size + 1 := by simp
      omega
set_option maxRecDepth 20000 in
set_option maxHeartbeats 4000000 in
theorem made15_any (a : Option Addr) (len cap : Nat) (ps : List (Int × Int)) (m : Int) (w : World) (h : RowQ w a len cap ps) (m1 : 1 ≤ m) (m2 : m ≤ 20) :
    Calls Try.prog 10 #[.slice a len cap, .int .i64 m] w fun e w' => ∃ ao lo co rs, e = .returned (.slice ao lo co) ∧ RowR w' ao lo co rs ∧ MayR rs m ∧ Below w.heap.size w w' := by
  have H := Lib.hid h
  have LN := Lib.hid h.len
  clear h
  obtain ⟨n, rfl⟩ : ∃ n : Nat, m = (n : Int) := ⟨m.toNat, by omega⟩
  obtain ⟨i0, hi, hz0, hz1, hz2⟩ := info_parts Try.infoB
  have hmk := fun W => run_make_rowN (P := Try.prog) 43 4 i0 _ Try.underlying43 hi hz0 .i64 .i64 n n (Nat.le_refl _) (by rw [hz2]; omega) (by omega) W
  rw [hz1] at hmk
  have hmk2 := fun W => (hmk W).trans (by rw [Nat.mul_one, made_bools, bkc_nil])
  clear hi hz0 hz1 hz2 hmk
  have M0 := Lib.hid (show MadeM w (w.alloc (.cells (bkc n []) 4)) n w.heap.size (.slice none 0 0) [] from ⟨World.ownsRow_nil _ _ _ _, Blk.new _ _ _, (fun e => by cases e), Nat.le_refl _, wbox _ _⟩)
  have d3 : IntKind.i64.wrap (3 * (n : Int)) = 3 * (n : Int) := IntWalk.i64_in _ (by omega)
  go_enter Try.func10, Try.ntmps10
  go_wp2
  obtain ⟨g, hg⟩ : ∃ g, w.heap.size = g := ⟨_, rfl⟩
  have HG := Lib.hid hg
  rw [hg] at M0 ⊢
  clear hg hmk2
  go_loopw [5, 7] (fun v u wr => ∃ (i : Nat) (rs : List Rn), u = .int .i64 i ∧ i ≤ len ∧ i ≤ n ∧ rs.length = i ∧ MadeS n rs ∧ MadeM w wr n g v rs) (fun _ u _ => len - (intOf u).toNat)
  case atStart => exact ⟨0, [], rfl, by omega, by omega, rfl, made_zero _, M0.out⟩
  case round =>
    obtain ⟨i, rs, rfl, i1, i2, hl, hms, hm⟩ := hrel
    have LR := Lib.hid hl
    have MS := Lib.hid hms
    have MM := Lib.hid hm
    clear hl hms hm M0
    by_cases go1 : i < len
    · have b1 : decide ((i : Int) < (len : Int)) = true := by simp; omega
      have b1' : decide (i < len) = true := by simp; omega
      by_cases go2 : i < n
      · have b2 : decide ((i : Int) < (n : Int)) = true := by simp; omega
        have b2' : decide (i < n) = true := by simp; omega
        obtain ⟨ba, oa, x, y, rfl, hx, hy⟩ := H.out.at go1
        have hx := cell_on MM.out.bel hx
        have hy0 := cell_on MM.out.bel hy
        have i3 : (i : Int) < (len : Int) := by omega
        have i0 : 0 ≤ (i : Int) := by omega
        obtain ⟨k0, k1, k2, k3⟩ := tmod2 y ((n : Int) + 1) (by omega)
        obtain ⟨j0, j1, j2, j3⟩ := tmod2 x (3 * (n : Int)) (by omega)
        obtain ⟨A, hA⟩ : ∃ A, y.tmod ((n : Int) + 1) = A := ⟨_, rfl⟩
        rw [hA] at k0 k1 k2 k3
        have e1 : A + ((n : Int) + 1) = A + n + 1 := by omega
        rw [e1] at k0 k1
        obtain ⟨K, hK⟩ : ∃ K, (A + n + 1).tmod ((n : Int) + 1) = K := ⟨_, rfl⟩
        have hK2 : (A + n + 1) % ((n : Int) + 1) = K := by rw [← hK]; exact (Int.tmod_eq_emod_of_nonneg (by omega)).symm
        rw [hK] at k0 k1
        obtain ⟨C, hC⟩ : ∃ C, x.tmod (3 * (n : Int)) = C := ⟨_, rfl⟩
        rw [hC] at j0 j1 j2 j3
        obtain ⟨D, hD⟩ : ∃ D, (C + 3 * (n : Int)).tmod (3 * (n : Int)) = D := ⟨_, rfl⟩
        have hD2 : (C + 3 * (n : Int)) % (3 * (n : Int)) = D := by rw [← hD]; exact (Int.tmod_eq_emod_of_nonneg (by omega)).symm
        rw [hD] at j0 j1
        clear e1 hy
        have n1 : ¬ (n : Int) + 1 = 0 := by omega
        have n3 : ¬ 3 * (n : Int) = 0 := by omega
        obtain ⟨W2, hW2⟩ : ∃ W2, wr.alloc (.cells #[.int .i64 (i : Int), .int .i64 (-1), .int .i64 (K - 1)] 39) = W2 := ⟨_, rfl⟩
        have M2 := Lib.hid (show MadeM w W2 n g u5 rs by rw [← hW2]; exact MM.out.below (wbox _ _))
        have R2 := Lib.hid (show Blk W2 39 wr.heap.size #[.int .i64 (i : Int), .int .i64 (-1), .int .i64 (K - 1)] by rw [← hW2]; exact Blk.new _ _ _)
        have BW := Lib.hid (show Below wr.heap.size wr W2 by rw [← hW2]; exact wbox _ _)
        have hx2 := cell_on BW.out hx
        have NG := Lib.hid (show g ≠ wr.heap.size by have := MM.out.u.lt; omega)
        have q0 := R2.out.cell 0; have q1 := R2.out.cell 1; have q2 := R2.out.cell 2
        have qf := R2.out.free
        simp at q0 q1 q2
        have uf := M2.out.u.free
        obtain ⟨d, rfl⟩ := Int.eq_ofNat_of_zero_le j0
        by_cases dn : d < n
        · have b3 : decide ((d : Int) < (n : Int)) = true := by simp; omega
          have b3' : decide (d < n) = true := by simp; omega
          have uc := M2.out.u.cell d
          rw [bkc_at n _ dn] at uc
          have d0 : 0 ≤ (d : Int) := by omega
          have d1 : (d : Int) < (n : Int) := by omega
          by_cases du : (d : Int) ∈ pinsR rs
          · have b4 : decide ((d : Int) ∈ pinsR rs) = true := by simp [du]
            rw [b4] at uc
            clear du b4
            have NX := Lib.hid (made_next MS.out (r := ⟨i, -1, K - 1⟩) (by show (i : Int) = rs.length; rw [LR.out]) (by show -1 ≤ K - 1 ∧ K - 1 < (n : Int); omega) (by show -1 ≤ (-1 : Int) ∧ (-1 : Int) < n; omega) (fun h => by have h1 : (0 : Int) ≤ -1 := h; omega))
            have US := Lib.hid (show UsedS w W2 n g u5 rs (pinsR rs) from ⟨M2.out.o, M2.out.u, M2.out.ng, M2.out.wg, M2.out.bel⟩)
            go_wp2_with (at_builtin; refine app_run rfl _ _ rfl w.heap.size u5 rs rfl (M2.out.o.alloc _) W2.heap.size ⟨i, -1, K - 1⟩ rfl (heap_alloc_new W2 _) (Nat.le_trans M2.out.bel.size (wbox _ _).size) (by have := LR.out; omega) ?_; intro v3 w3 hown2 hgrow2 hlies2; have M3 := Lib.hid (US.out.app (by rw [pins_append, pins_one, if_neg (by show ¬ (0 : Int) ≤ -1; omega), List.append_nil]) hown2 hgrow2 hlies2); clear hown2 hgrow2 hlies2)
            go_roundw
            case rel => exact ⟨i + 1, _, by go_num, by omega, by omega, by rw [List.length_append, LR.out]; rfl, NX.out, M3.out⟩
            case measure => simp [intOf]; omega
          · have b4 : decide ((d : Int) ∈ pinsR rs) = false := by simp [du]
            rw [b4] at uc
            have NX := Lib.hid (made_next MS.out (r := ⟨i, d, K - 1⟩) (by show (i : Int) = rs.length; rw [LR.out]) (by show -1 ≤ K - 1 ∧ K - 1 < (n : Int); omega) (by show -1 ≤ (d : Int) ∧ (d : Int) < n; omega) (fun _ => du))
            have R3 := Lib.hid (show Blk (W2.setCell ⟨wr.heap.size, 1, none⟩ (.int .i64 (d : Int))) 39 wr.heap.size #[.int .i64 (i : Int), .int .i64 (d : Int), .int .i64 (K - 1)] from heap_setCell_same W2 wr.heap.size 1 _ _ _ R2.out)
            have U3 := Lib.hid (show Blk (W2.setCell ⟨wr.heap.size, 1, none⟩ (.int .i64 (d : Int))) 4 g (bkc n (pinsR rs)) from (Below.heap_setCell W2 ⟨wr.heap.size, 1, none⟩ _ g NG.out).trans M2.out.u)
            have R4 := Lib.hid (show Blk ((W2.setCell ⟨wr.heap.size, 1, none⟩ (.int .i64 (d : Int))).setCell ⟨g, d, none⟩ (.bool true)) 39 wr.heap.size #[.int .i64 (i : Int), .int .i64 (d : Int), .int .i64 (K - 1)] from (Below.heap_setCell _ ⟨g, d, none⟩ _ wr.heap.size (fun e => NG.out e.symm)).trans R3.out)
            have U4 := Lib.hid (show Blk ((W2.setCell ⟨wr.heap.size, 1, none⟩ (.int .i64 (d : Int))).setCell ⟨g, d, none⟩ (.bool true)) 4 g (bkc n (pinsR rs ++ [(d : Int)])) by rw [← bkc_set n _ dn]; exact heap_setCell_same _ g d _ _ _ U3.out)
            have B4 := Lib.hid (show Below w.heap.size w ((W2.setCell ⟨wr.heap.size, 1, none⟩ (.int .i64 (d : Int))).setCell ⟨g, d, none⟩ (.bool true)) from (M2.out.bel.setCell (by show w.heap.size ≤ wr.heap.size; exact MM.out.bel.size) _).setCell (by show w.heap.size ≤ g; exact MM.out.wg) _)
            have K4 := Lib.hid (show Keeps (fun k => k = wr.heap.size ∨ k = g) W2 ((W2.setCell ⟨wr.heap.size, 1, none⟩ (.int .i64 (d : Int))).setCell ⟨g, d, none⟩ (.bool true)) from ((Keeps.refl (fun k => k = wr.heap.size ∨ k = g) W2).set (.inl (.inl rfl)) _ _).set (.inl (.inr rfl)) _ _)
            have O4 := Lib.hid (owns_keeps M2.out.o K4.out (fun k e q => by
              rcases q with q | q
              · have h1 := (MM.out.o.lt k e).2; omega
              · exact MM.out.ng (by rw [e, q])))
            have US := Lib.hid (show UsedS w ((W2.setCell ⟨wr.heap.size, 1, none⟩ (.int .i64 (d : Int))).setCell ⟨g, d, none⟩ (.bool true)) n g u5 rs (pinsR rs ++ [(d : Int)]) from ⟨O4.out, U4.out, MM.out.ng, MM.out.wg, B4.out⟩)
            have ne1 : ¬ g = wr.heap.size := NG.out
            have ne2 : ¬ wr.heap.size = g := fun e => NG.out e.symm
            clear du b4
            go_wp2_with (at_builtin; refine app_run rfl _ _ rfl w.heap.size u5 rs rfl (O4.out.alloc _) W2.heap.size ⟨i, d, K - 1⟩ rfl (by have h1 := heap_alloc_new ((W2.setCell ⟨wr.heap.size, 1, none⟩ (.int .i64 (d : Int))).setCell ⟨g, d, none⟩ (.bool true)) (.cells #[.int .i64 (i : Int), .int .i64 (d : Int), .int .i64 (K - 1)] 39); simp only [World.size_setCell] at h1; exact h1) (Nat.le_trans B4.out.size (wbox _ _).size) (by have := LR.out; omega) ?_; intro v3 w3 hown2 hgrow2 hlies2; have M3 := Lib.hid (US.out.app (by rw [pins_append, pins_one, if_pos (by show (0 : Int) ≤ d; omega)]) hown2 hgrow2 hlies2); clear hown2 hgrow2 hlies2)
            go_roundw
            case rel => exact ⟨i + 1, _, by go_num, by omega, by omega, by rw [List.length_append, LR.out]; rfl, NX.out, M3.out⟩
            case measure => simp [intOf]; omega
        · have b3 : decide ((d : Int) < (n : Int)) = false := by simp; omega
          have b3' : decide (d < n) = false := by simp; omega
          have NX := Lib.hid (made_next MS.out (r := ⟨i, -1, K - 1⟩) (by show (i : Int) = rs.length; rw [LR.out]) (by show -1 ≤ K - 1 ∧ K - 1 < (n : Int); omega) (by show -1 ≤ (-1 : Int) ∧ (-1 : Int) < n; omega) (fun h => by have h1 : (0 : Int) ≤ -1 := h; omega))
          have US := Lib.hid (show UsedS w W2 n g u5 rs (pinsR rs) from ⟨M2.out.o, M2.out.u, M2.out.ng, M2.out.wg, M2.out.bel⟩)
          go_wp2_with (at_builtin; refine app_run rfl _ _ rfl w.heap.size u5 rs rfl (M2.out.o.alloc _) W2.heap.size ⟨i, -1, K - 1⟩ rfl (heap_alloc_new W2 _) (Nat.le_trans M2.out.bel.size (wbox _ _).size) (by have := LR.out; omega) ?_; intro v3 w3 hown2 hgrow2 hlies2; have M3 := Lib.hid (US.out.app (by rw [pins_append, pins_one, if_neg (by show ¬ (0 : Int) ≤ -1; omega), List.append_nil]) hown2 hgrow2 hlies2); clear hown2 hgrow2 hlies2)
          go_roundw
          case rel => exact ⟨i + 1, _, by go_num, by omega, by omega, by rw [List.length_append, LR.out]; rfl, NX.out, M3.out⟩
          case measure => simp [intOf]; omega
      · have b2 : decide ((i : Int) < (n : Int)) = false := by simp; omega
        have b2' : decide (i < n) = false := by simp; omega
        obtain ⟨ao, co, hv, hr, _⟩ := rowR_of_owns MM.out.o rfl
        subst hv
        have RR := Lib.hid hr
        have MY := Lib.hid (MS.out.may (by omega) (by omega) (by have := LR.out; omega))
        clear hr
        go_wp2
        go_ret
        exact ⟨_, _, _, rs, rfl, RR.out, MY.out, MM.out.bel⟩
    · have b1 : decide ((i : Int) < (len : Int)) = false := by simp; omega
      have b1' : decide (i < len) = false := by simp; omega
      obtain ⟨ao, co, hv, hr, _⟩ := rowR_of_owns MM.out.o rfl
      subst hv
      have RR := Lib.hid hr
      have MY := Lib.hid (MS.out.may (by omega) (by omega) (by have := LR.out; omega))
      clear hr
      go_wp2
      go_ret
      exact ⟨_, _, _, rs, rfl, RR.out, MY.out, MM.out.bel⟩
end Go.Proofs.Ytokmkfoofgiddaa
