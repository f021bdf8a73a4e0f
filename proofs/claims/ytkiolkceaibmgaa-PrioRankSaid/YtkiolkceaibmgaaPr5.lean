/-
  The walk of the law PrioRank.
-/
import Derived.Test.YtkiolkceaibmgaaPr4
namespace Go.Proofs.Ytkiolkceaibmgaa
open Go.RowKit
set_option maxRecDepth 20000 in
set_option maxHeartbeats 4000000 in
theorem rank_walk (a : Option Addr) (len cap : Nat) (es : List Ent) (w : World) (h : RowE w a len cap es) : Calls Try.prog 8 #[.slice a len cap] w fun e w' => e = .returned (.bool true) ∧ Below w.heap.size w w' := by
  have H := Lib.hid h
  clear h
  obtain ⟨i0, hi, hz0, hz1, hz2⟩ := info_parts Try.infoE
  have HI := Lib.hid hi; have HZ0 := Lib.hid hz0; have HZ1 := Lib.hid hz1; have HZ2 := Lib.hid hz2
  clear hi hz0 hz1 hz2
  go_enter Try.func8, Try.ntmps8
  go_wp2_with fail
  refine (l6awake_any _).mono ?_
  rintro e w1 ⟨rfl, hb⟩
  have B := Lib.hid hb
  have H := Lib.hid (H.out.below hb)
  clear hb
  go_wp2_with fail
  refine (l6few_any a len cap es _ (H.out.below (wbox _ _))).mono ?_
  rintro e wz ⟨m, rfl, hrow, m20, rfl⟩
  have R := Lib.hid hrow
  have LM := Lib.hid hrow.len
  have B0 := Lib.hid B.out
  have B := Lib.hid (below_next B.out (wbox w1 (Obj.cells #[] 27)))
  have O0 := Lib.hid (show (w1.alloc (Obj.cells #[] 27)).ownsRow w.heap.size 27 6 (.slice (some ⟨w1.heap.size, 0, none⟩) 0 0) 0 (([] : List (List Value)).flatten) from World.ownsRow_made w1 #[] 0 B0.out.size (by decide) rfl)
  clear hrow
  obtain ⟨W0, hW0⟩ : ∃ W0, w1.alloc (Obj.cells #[] 27) = W0 := ⟨_, rfl⟩
  rw [hW0] at R B O0 ⊢
  clear hW0
  go_wp2_with (at_builtin; refine wpList_append_rowF rfl _ _ _ rfl w.heap.size 27 i0 _ 6 48 Try.underlying22 HI.out HZ0.out HZ1.out HZ2.out rfl (by decide) (by decide) _ [] 0 rfl O0.out a m cap ((es.take 20).map Ent.cs) rfl R.out (wideE _) (oneE _) B.out.size (by omega) ?_; intro v2 w2 hown2 hgrow2; rw [Nat.zero_add, List.nil_append] at hown2; have HO := Lib.hid hown2; have B2 := Lib.hid (B.out.grown hgrow2 B.out.size (fun g hg => (O0.out.lt g hg).1)); obtain ⟨am, cm, hv, _, hfm⟩ := rowE_of_owns hown2 LM.out; subst hv; have FM := Lib.hid hfm; clear hown2 hgrow2 hfm)
  obtain ⟨es', hes⟩ : ∃ es', es.take 20 = es' := ⟨_, rfl⟩
  rw [hes] at LM HO
  clear hes R O0 B B0 H
  have B := Lib.hid B2.out
  clear B2
  go_loopw [5] (fun u wr => ∃ i : Nat, u = .int .i64 i ∧ i ≤ m ∧ wr.ownsRow w.heap.size 27 6 (.slice am m cm) m ((idTo (fun i => 100 - (i : Int)) i es').map Ent.cs).flatten ∧ Below w.heap.size w wr) (fun u _ => m - (intOf u).toNat)
  case atStart => exact ⟨0, rfl, by omega, by rw [idTo_zero]; exact HO.out, B.out⟩
  case round =>
    obtain ⟨i, rfl, il, hown, hbel⟩ := hrel
    clear HO B
    have HO := Lib.hid hown
    have B := Lib.hid hbel
    clear hown hbel
    by_cases go : i < m
    · have b1 : decide (i < m) = true := by simp; omega
      have b2 : decide ((i : Int) < (m : Int)) = true := by simp; omega
      obtain ⟨g, cm', hv⟩ := owns_form HO.out (by omega)
      simp only [Value.slice.injEq, true_and] at hv
      obtain ⟨rfl, rfl⟩ := hv
      have HF := Lib.hid (FM.out _ rfl)
      have ST := Lib.hid ((HO.out.stored (i * 6) (.int .i64 (100 - (i : Int)))).1)
      rw [idTo_step (fun i => 100 - (i : Int)) i es' (by rw [LM.out]; exact go)] at ST
      obtain ⟨av, cv, hv, hrow, _⟩ := rowE_of_owns HO.out (by rw [idTo_len]; exact LM.out)
      simp only [Value.slice.injEq, true_and] at hv
      obtain ⟨rfl, rfl⟩ := hv
      obtain ⟨x, hx, _, _⟩ := getE (es := idTo (fun i => 100 - (i : Int)) i es') (i := i) (by rw [idTo_len, LM.out]; exact go)
      obtain ⟨bo, oo, hab, hat⟩ := hrow.at hx
      simp only [Option.some.injEq, Addr.mk.injEq, and_true] at hab
      obtain ⟨rfl, rfl⟩ := hab
      have c0 := hat.c0
      rw [Nat.zero_add] at c0
      have f0 := HO.out.frozenAt (i * 6)
      clear hrow hx hat
      have j1 : (i : Int) < (m : Int) := by omega
      have j2 : 0 ≤ (i : Int) := by omega
      go_wp2
      go_roundw
      case rel => exact ⟨i + 1, by go_num, by omega, ST.out, B.out.setCell (show w.heap.size ≤ (⟨g, i * 6, none⟩ : Addr).block from HF.out) _⟩
      case measure => simp [intOf]; omega
    have b1 : decide (i < m) = false := by simp; omega
    have b2 : decide ((i : Int) < (m : Int)) = false := by simp; omega
    have im : i = es'.length := by rw [LM.out]; omega
    obtain ⟨av, cv, hv, hrow, _⟩ := rowE_of_owns HO.out (by rw [idTo_len]; exact LM.out)
    simp only [Value.slice.injEq, true_and] at hv
    obtain ⟨rfl, rfl⟩ := hv
    rw [im] at hrow
    obtain ⟨ms, hms⟩ : ∃ ms, idTo (fun i => 100 - (i : Int)) es'.length es' = ms := ⟨_, rfl⟩
    rw [hms] at hrow
    have MS := Lib.hid hms
    have RM := Lib.hid hrow
    have LL := Lib.hid hrow.len
    clear hrow hms HO im
    obtain ⟨wa, hwa⟩ : ∃ wa, wa = wr := ⟨_, rfl⟩
    rw [← hwa] at RM B ⊢
    clear hwa
    have OW := Lib.hid (show Own ms by rw [← MS.out]; exact own_idTo (fun i j hi hj e => by omega))
    have ID := Lib.hid (show ∀ (j : Nat) (x : Ent), ms[j]? = some x → x.id = 100 - (j : Int) from fun j x hx => by rw [← MS.out] at hx; exact (idTo_id hx).1)
    go_wp2
    go_loopw [6, 7] (fun v u wr => ∃ i : Nat, u = .int .i64 i ∧ i ≤ m ∧ v = .int .i64 (ranks (ms.take i) ms : Nat) ∧ Below wa.heap.size wa wr) (fun _ u _ => m - (intOf u).toNat)
    case atStart => exact ⟨0, rfl, by omega, rfl, Below.refl _ _⟩
    case round =>
      obtain ⟨k, rfl, kl, rfl, hbel⟩ := hrel
      have RM := Lib.hid (RM.out.below hbel)
      have BE := Lib.hid hbel
      clear hbel
      have sb : ranks (ms.take k) ms ≤ 400 := by
        have h1 := ranks_le (m := ms.take k) (l := ms) (fun x hx => List.mem_of_mem_take hx)
        rw [List.length_take, LL.out] at h1
        exact Nat.le_trans h1 (Nat.mul_le_mul (show min k m ≤ 20 by omega) (show m ≤ 20 from m20))
      by_cases go' : k < m
      · have b3 : decide (k < m) = true := by simp; omega
        have b4 : decide ((k : Int) < (m : Int)) = true := by simp; omega
        obtain ⟨x, hx, _, _⟩ := getE (es := ms) (i := k) (by rw [LL.out]; exact go')
        have VR := Lib.hid (rank_own OW.out hx)
        rw [ID.out k x hx] at VR
        have TK := Lib.hid (show ranks (ms.take (k + 1)) ms = ranks (ms.take k) ms + ms.countP (fun y => lessB y x) by rw [List.take_add_one, hx]; exact ranks_snoc _ _ _)
        have cl := count_lt (l := ms) (x := x) (List.mem_of_getElem? hx)
        rw [LL.out] at cl
        obtain ⟨c, hc⟩ : ∃ c, ms.countP (fun y => lessB y x) = c := ⟨_, rfl⟩
        obtain ⟨s, hs⟩ : ∃ s, ranks (ms.take k) ms = s := ⟨_, rfl⟩
        rw [hc] at VR TK cl
        rw [hs] at TK sb
        rw [hs]
        clear hx hc hs
        have t1 : decide ((c : Int) < 0) = false := decide_eq_false (by omega)
        have t2 : decide ((m : Int) ≤ (c : Int)) = false := by simp; omega
        go_wp2_with fail
        refine (prank_any _ m _ ms (100 - (k : Int)) _ RM.out (by omega)).mono ?_
        rintro e w5 ⟨rfl, hb⟩
        rw [VR.out]
        have BE := Lib.hid (below_next BE.out hb)
        clear hb
        go_wp2
        go_roundw
        case rel => exact ⟨k + 1, by go_num, by omega, by rw [TK.out]; rfl, BE.out⟩
        case measure => simp [intOf]; omega
      have b3 : decide (k < m) = false := by simp; omega
      have b4 : decide ((k : Int) < (m : Int)) = false := by simp; omega
      have EF := Lib.hid (show ms.take k = ms from List.take_of_length_le (by rw [LL.out]; omega))
      rw [EF.out] at sb ⊢
      have TT := ranks_own OW.out
      rw [LL.out] at TT
      obtain ⟨s, hs⟩ : ∃ s, ranks ms ms = s := ⟨_, rfl⟩
      rw [hs] at TT sb ⊢
      clear hs
      have mm : (m : Int) * ((m : Int) - 1) = 2 * (s : Int) := by
        have : ((2 * s + m : Nat) : Int) = ((m * m : Nat) : Int) := by rw [TT]
        rw [Int.natCast_add, Int.natCast_mul, Int.natCast_mul] at this
        rw [Int.mul_sub, Int.mul_one]
        omega
      have q1 : IntKind.i64.wrap ((m : Int) * ((m : Int) - 1)) = 2 * (s : Int) := by rw [mm]; exact IntWalk.i64_in _ (by omega)
      have q2 : (2 * (s : Int)).tdiv 2 = (s : Int) := by rw [Int.mul_comm]; exact Int.mul_tdiv_cancel _ (by omega)
      have NO := Lib.hid (rank_none (es := ms) (id := 200) (fun x hx => by obtain ⟨j, hj, e⟩ := List.mem_iff_getElem.mp hx; have := ID.out j x (by rw [List.getElem?_eq_getElem hj, e]); omega))
      clear TT
      go_wp2_with fail
      refine (prank_any _ m _ ms 200 _ RM.out (by omega)).mono ?_
      rintro e w5 ⟨rfl, hb⟩
      rw [NO.out]
      have BE := Lib.hid (below_next BE.out hb)
      clear hb
      go_wp2
      go_ret
      exact ⟨rfl, below_next B.out BE.out⟩
end Go.Proofs.Ytkiolkceaibmgaa
