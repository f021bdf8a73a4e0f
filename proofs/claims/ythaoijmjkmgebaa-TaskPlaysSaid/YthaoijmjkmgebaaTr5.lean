/-
  The document's own task (regattaref10): Cuts: contract.
-/
import Derived.Test.YthaoijmjkmgebaaTr4
namespace Go.Proofs.Ythaoijmjkmgebaa
open Go.RowKit

theorem below_que {w wr w2 : World} {e : TypeId} {c : Nat} {v : Value} {n : Nat} {xs : List Value} {o : Obj} (hb : Below w.heap.size w wr) (ho : QueR wr w.heap.size e c v n xs) (hg : (wr.alloc o).grownBy w2 v.ownBlock) : Below w.heap.size w w2 :=
  (hb.alloc hb.size _).grown hg (by have := hb.size; simp; omega) (fun g hg => (ho.lt g hg).1)
theorem filter_yes {l : List Sb} {i : Nat} {s : Sb} {p : Sb → Bool} (hs : l[i]? = some s) (hp : p s = true) : (l.take (i + 1)).filter p = (l.take i).filter p ++ [s] := by
  have hi : i < l.length := by
    rcases Nat.lt_or_ge i l.length with q | q
    · exact q
    · rw [List.getElem?_eq_none q] at hs; cases hs
  rw [List.take_succ_eq_append_getElem hi, List.filter_append]
  rw [List.getElem?_eq_getElem hi] at hs
  simp at hs
  simp [hs, hp]
theorem filter_no {l : List Sb} {i : Nat} {s : Sb} {p : Sb → Bool} (hs : l[i]? = some s) (hp : p s = false) : (l.take (i + 1)).filter p = (l.take i).filter p := by
  have hi : i < l.length := by
    rcases Nat.lt_or_ge i l.length with q | q
    · exact q
    · rw [List.getElem?_eq_none q] at hs; cases hs
  rw [List.take_succ_eq_append_getElem hi, List.filter_append]
  rw [List.getElem?_eq_getElem hi] at hs
  simp at hs
  simp [hs, hp]
set_option maxHeartbeats 4000000 in
theorem r10cuts_any (r : Nat) (F : Nat → Prop) (t : TS) (w : World) (at_ : Int) (h : RT w r F t) (g : GoodT t) :
    Calls Try.prog 18 #[.pointer (some ⟨r, 0, none⟩), .int .i64 at_] w fun z w' => z = .returned (.int .i64 (cutN t at_)) ∧ ∃ F', RT w' r F' (cutT t at_) ∧ Moves F F' w w' := by
  have LI := Lib.hid h.lies
  have few := g.few
  obtain ⟨i0, hi, hz0, hz1, hz2⟩ := info_parts Try.infoS
  obtain ⟨v, hb, hq, hn, hF⟩ := h
  obtain ⟨a, cap, rfl, lc1, lc2⟩ := hq.val
  have c3 := hb.cell 3
  have f3 := hb.free 3
  simp only [rtC] at c3
  change _ = some (Value.bool t.cut) at c3
  have HB := Lib.hid hb; have HQ := Lib.hid hq; have HN := Lib.hid hn; have HF := Lib.hid hF
  have fr := (hF r).mpr (.inl rfl)
  obtain ⟨W1, hW1⟩ : ∃ W1, w.setCell ⟨r, 3, none⟩ (.bool true) = W1 := ⟨_, rfl⟩
  have R1 := Lib.hid (show Blk W1 46 r (rtC { t with cut := true } (.slice a t.l.length cap)) by rw [← hW1]; exact HB.out.set 3 _)
  have K1 := Lib.hid (show Keeps F w W1 by rw [← hW1]; exact (Keeps.refl F w).set (.inl fr) _ _)
  have Q1 := Lib.hid (show QueS W1 (.slice a t.l.length cap) t.l from QueR.keeps HQ.out (F := fun k => k = r) (by rw [← hW1]; exact (Keeps.refl (fun k => k = r) w).set (.inl rfl) _ _) (fun g e q => HN.out (by rw [e, q])))
  obtain ⟨ln, hln⟩ : ∃ ln, t.l.length = ln := ⟨_, rfl⟩
  rw [hln] at R1 few
  have LN := Lib.hid hln
  clear hb hq hn hF
  go_enter Try.func18, Try.ntmps18
  go_upto_region 2 with fail
  clear hW1 c3 f3
  go_wp2
  go_loopw [5, 6] (fun v u wr => ∃ (i : Nat) (ns : List Sb), u = .int .i64 (i : Int) ∧ i ≤ ln ∧ ns = (t.l.take i).filter (fun s => decide (s.R ≤ at_)) ∧ QueR wr W1.heap.size 35 5 v ns.length (ns.map Sb.cs).flatten ∧ Below W1.heap.size W1 wr) (fun _ u _ => ln - (intOf u).toNat)
  case atStart => exact ⟨0, [], rfl, Nat.zero_le _, by simp, QueR.nil _ _ _ _, Below.refl _ _⟩
  case round =>
    obtain ⟨i, ns, rfl, il, hns, hq, hbel⟩ := hrel
    have NS := Lib.hid hns
    have HO := Lib.hid hq
    have B := Lib.hid hbel
    have RW := Lib.hid (R1.out.below hbel)
    have QW := Lib.hid (QueR.below Q1.out hbel)
    have nl := List.length_filter_le (fun s : Sb => decide (s.R ≤ at_)) (t.l.take i)
    rw [← hns, List.length_take] at nl
    have c6 := RW.out.cell 6
    have f6 := RW.out.free 6
    simp only [rtC] at c6
    change _ = some (Value.slice a ln cap) at c6
    obtain ⟨nn, hnn⟩ : ∃ nn, ns.length = nn := ⟨_, rfl⟩
    have NN := Lib.hid hnn
    rw [hnn] at HO nl
    clear hns hq hbel hnn
    by_cases hlt : i < ln
    · have b1 : decide (i < ln) = true := by simp; omega
      have b2 : decide ((i : Int) < (ln : Int)) = true := by simp; omega
      obtain ⟨s, hs⟩ : ∃ s, t.l[i]? = some s := ⟨t.l[i]'(by rw [LN.out]; exact hlt), List.getElem?_eq_getElem _⟩
      obtain ⟨bl, ol, cp, hv, hat⟩ := QueS.at QW.out hs
      cases hv
      have y0 := hat.c0; have y1 := hat.c1; have y2 := hat.c2; have y3 := hat.c3; have y4 := hat.c4
      have HS := Lib.hid hs
      have i1 : (i : Int) < (ln : Int) := by omega
      have i2 : 0 ≤ (i : Int) := by omega
      have wi : IntKind.i64.wrap ((i : Int) + 1) = (i : Int) + 1 := IntWalk.i64_in _ (by omega)
      clear hat hs
      by_cases hle : s.R ≤ at_
      · have t1 : decide (s.R ≤ at_) = true := by simp; omega
        have NX := Lib.hid (show ns ++ [s] = (t.l.take (i + 1)).filter (fun s => decide (s.R ≤ at_)) by rw [NS.out]; exact (filter_yes HS.out t1).symm)
        go_wp2_with (at_builtin; refine wpList_append_que _ rfl _ _ 44 rfl W1.heap.size 35 i0 sub0.v 5 40 Try.underlying44 hi hz0 hz1 hz2 rfl (by decide) _ nn (ns.map Sb.cs).flatten rfl (HO.out.below (wbox _ _)) ⟨wr.heap.size, 0, none⟩ 1 1 s.cs rfl rfl (World.news_of_block (heap_alloc_new wr _)) (oneS s) (by unfold maxLen; omega) (by omega) (by have := B.out.size; simp; omega) ?_; intro v2 w2 hq2 hg2; have Q2 := Lib.hid hq2; have B2 := Lib.hid (below_que B.out HO.out hg2); clear hq2 hg2)
        go_roundw
        case rel => exact ⟨i + 1, ns ++ [s], by simp, by omega, NX.out, by rw [List.length_append, List.map_append, List.flatten_append, NN.out]; simpa using Q2.out, B2.out⟩
        case measure => simp [intOf]; omega
      · have t1 : decide (s.R ≤ at_) = false := by simp; omega
        have NX := Lib.hid (show ns = (t.l.take (i + 1)).filter (fun s => decide (s.R ≤ at_)) by rw [NS.out]; exact (filter_no HS.out t1).symm)
        go_wp2
        go_roundw
        case rel => exact ⟨i + 1, ns, by simp, by omega, NX.out, by rw [NN.out]; exact HO.out, B.out⟩
        case measure => simp [intOf]; omega
    · have b1 : decide (i < ln) = false := by simp; omega
      have b2 : decide ((i : Int) < (ln : Int)) = false := by simp; omega
      obtain ⟨av, cv, hv, _, _, _⟩ := HO.out.value
      subst hv
      have LE := Lib.hid (show ns = leftL t at_ by rw [NS.out, List.take_of_length_le (by rw [LN.out]; omega)]; rfl)
      have wn : IntKind.i64.wrap ((ln : Int) - (nn : Int)) = (ln : Int) - (nn : Int) := IntWalk.i64_in _ (by omega)
      have CN := Lib.hid (show (ln : Int) - (nn : Int) = cutN t at_ by unfold cutN; rw [← LE.out, NN.out, LN.out])
      have nr : (Value.slice av nn cv).ownBlock ≠ some r := fun e => by
        have h1 := (HO.out.lt r e).1
        have h2 := R1.out.lt
        omega
      go_wp2
      go_ret
      refine ⟨ret_one CN.out, fun k => k = r ∨ (Value.slice av nn cv).ownBlock = some k, ⟨.slice av nn cv, RW.out.set 6 _, ?_, nr, fun k => Iff.rfl⟩, (K1.out.next B.out).set (.inl fr) _ _, fun k q => ?_, fun k q => ?_⟩
      · have hq := HO.out
        show QueR _ 0 35 5 _ (leftL t at_).length ((leftL t at_).map Sb.cs).flatten
        rw [← LE.out, NN.out]
        exact (hq.base (fun _ _ => Nat.zero_le _)).carry (fun x hx => Below.heap_setCell _ _ _ _ (fun e => nr (by rw [hx, show x = r from e])))
      · rcases q with q | q
        · subst q; exact .inl fr
        · have h1 := (HO.out.lt k q).1
          have h2 := K1.out.size
          exact .inr (by omega)
      · rcases q with q | q
        · subst q; have := RW.out.lt; simpa using this
        · have := (HO.out.lt k q).2; simpa using this
end Go.Proofs.Ythaoijmjkmgebaa
