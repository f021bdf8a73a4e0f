/-
  The document's seats (regattaref17): New, Take, Give, IDs: contracts.
-/
import Derived.Test.YtgkmhnkndjfcaaaUe2
namespace Go.Proofs.Ytgkmhnkndjfcaaa
open Go.RowKit

theorem ups_take {n i : Nat} (h : i ≤ n) : (ups n).take i = ups i := by
  unfold ups
  rw [← List.map_take, List.take_range, Nat.min_eq_left h]
/-- a queue of numbers, behind an append -/
theorem que_grown {W w2 : World} {v : Value} (hg : W.grownBy w2 v.ownBlock) {T : TypeId} {h : Nat} {cs : Array Value} (X : Blk W T h cs) (ne : v.ownBlock ≠ some h) : Blk w2 T h cs := (hg.block h X.lt (fun e => ne e.symm)).trans X
set_option maxRecDepth 20000 in
set_option maxHeartbeats 4000000 in
theorem r17new_any (n : Nat) (w : World) (n1 : 1 ≤ n) (n64 : n ≤ 64) :
    Calls Try.prog 9 #[.int .i64 n] w fun z w' => ∃ h G, z = .returned (.pointer (some ⟨h, 0, none⟩)) ∧ RP w' h G n (ups n) ∧ From G w.heap.size ∧ Below w.heap.size w w' := by
  go_enter Try.func9, Try.ntmps9
  go_wp2
  obtain ⟨h, hh⟩ : ∃ h, w.heap.size = h := ⟨_, rfl⟩
  obtain ⟨W1, hW1⟩ : ∃ W1, w.alloc (.cells #[.int .i64 n, .slice none 0 0] 36) = W1 := ⟨_, rfl⟩
  have B1 := Lib.hid (show Below h w W1 by rw [← hW1, ← hh]; exact wbox _ _)
  have X1 := Lib.hid (show Blk W1 36 h #[.int .i64 n, .slice none 0 0] by rw [← hW1, ← hh]; exact Blk.new _ _ _)
  rw [hW1, hh]
  clear hW1
  go_loopw [4] (fun u wr => ∃ (i : Nat) (v : Value), u = .int .i64 i ∧ i ≤ n ∧ Blk wr 36 h #[.int .i64 n, v] ∧ QueR wr (h + 1) 3 1 v (ups i).length ((ups i).map (Value.int .i64)) ∧ Below h w wr) (fun u _ => n - (intOf u).toNat)
  case atStart => exact ⟨0, _, rfl, by omega, X1.out, QueR.nil _ _ _ _, B1.out⟩
  case round =>
    obtain ⟨i, v, rfl, i1, hx, hq, hb⟩ := hrel
    have X := Lib.hid hx
    have Q := Lib.hid hq
    have B := Lib.hid hb
    clear hx hq hb
    by_cases go : i < n
    · have b1 : decide ((i : Int) < (n : Int)) = true := by simp; omega
      have b1' : decide (i < n) = true := by simp; omega
      have x1 := X.out.cell 1
      have f1 := X.out.free 1
      simp at x1
      have NE := Lib.hid (show v.ownBlock ≠ some h from fun e => by have := (Q.out.lt h e).1; omega)
      have XL := X.out.lt
      have UL : (ups i).length ≤ 100000 := by rw [ups_len]; omega
      have US := Lib.hid (ups_succ i)
      go_wp2_with (at_builtin; refine app_qint rfl _ _ rfl (h + 1) v (ups i) rfl (Q.out.below (wbox wr (.cells #[.int .i64 i] 3))) wr.heap.size i rfl (heap_alloc_new wr _) (by have := (wbox wr (.cells #[.int .i64 (i : Int)] 3)).size; omega) UL ?_; intro g' off cap w2 h1 h2 h3; have Q2 := Lib.hid h1; have X2 := Lib.hid (que_grown h2 (X.out.alloc _) NE.out); have B2 := Lib.hid (show Below h w w2 from (B.out.alloc (by omega) _).grown h2 (by have := (wbox wr (.cells #[.int .i64 (i : Int)] 3)).size; omega) (fun q e => by have := (Q.out.lt q e).1; omega)); have y1 := X2.out.cell 1; have g1 := X2.out.free 1; simp at y1; clear h1 h2 h3)
      have GN := Lib.hid (show g' ≠ h from fun e => by have := (Q2.out.lt g' rfl).1; omega)
      have X3 := Lib.hid (show Blk (w2.setCell ⟨h, 1, none⟩ (.slice (some ⟨g', off, none⟩) ((ups i).length + 1) cap)) 36 h #[.int .i64 n, .slice (some ⟨g', off, none⟩) ((ups i).length + 1) cap] from heap_setCell_same w2 h 1 _ _ _ X2.out)
      have Q3 := Lib.hid (show QueR (w2.setCell ⟨h, 1, none⟩ (.slice (some ⟨g', off, none⟩) ((ups i).length + 1) cap)) (h + 1) 3 1 (.slice (some ⟨g', off, none⟩) ((ups i).length + 1) cap) ((ups i).length + 1) ((ups i ++ [(i : Int)]).map (Value.int .i64)) from Q2.out.keeps ((Keeps.refl (fun k => k = h) w2).set (.inl rfl) _ _) (fun g e q => by cases e; exact GN.out q))
      have B3 := Lib.hid (show Below h w (w2.setCell ⟨h, 1, none⟩ (.slice (some ⟨g', off, none⟩) ((ups i).length + 1) cap)) from B2.out.setCell (Nat.le_refl _) _)
      go_roundw
      case rel => exact ⟨i + 1, _, by go_num, by omega, X3.out, by rw [US.out, List.length_append]; exact Q3.out, B3.out⟩
      case measure => simp [intOf]; omega
    · have b1 : decide ((i : Int) < (n : Int)) = false := by simp; omega
      have b1' : decide (i < n) = false := by simp; omega
      obtain rfl : i = n := by omega
      go_wp2
      go_ret
      refine ⟨h, fun k => k = h ∨ v.ownBlock = some k, rfl, ⟨v, good_new n1 n64, X.out, ?_, fun e => ?_, fun k => Iff.rfl⟩, fun k q => ?_, by rw [hh]; exact B.out⟩
      · exact Q.out.base fun g _ => Nat.zero_le _
      · have := (Q.out.lt h e).1; omega
      · rw [hh]
        rcases q with q | q
        · omega
        · have := (Q.out.lt k q).1; omega
set_option maxRecDepth 20000 in
set_option maxHeartbeats 4000000 in
theorem r17take_any (h n : Nat) (G : Nat → Prop) (fr : List Int) (w : World) (r : RP w h G n fr) :
    Calls Try.prog 11 #[.pointer (some ⟨h, 0, none⟩)] w fun z w' => z = .returned (.tuple #[.int .i64 (takeV fr).1, .int .i64 (takeV fr).2.1]) ∧ StaysS RP w h G n (takeV fr).2.2 w' := by
  obtain ⟨v, r⟩ := r
  have R := Lib.hid r
  have x1 := r.blk.cell 1
  have f1 := r.blk.free 1
  simp at x1
  obtain ⟨a, cap, hv, k1, k2, hc⟩ := r.cell
  subst hv
  cases fr with
  | nil =>
    have V := Lib.hid (RP.stays ⟨_, r⟩ (Below.refl _ _))
    clear hc r
    go_enter Try.func11, Try.ntmps11
    go_wp2
    go_ret2
    exact ⟨rfl, V.out⟩
  | cons x fr =>
    obtain ⟨g, off, rfl, y⟩ := hc 0 x rfl
    rw [Nat.add_zero] at y
    obtain ⟨len, hl⟩ : ∃ len, (x :: fr).length = len := ⟨_, rfl⟩
    have LN := Lib.hid hl
    rw [hl] at x1 k1
    have l1 : 1 ≤ len := by rw [← hl, List.length_cons]; omega
    have b1 : ((len : Int) == 0) = false := by simp; omega
    have b2 : decide ((0 : Int) < (len : Int)) = true := by simp; omega
    have i3 : (0 : Int) < (len : Int) := by omega
    have i4 : (1 : Int) ≤ (len : Int) := by omega
    have i5 : (len : Int) ≤ (cap : Int) := by omega
    have i6 : (1 : Int) ≤ (cap : Int) := by omega
    have nz : ¬ len = 0 := by omega
    have HN := Lib.hid (show g ≠ h from fun e => R.out.ne (by rw [e]; rfl))
    have FIN := Lib.hid (show ∀ (v' : Value) , (v'.ownBlock = some g) → QueR w 0 3 1 v' fr.length (fr.map (Value.int .i64)) → StaysS RP w h G n fr (w.setCell ⟨h, 1, none⟩ v') from fun v' ho hq => by
      have kk : Keeps (fun k => k = h) w (w.setCell ⟨h, 1, none⟩ v') := (Keeps.refl (fun k => k = h) w).set (.inl rfl) _ _
      refine ⟨G, ⟨v', R.out.good.tail, heap_setCell_same w h 1 _ _ _ R.out.blk, hq.keeps kk (fun q e e2 => ?_), fun e => ?_, fun k => ?_⟩, ?_⟩
      · rw [ho] at e; cases e; exact HN.out e2
      · rw [ho] at e; cases e; exact HN.out rfl
      · rw [R.out.has k, ho]; rfl
      · exact ⟨⟨kk.os, kk.tape, kk.output, kk.size, fun k hk hf => kk.block k hk (fun e => hf ((R.out.has k).mpr (.inl e)))⟩, fun k q => .inl q, fun k q => Nat.lt_of_lt_of_le (R.out.lies k q) kk.size⟩)
    have Q0 := Lib.hid (show QueR w 0 3 1 (.slice (some ⟨g, off, none⟩) len cap) len ((x :: fr).map (Value.int .i64)) by rw [← hl]; exact R.out.que)
    clear hc r hl
    by_cases e : cap = 1
    · have l0 : len - 1 = 0 := by omega
      have lf := Lib.hid (show fr = [] by have := LN.out; rw [List.length_cons] at this; exact List.length_eq_zero_iff.mp (by omega))
      have V := Lib.hid (FIN.out (.slice (some ⟨g, off, none⟩) 0 0) rfl (by rw [lf.out]; exact Q0.out.empty (by omega)))
      have le : len = 1 := by omega
      subst e le
      clear FIN Q0 b2
      go_enter Try.func11, Try.ntmps11
      go_wp2
      go_ret2
      exact ⟨rfl, V.out⟩
    · have ce : ¬ (cap : Int) = 1 := by omega
      have V := Lib.hid (FIN.out (.slice (some ⟨g, off + 1, none⟩) (len - 1) (cap - 1)) rfl (by
        have := Q0.out.drop (k := 1) (by omega)
        rw [Nat.one_mul] at this
        have e2 : len - 1 = fr.length := by have := LN.out; rw [List.length_cons] at this; omega
        rw [← e2]
        simpa using this))
      clear FIN Q0
      go_enter Try.func11, Try.ntmps11
      go_wp2
      go_ret2
      exact ⟨rfl, V.out⟩
end Go.Proofs.Ytgkmhnkndjfcaaa
