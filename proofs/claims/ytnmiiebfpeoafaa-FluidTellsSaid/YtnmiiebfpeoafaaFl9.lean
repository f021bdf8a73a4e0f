/-
  What package fluid's Runs and Follows give back: contracts.
-/
import Derived.Test.YtnmiiebfpeoafaaFl8
import Derived.Test.YtnmiiebfpeoafaaWr3
namespace Go.Proofs.Ytnmiiebfpeoafaa
open Go.RowKit Go.Shelf

theorem keepsFrom_below {B : Nat} {W W' : World} (h : Below W.heap.size W W') : KeepsFrom B W W' :=
  ⟨h.size, fun k _ _ hk _ => (h.block k (Array.getElem?_eq_some_iff.1 hk).1).trans hk⟩
theorem kept_below {n₀ Bs : Nat} {W W' : World} (h : Below W.heap.size W W') (hn : n₀ ≤ W.heap.size) (hB : Bs < W.heap.size) : Kept n₀ Bs W W' := ⟨h.mono hn, h.block Bs hB⟩

theorem own_blk {β : Type} (T : TypeId) (g : Nat) (cs : Array Value) : Own (fun (_ : β) W => Blk W T g cs) := fun _ A B _ hs hg hr =>
  (hg.block g hs.lt (fun e => by obtain ⟨o, ho, hc⟩ := hr g e.symm; rw [show A.heap[g]? = _ from hs] at ho; cases ho; cases hc)).trans hs
/-- the second number of the last that came -/
def lastR (pre : List (Int × Int)) : Int := (pre.getLast?.map (·.2)).getD 0
theorem lastR_snoc (pre : List (Int × Int)) (x : Int × Int) : lastR (pre ++ [x]) = x.2 := by simp [lastR]

section
attribute [local go_sem] Oper.semAt_some
set_option maxRecDepth 100000 in
set_option maxHeartbeats 2000000 in
theorem fruns_any (a : Option Addr) (len cap : Nat) (bs : List Bool) (hlen : len ≤ 4611686018427387904) (w : World) (hR : RowB w a len cap bs) :
    Calls Try.prog 19 #[.slice a len cap] w fun e w' => e = .returned (.int .i64 (runsI bs)) ∧ Below w.heap.size w w' := by
  refine (callsIn_wide (n := 3)).1 ?_
  refine callsIn_of_wp_marks Try.func19 rfl trivial ?_ rfl
  simp only [Try.ntmps19, List.size_toArray, List.length_cons, List.length_nil, Nat.reduceAdd, Nat.reduceSub, Array.replicate_succ, Array.replicate_zero, List.push_toArray, List.append_toArray, List.nil_append, List.cons_append]
  refine wpIn_wide.2 ?_
  go_wp2_with fail
  refine (fparts_any _ _ _ _).mono ?_
  rintro e w' ⟨rfl, rfl⟩
  go_wp2_with fail
  refine (wpIn_wide (n := 3)).1 ?_
  have B0 : Below w.heap.size w ((w.alloc (.cells #[.int .i64 0] 2)).alloc (.cells #[.slice a len cap] 25)) := wbox2 _ _ _
  have K0 : Blk ((w.alloc (.cells #[.int .i64 0] 2)).alloc (.cells #[.slice a len cap] 25)) 2 w.heap.size #[.int .i64 0] := (Blk.new w 2 #[.int .i64 0]).alloc _
  have K1 := Blk.new2 w (.cells #[.int .i64 0] 2) 25 #[.slice a len cap]
  refine wpIn_rangeFunc_ownG rfl (by omega) (gf := 44) (lb := #[.pointer (some ⟨w.heap.size + 1, 0, none⟩)]) rfl trivial (enters_of Try.func44 (by kernel_rfl) rfl)
    (parts_stops _ (by omega) (w.heap.size + 1) w.heap.size len cap a bs hlen hR.low _ K1 (hR.below B0)) Kept.trans (kept_b (by simp; omega) (by simp)) (Below.refl _ _) (fun _ => rfl)
    (fun pre W => (W.cell? ⟨w.heap.size, 0, none⟩ = some (.int .i64 (lastR pre)) ∧ W.frozen? ⟨w.heap.size, 0, none⟩ = false) ∧ Below w.heap.size w W)
    (fun _ _ _ => False)
    (OwnFrom.and (Own.from (fun s A B row hs hg hr => ⟨cell_kept hs.1 hg hr, (frozen_kept hs.1 hg hr).trans hs.2⟩) _) (ownFrom_below (Nat.le_refl _) (by simp; omega)))
    (fun _ _ _ _ _ hs _ _ => hs)
    ⟨⟨K0.cell 0, K0.free 0⟩, B0⟩
    (fun x => { tmps := #[.slice a len cap, undef, .int .i64 0, .pointer (some ⟨w.heap.size, 0, none⟩), undef, .int .i64 x.2, .slice a len cap, .func (.func 44) #[] #[.pointer (some ⟨w.heap.size + 1, 0, none⟩)], .int .i64 x.1, .int .i64 x.2, undef, undef], defers := [] }) ?assign ?body ?done ?stop
  case assign =>
    intro l x W K hK
    gi_wp2
    exact hK
  case body =>
    rintro l pre x W ⟨⟨hc, hf⟩, hB⟩ _
    gi_wp2
    exact ⟨(KeepsOthers.setCell _ _ _).from _, ⟨(Below.refl w.heap.size W).setCell (p := ⟨w.heap.size, 0, none⟩) (Nat.le_refl _) _, Below.heap_setCell _ _ _ _ (by simp)⟩, ⟨by rw [lastR_snoc]; exact World.cell?_setCell_same' _ _ _ (by rw [hc]; rfl), by rw [World.frozen?_setCell]; exact hf⟩, hB.setCell (p := ⟨w.heap.size, 0, none⟩) (Nat.le_refl _) _⟩
  case done =>
    rintro D ys W hD rfl ⟨⟨hc, _⟩, hB⟩ hK
    have hl : lastR (upto bs (len + 1)) = runsI bs := by
      rw [upto_succ, lastR_snoc]
      show runsI (bs.take len) = _
      rw [← hR.len, List.take_length]
    rw [hl] at hc
    go_wp2
    refine ⟨by simp, .inl ⟨_, _, rfl, run_takeDeferred hK, ?_⟩⟩
    exact ⟨_, results_tmp rfl _ _ _, rfl, hB.trans (belowK_b (w := w) (Nat.le_refl _) W D _ _ (by simp at hD; omega) hK rfl rfl)⟩
  case stop =>
    rintro D c pre W _ _ h _
    exact h.elim

/-- does each part of the row, from its beginning on, be fair? -/
def followsB (E P : Int) (bs : List Bool) : Bool := (List.range (bs.length + 1)).all (fun k => fairB E P (partF bs k).1 (partF bs k).2)
theorem followsB_yes {E P : Int} {bs : List Bool} (h : ∀ x ∈ upto bs (bs.length + 1), fairB E P x.1 x.2 = true) : followsB E P bs = true := by
  unfold followsB
  rw [List.all_eq_true]
  intro k hk
  exact h _ (upto_mem (List.mem_range.1 hk))
theorem followsB_no {E P : Int} {bs : List Bool} {k : Nat} (hk : k ≤ bs.length) (h : fairB E P (partF bs k).1 (partF bs k).2 = false) : followsB E P bs = false := by
  cases e : followsB E P bs
  · rfl
  · unfold followsB at e
    rw [List.all_eq_true] at e
    have := e k (List.mem_range.2 (by omega))
    rw [h] at this
    cases this

set_option maxRecDepth 100000 in
set_option maxHeartbeats 2000000 in
theorem ffollows_any (E P : Int) (a : Option Addr) (len cap : Nat) (bs : List Bool) (hlen : len ≤ 4611686018427387904) (w : World) (hR : RowB w a len cap bs) (t : Bool) (ht : followsB E P bs = t) :
    Calls Try.prog 18 #[.agg #[.int .i64 E, .int .i64 P], .slice a len cap] w fun e w' => e = .returned (.bool t) ∧ Below w.heap.size w w' := by
  refine (callsIn_wide (n := 3)).1 ?_
  refine callsIn_of_wp_marks Try.func18 rfl trivial ?_ rfl
  simp only [Try.ntmps18, List.size_toArray, List.length_cons, List.length_nil, Nat.reduceAdd, Nat.reduceSub, Array.replicate_succ, Array.replicate_zero, List.push_toArray, List.append_toArray, List.nil_append, List.cons_append]
  refine wpIn_wide.2 ?_
  go_wp2_with fail
  go_step3
  go_wp2_with fail
  go_step3
  go_wp2_with fail
  refine (fparts_any _ _ _ _).mono ?_
  rintro e w' ⟨rfl, rfl⟩
  go_wp2_with fail
  refine (wpIn_wide (n := 3)).1 ?_
  obtain ⟨W0, hW0⟩ : ∃ W0, ((w.alloc (.cells #[.int .i64 E, .int .i64 P] 24)).alloc (.cells #[.bool true] 4)).alloc (.cells #[.slice a len cap] 25) = W0 := ⟨_, rfl⟩
  have B0 : Below w.heap.size w W0 := hW0 ▸ wbox3 _ _ _ _
  have K0 : Blk W0 24 w.heap.size #[.int .i64 E, .int .i64 P] := hW0 ▸ ((Blk.new w 24 #[.int .i64 E, .int .i64 P]).alloc _).alloc _
  have K1 : Blk W0 4 (w.heap.size + 1) #[.bool true] := hW0 ▸ (Blk.new2 w _ 4 #[.bool true]).alloc _
  have K2 : Blk W0 25 (w.heap.size + 1 + 1) #[.slice a len cap] := by rw [← hW0, ← wsize w (.cells #[.int .i64 E, .int .i64 P] 24)]; exact Blk.new2 _ _ _ _
  rw [hW0]
  have Z0 : W0.heap.size = w.heap.size + 1 + 1 + 1 := by rw [← hW0]; simp
  clear hW0
  refine wpIn_rangeFunc_ownG rfl (by omega) (gf := 44) (lb := #[.pointer (some ⟨w.heap.size + 1 + 1, 0, none⟩)]) rfl trivial (enters_of Try.func44 (by kernel_rfl) rfl)
    (parts_stops _ (by omega) (w.heap.size + 1 + 1) w.heap.size len cap a bs hlen hR.low _ K2 (hR.below B0)) Kept.trans (kept_b (by omega) (by omega)) (Below.refl _ _) (fun _ => rfl)
    (fun pre W => (((Blk W 24 w.heap.size #[.int .i64 E, .int .i64 P] ∧ Blk W 4 (w.heap.size + 1) #[.bool true]) ∧ Blk W 25 (w.heap.size + 1 + 1) #[.slice a len cap]) ∧ (∀ x ∈ pre, fairB E P x.1 x.2 = true)) ∧ Below w.heap.size w W)
    (fun c pre W => ((c = .exit 0 ∧ ∃ ini last, pre = ini ++ [last] ∧ fairB E P last.1 last.2 = false) ∧ Blk W 4 (w.heap.size + 1) #[.bool false]) ∧ Below w.heap.size w W)
    (OwnFrom.and (OwnFrom.and (OwnFrom.and (OwnFrom.and ((own_blk _ _ _).from _) ((own_blk _ _ _).from _)) ((own_blk _ _ _).from _)) (ownFrom_pure _ _)) (ownFrom_below (Nat.le_refl _) (by omega)))
    (fun c => OwnFrom.and (OwnFrom.and (ownFrom_pure _ _) ((own_blk _ _ _).from _)) (ownFrom_below (Nat.le_refl _) (by omega)))
    ⟨⟨⟨⟨K0, K1⟩, K2⟩, fun x hx => by cases hx⟩, B0⟩
    (fun x => { tmps := #[.agg #[.int .i64 E, .int .i64 P], .slice a len cap, .pointer (some ⟨w.heap.size, 0, none⟩), undef, .bool false, .pointer (some ⟨w.heap.size + 1, 0, none⟩), .int .i64 x.1, .int .i64 x.2, .slice a len cap, .func (.func 44) #[] #[.pointer (some ⟨w.heap.size + 1 + 1, 0, none⟩)], .int .i64 x.1, .int .i64 x.2, undef, undef, undef, undef, undef, undef, undef], defers := [] }) ?assign ?body ?done ?stop
  case assign =>
    intro l x W K hK
    gi_wp2
    exact hK
  case body =>
    rintro l pre x W ⟨⟨⟨⟨k0, k1⟩, k2⟩, hp⟩, hB⟩ _
    have hd : 1 ≤ 3 - 1 - 1 := by omega
    have c0 := k0.cell 0
    have c1 := k0.cell 1
    simp at c0 c1
    have X1 := Lib.hid k1
    cases hx : fairB E P x.1 x.2
    · gi_wp2_with (refine ⟨trivial, ?_⟩; gi_at_call 14; refine (CallsIn.inRound l (callsIn_wide.2 (ffair_any E P x.1 x.2 _ false hx))).mono ?_; rintro e w' ⟨rfl, hb⟩; have BB := Lib.hid hb; have K1 := Lib.hid (X1.out.below hb); have d1 := K1.out.cell 0; have d2 := K1.out.free 0; simp at d1; clear hb)
      exact ⟨(keepsFrom_below BB.out).trans ((KeepsOthers.setCell _ _ _).from _), ⟨⟨rfl, pre, x, rfl, hx⟩, K1.out.set 0 _⟩, (hB.trans (BB.out.mono hB.size)).setCell (p := ⟨w.heap.size + 1, 0, none⟩) (by simp) _⟩
    · gi_wp2_with (refine ⟨trivial, ?_⟩; gi_at_call 14; refine (CallsIn.inRound l (callsIn_wide.2 (ffair_any E P x.1 x.2 _ true hx))).mono ?_; rintro e w' ⟨rfl, hb⟩; have BB := Lib.hid hb; have K1 := Lib.hid (X1.out.below hb); have d1 := K1.out.cell 0; have d2 := K1.out.free 0; simp at d1; clear hb)
      have k3 := (k0.below BB.out).other ⟨w.heap.size + 1, 0, none⟩ (.bool true) (by simp)
      have k4 := (k2.below BB.out).other ⟨w.heap.size + 1, 0, none⟩ (.bool true) (by simp)
      refine ⟨(keepsFrom_below BB.out).trans ((KeepsOthers.setCell _ _ _).from _), (kept_below BB.out hB.size k2.lt).trans ⟨(Below.refl w.heap.size _).setCell (p := ⟨w.heap.size + 1, 0, none⟩) (by simp) _, Below.heap_setCell _ _ _ _ (by simp)⟩, ⟨⟨⟨k3, K1.out.set 0 _⟩, k4⟩, fun y hy => ?_⟩, (hB.trans (BB.out.mono hB.size)).setCell (p := ⟨w.heap.size + 1, 0, none⟩) (by simp) _⟩
      rcases List.mem_append.1 hy with h | h
      · exact hp y h
      · simp at h; subst h; exact hx
  case done =>
    rintro D ys W hD rfl ⟨⟨⟨⟨k0, k1⟩, k2⟩, hp⟩, hB⟩ hK
    obtain rfl : true = t := by rw [← ht]; exact (followsB_yes (by rw [hR.len]; exact hp)).symm
    have c0 := k1.cell 0
    simp at c0
    go_wp2
    rw [Exit.noGoto_ret]
    refine ⟨by simp, .inl ⟨_, _, rfl, run_takeDeferred hK, ?_⟩⟩
    exact ⟨_, results_tmp rfl _ _ _, rfl, hB.trans (belowK_b (w := w) (Nat.le_refl _) W D _ _ (by omega) hK rfl rfl)⟩
  case stop =>
    rintro D c pre W hD ⟨k, hk, rfl⟩ ⟨⟨⟨rfl, ini, last, e1, e2⟩, k1⟩, hB⟩ hK
    obtain ⟨k', rfl⟩ : ∃ k', k = k' + 1 := by
      cases k with
      | zero => simp [upto] at e1
      | succ k' => exact ⟨k', rfl⟩
    rw [upto_succ] at e1
    obtain ⟨_, e5⟩ := List.append_inj' e1 rfl
    obtain rfl : partF bs k' = last := by simpa using e5
    obtain rfl : false = t := by rw [← ht]; exact (followsB_no (by rw [hR.len]; omega) e2).symm
    have c0 := k1.cell 0
    simp at c0
    refine (wpIn_wide (n := 3)).2 ?_
    go_wp2
    refine ⟨by simp, .inl ⟨_, _, rfl, run_takeDeferred hK, ?_⟩⟩
    exact ⟨_, results_tmp rfl _ _ _, rfl, hB.trans (belowK_b (w := w) (Nat.le_refl _) W D _ _ (by omega) hK rfl rfl)⟩
end
end Go.Proofs.Ytnmiiebfpeoafaa
