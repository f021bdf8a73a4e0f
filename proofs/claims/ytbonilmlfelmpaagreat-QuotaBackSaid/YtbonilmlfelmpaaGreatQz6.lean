/-
  Package quota as landed: each: contracts.
-/
import Derived.Test.YtbonilmlfelmpaaGreatQzA
import Derived.Sort.CutIn
namespace Go.Proofs.YtbonilmlfelmpaaGreat
open Go.RowKit Go.Shelf

/-- the ledgers' own blocks -/
def ledF (t : TreeW) (n k : Nat) : Prop := ∃ i, i ≤ n ∧ t.Fs i k
theorem blk_own {W W' : World} {T : TypeId} {g : Nat} {cs : Array Value} {row : Option Nat} (h : Blk W T g cs) (hg : W.grownBy W' row) (hr : ∀ r, row = some r → ∃ o : Obj, W.heap[r]? = some o ∧ o.isCells = false) : Blk W' T g cs :=
  (hg.block g h.lt (fun e => by obtain ⟨o, ho, hc⟩ := hr _ e.symm; rw [show W.heap[g]? = _ from h] at ho; cases ho; cases hc)).trans h
theorem TT.own {W W' : World} {t : TreeW} {S : List Sv} {N D : Int} {Ls : Int → List Hd} {B : Nat} {row : Option Nat} (h : TT W t S N D Ls) (hT : ∀ k, ownT t S.length k ∨ readT t S.length k → k < B) (hg : W.grownBy W' row) (hr : ∀ r, row = some r → B ≤ r) : TT W' t S N D Ls :=
  h.keeps (G := fun k => row = some k) ((Keeps.refl (fun k => row = some k) W).grown hg (fun _ e => .inl e)) (fun b hb e => by have := hT b (.inl hb); have := hr b e; omega) (fun b hb e => by have := hT b (.inr hb); have := hr b e; omega)
/-- what a round of a stage finds: the ledgers so far, the boxes -/
structure StI (wb : World) (t : TreeW) (S : List Sv) (N D : Int) (op : OpL) (Ls : Int → List Hd) (fv : Value) (bt be ba : Nat) (pre : List Int) (W : World) : Prop where
  st : ∃ L1, stageV S N D op pre Ls = (0, L1) ∧ TT W t S N D L1
  tb : Blk W 31 bt #[.pointer (some ⟨t.g, 0, none⟩)]
  eb : Blk W 43 be #[.int .i64 0]
  ab : Blk W 81 ba #[fv]
  kp : Keeps (fun k => ledF t S.length k ∨ k = be) wb W
/-- .. what it leaves that breaks off -/
structure StX (wb : World) (t : TreeW) (S : List Sv) (N D : Int) (op : OpL) (Ls : Int → List Hd) (be id : Nat) (pre : List Int) (W : World) : Prop where
  is0 : id = 0
  st : ∃ c L1, c ≠ 0 ∧ stageV S N D op pre Ls = (c, L1) ∧ TT W t S N D L1 ∧ Blk W 43 be #[.int .i64 c]
  kp : Keeps (fun k => ledF t S.length k ∨ k = be) wb W
theorem StI.own {wb : World} {t : TreeW} {S : List Sv} {N D : Int} {op : OpL} {Ls : Int → List Hd} {fv : Value} {bt be ba : Nat} (hT : ∀ k, ownT t S.length k ∨ readT t S.length k → k < wb.heap.size) : OwnFrom wb.heap.size (StI wb t S N D op Ls fv bt be ba) := fun pre A B row h hg hr => by
  obtain ⟨L1, h1, h2⟩ := h.st
  have hr2 := fun r e => (hr r e).2
  exact ⟨⟨L1, h1, h2.own hT hg (fun r e => (hr r e).1)⟩, blk_own h.tb hg hr2, blk_own h.eb hg hr2, blk_own h.ab hg hr2, h.kp.grown hg (fun k e => .inr (hr k e).1)⟩
theorem StX.own {wb : World} {t : TreeW} {S : List Sv} {N D : Int} {op : OpL} {Ls : Int → List Hd} {be id : Nat} (hT : ∀ k, ownT t S.length k ∨ readT t S.length k → k < wb.heap.size) : OwnFrom wb.heap.size (StX wb t S N D op Ls be id) := fun pre A B row h hg hr => by
  obtain ⟨c, L1, h0, h1, h2, h3⟩ := h.st
  have hr2 := fun r e => (hr r e).2
  exact ⟨h.is0, ⟨c, L1, h0, h1, h2.own hT hg (fun r e => (hr r e).1), blk_own h3 hg hr2⟩, h.kp.grown hg (fun k e => .inr (hr k e).1)⟩
theorem stage_else {S : List Sv} {N D : Int} {op : OpL} {c : Int} {y : Int} : ∀ {pre : List Int} {Ls L1 : Int → List Hd}, stageV S N D op pre Ls = (c, L1) → y ∉ pre → L1 y = Ls y := by
  intro pre
  induction pre with
  | nil => intro Ls L1 h _; cases h; rfl
  | cons x pre ih =>
    intro Ls L1 h hy
    have hne : y ≠ x := fun e => hy (e ▸ List.mem_cons_self ..)
    have hy' : y ∉ pre := fun e => hy (List.mem_cons_of_mem _ e)
    unfold stageV at h
    split at h
    · rw [ih h hy', updL_ne _ _ hne]
    · cases h; exact updL_ne _ _ hne
section
attribute [local go_sem] Oper.semAt_some
set_option maxRecDepth 100000 in
set_option maxHeartbeats 4000000 in
theorem qeach1_any {w : World} {t : TreeW} {S : List Sv} {N D : Int} {Ls L' : Int → List Hd} {op : OpL} {fid : FuncId} {caps : Array Value} {C : Nat → Prop} {c : Int} (h : TT w t S N D Ls) (hlen : ∀ x, (Ls x).length ≤ 19) (s : Int) (hs : -1 ≤ s ∧ s < (S.length : Int))
    (hk : AskOk fid caps C w op) (hC : ∀ k, C k → k < w.heap.size ∧ ¬ ledF t S.length k) (hT : ∀ k, ownT t S.length k ∨ readT t S.length k → k < w.heap.size) (ga : Nat) (hga : Blk w 81 ga #[.func (.func fid) #[] caps])
    (hr : eachV S N D [op] (pathV S s) Ls = (c, L')) :
    Calls Tryz.prog 38 #[.pointer (some ⟨t.g, 0, none⟩), .int .i64 s, .slice (some ⟨ga, 0, none⟩) 1 1] w fun e w' => e = .returned (.int .i64 c) ∧ TT w' t S N D L' ∧ Keeps (ledF t S.length) w w' := by
  refine (callsIn_wide (n := 3)).1 ?_
  refine callsIn_of_wp_marks Tryz.func38 rfl trivial ?_ rfl
  simp only [Tryz.ntmps38, List.size_toArray, List.length_cons, List.length_nil, Nat.reduceAdd, Nat.reduceSub, Array.replicate_succ, Array.replicate_zero, List.push_toArray, List.append_toArray, List.nil_append, List.cons_append]
  refine wpIn_wide.2 ?_
  go_wp2_with fail
  go_step3
  go_wp2_with fail
  go_step3
  go_wp2_with fail
  obtain ⟨W1, hW1⟩ : ∃ W1, (w.alloc (.cells #[.pointer (some ⟨t.g, 0, none⟩)] 31)).alloc (.cells #[.int .i64 0] 43) = W1 := ⟨_, rfl⟩
  have B1 := Lib.hid (show Below w.heap.size w W1 by rw [← hW1]; exact wbox2 _ _ _)
  have T1 := Lib.hid (show Blk W1 31 w.heap.size #[.pointer (some ⟨t.g, 0, none⟩)] by rw [← hW1]; exact (Blk.new _ _ _).alloc _)
  have E1 := Lib.hid (show Blk W1 43 (w.heap.size + 1) #[.int .i64 0] by rw [← hW1]; exact Blk.new2 _ _ _ _)
  have Z1 := Lib.hid (show W1.heap.size = w.heap.size + 2 by rw [← hW1]; simp)
  have A1 := Lib.hid (hga.below B1.out)
  rw [hW1]
  clear hW1
  refine wp_loop_rounds 2 ?_
  rw [rounds_succ]
  have a0 := A1.out.cell 0
  simp at a0
  obtain ⟨W2, hW2⟩ : ∃ W2, W1.alloc (.cells #[.func (.func fid) #[] caps] 81) = W2 := ⟨_, rfl⟩
  have B2 := Lib.hid (show Below W1.heap.size W1 W2 by rw [← hW2]; exact wbox _ _)
  have T2 := Lib.hid (T1.out.below B2.out)
  have t0 := T2.out.cell 0
  simp at t0
  have hst : ∀ (a : Addr) (w : World), (store a (.func (.func fid) #[] caps)).run Tryz.prog w = stored Tryz.prog w a (.func (.func fid) #[] caps) .plain := fun a w => run_store Tryz.prog w a _ _ rfl
  go_wp2_with fail
  refine (qpath_any t.g s W2).mono ?_
  rintro e W3 ⟨rfl, hW3⟩
  have B3 := Lib.hid (show Below W2.heap.size W2 W3 by rw [hW3]; exact wbox2 _ _ _)
  have Z2 := Lib.hid (show W2.heap.size = w.heap.size + 3 by rw [← hW2]; simp; have := Z1.out; omega)
  have Z3 := Lib.hid (show W3.heap.size = w.heap.size + 5 by rw [hW3]; have := Z2.out; simp [pathW]; omega)
  have BW3 := Lib.hid (below_next (below_next B1.out B2.out) B3.out)
  have TW2 := Lib.hid (h.below (below_next B1.out B2.out))
  have PF := Lib.hid (show PathF W3 (W2.heap.size + 1) W2.heap.size t.g S.length t.pa t.pc S s by rw [hW3]; exact TW2.out.pathF s)
  have TW3 := Lib.hid (h.below BW3.out)
  have T3 := Lib.hid (T2.out.below B3.out)
  have E3 := Lib.hid ((E1.out.below B2.out).below B3.out)
  have F3 := Lib.hid (show Blk W3 81 W1.heap.size #[.func (.func fid) #[] caps] from (show Blk W2 81 W1.heap.size #[.func (.func fid) #[] caps] by rw [← hW2]; exact Blk.new _ _ _).below B3.out)
  clear t0 a0 hW3 hW2
  go_wp2_with fail
  refine (wpIn_wide (n := 3)).1 ?_
  have hT3 : ∀ k, ownT t S.length k ∨ readT t S.length k → k < W3.heap.size := fun k q => by have := hT k q; have := Z3.out; omega
  have hlt : ∀ k, ledF t S.length k → k < w.heap.size := fun k q => hT k (.inl (.inr (.inr (.inr q))))
  have GF : ∀ k, pathG (W2.heap.size + 1) W2.heap.size t.g t.pa k → ¬ (ledF t S.length k ∨ k = w.heap.size + 1) ∧ k < W3.heap.size := fun k q => by
    have z2 := Z2.out; have z3 := Z3.out
    have lg := h.blk.lt
    rcases q with rfl | rfl | rfl | ⟨ad, e, rfl⟩
    · exact ⟨fun r => by rcases r with r | r; (have := hlt _ r; omega); omega, by omega⟩
    · exact ⟨fun r => by rcases r with r | r; (have := hlt _ r; omega); omega, by omega⟩
    · exact ⟨fun r => by rcases r with ⟨i, hi, r⟩ | r; exact (h.apO i hi _ r).1 rfl; omega, by omega⟩
    · have l1 := hT ad.block (.inl (.inr (.inr (.inl ⟨ad, e, rfl⟩))))
      exact ⟨fun r => by rcases r with ⟨i, hi, r⟩ | r; exact (h.apO i hi _ r).2.2 ad e rfl; omega, by omega⟩
  refine rangeFunc_of rfl (by omega) (gf := 70) (lb := #[.pointer (some ⟨W2.heap.size + 1, 0, none⟩), .pointer (some ⟨W2.heap.size, 0, none⟩)]) rfl trivial (enters_of Tryz.func70 (by kernel_rfl) rfl)
    (qpath_of _ (by omega) (W2.heap.size + 1) W2.heap.size t.g S.length t.pa t.pc S h.sv rfl s hs W3 PF.out) Holds.trans (holds_b (fun k q => (GF k q).2)) (Below.refl _ _) rfl
    (StI W3 t S N D op Ls (.func (.func fid) #[] caps) w.heap.size (w.heap.size + 1) W1.heap.size) (StX W3 t S N D op Ls (w.heap.size + 1)) (StI.own hT3) (fun _ => StX.own hT3)
    ⟨⟨Ls, rfl, TW3.out⟩, T3.out, E3.out, F3.out, Keeps.refl _ _⟩
    (fun x => { tmps := #[.pointer (some ⟨t.g, 0, none⟩), .int .i64 s, .slice (some ⟨ga, 0, none⟩) 1 1, .pointer (some ⟨w.heap.size, 0, none⟩), undef, undef, .int .i64 0, .pointer (some ⟨w.heap.size + 1, 0, none⟩), undef, .pointer (some ⟨W1.heap.size, 0, none⟩), .int .i64 x, .slice (some ⟨ga, 0, none⟩) 1 1, .int .i64 1, .int .i64 0, .bool true, .pointer (some ⟨ga, 0, none⟩), .func (.func fid) #[] caps, .pointer (some ⟨t.g, 0, none⟩), .int .i64 s, .func (.func 70) #[] #[.pointer (some ⟨W2.heap.size + 1, 0, none⟩), .pointer (some ⟨W2.heap.size, 0, none⟩)], .int .i64 x, undef, undef, undef, undef, undef, undef, undef, undef, undef], defers := [] }) ?assign ?body ?done ?stop
  case assign =>
    intro l x W K hK
    gi_wp2
    exact hK
  case body =>
    intro l pre x rest W hys hI
    have hxm : x ∈ pathV S s := by rw [hys]; simp
    have hxb := path_bd h.sv s hs.1 hs.2 x hxm
    have hnp : x ∉ pre := fun q => by
      have nd := path_nodup h.sv s hs.1 hs.2
      rw [hys] at nd
      exact (List.nodup_append.mp nd).2.2 x q x (List.mem_cons_self ..) rfl
    obtain ⟨L1, hst, hTT⟩ := hI.st
    have hlx : (L1 x).length ≤ 19 := by rw [stage_else hst hnp]; exact hlen x
    have hpx : -1 ≤ x ∧ x < (S.length : Int) := ⟨hxb.1, hxb.2.2⟩
    obtain ⟨c1, l1, hop⟩ : ∃ c1 l1, op (qN S N x) (qD S D x) (L1 x) = (c1, l1) := ⟨_, _, rfl⟩
    have hd : 1 ≤ 3 - 1 - 1 := by omega
    have I0 := Lib.hid hI
    have TT1 := Lib.hid hTT
    have ASK := Lib.hid (show Calls Tryz.prog fid (#[.pointer (some ⟨t.G (plN x), 0, none⟩)] ++ caps) W.drew fun z W' => z = .returned (.int .i64 c1) ∧ StayF W.drew (t.G (plN x)) (t.Fs (plN x)) (t.As (plN x)) (qN S N x) (qD S D x) l1 W' by
      have := hk.tells W.drew (Holds.of_keeps (G := C) (((Keeps.of (F := fun k => ledF t S.length k ∨ k = w.heap.size + 1) BW3.out).trans hI.kp (fun _ q => .inl q)).drew) (fun k q => ⟨fun r => by
        rcases r with r | r
        · exact (hC k q).2 r
        · have := (hC k q).1; omega, (hC k q).1⟩)) (t.G (plN x)) (t.Fs (plN x)) (t.As (plN x)) _ _ _ ((hTT.led x hpx.1 hpx.2).keeps (G := fun _ => False) ((Keeps.refl _ W).drew) (fun _ _ q => q) (fun _ _ q => q)) hlx
      rw [hop] at this
      exact this)
    have FIN := Lib.hid (show ∀ W5, StayF W.drew (t.G (plN x)) (t.Fs (plN x)) (t.As (plN x)) (qN S N x) (qD S D x) l1 W5 → Blk W5 43 (w.heap.size + 1) #[.int .i64 0] →
        KeepsFrom W3.heap.size W (W5.setCell ⟨w.heap.size + 1, 0, none⟩ (.int .i64 c1)) ∧ Holds (pathG (W2.heap.size + 1) W2.heap.size t.g t.pa) W (W5.setCell ⟨w.heap.size + 1, 0, none⟩ (.int .i64 c1)) ∧ TT (W5.setCell ⟨w.heap.size + 1, 0, none⟩ (.int .i64 c1)) t S N D (updL L1 x l1) ∧ Blk (W5.setCell ⟨w.heap.size + 1, 0, none⟩ (.int .i64 c1)) 31 w.heap.size #[.pointer (some ⟨t.g, 0, none⟩)] ∧ Blk (W5.setCell ⟨w.heap.size + 1, 0, none⟩ (.int .i64 c1)) 43 (w.heap.size + 1) #[.int .i64 c1] ∧ Blk (W5.setCell ⟨w.heap.size + 1, 0, none⟩ (.int .i64 c1)) 81 W1.heap.size #[.func (.func fid) #[] caps] ∧ Keeps (fun k => ledF t S.length k ∨ k = w.heap.size + 1) W3 (W5.setCell ⟨w.heap.size + 1, 0, none⟩ (.int .i64 c1)) from fun W5 h5 e5 => by
      have z1 := Z1.out
      have z3 := Z3.out
      have kf : Keeps (fun k => ledF t S.length k ∨ k = w.heap.size + 1) W (W5.setCell ⟨w.heap.size + 1, 0, none⟩ (.int .i64 c1)) :=
        (((Keeps.refl (fun k => ledF t S.length k ∨ k = w.heap.size + 1) W).drew).trans h5.2 (fun k q => .inl (.inl ⟨_, plN_le hpx, q⟩))).set (.inl (.inr rfl)) _ _
      have ne : ∀ k, w.heap.size ≤ k → k ≠ w.heap.size + 1 → ¬ (ledF t S.length k ∨ k = w.heap.size + 1) := fun k q1 q2 r => by
        rcases r with r | r
        · have := hlt k r; omega
        · exact q2 r
      have sz := hI.kp.size
      refine ⟨⟨kf.size, fun k o q1 q2 _ => (kf.block k (Array.getElem?_eq_some_iff.1 q2).1 (ne k (by omega) (by omega))).trans q2⟩, Holds.of_keeps kf (fun k q => ⟨(GF k q).1, by have := (GF k q).2; omega⟩), ?_, hI.tb.keeps kf (ne _ (by omega) (by omega)), ?_, hI.ab.keeps kf (ne _ (by omega) (by omega)), hI.kp.trans kf (fun _ q => .inl q)⟩
      · exact ((hTT.below ((Below.refl W.heap.size W).drew)).upd hpx h5).keeps (G := fun k => k = w.heap.size + 1) ((Keeps.refl (fun k => k = w.heap.size + 1) W5).set (.inl rfl) _ _) (fun b q e => by have := hT b (.inl q); omega) (fun b q e => by have := hT b (.inr q); omega)
      · have := e5.setH 0 (.int .i64 c1)
        simpa using this)
    have ST := Lib.hid (stage_snoc hst hop)
    have hen := hk.enters
    have NE := Lib.hid (show ¬ t.Fs (plN x) (w.heap.size + 1) from fun q => by have := hlt _ ⟨_, plN_le hpx, q⟩; omega)
    have LED := Lib.hid (qledger_any (hTT.below ((Below.refl W.heap.size W).drew)) hpx)
    have a0 := hI.ab.cell 0
    have b0 := hI.tb.cell 0
    simp at a0 b0
    gi_upto_region 7 with fail
    gi_region_with (first
      | (refine ⟨trivial, ?_⟩; gi_at_call 36; refine (CallsIn.inRound l (callsIn_wide.2 LED.out)).mono ?_; rintro e w' ⟨rfl, rfl⟩)
      | (refine ⟨trivial, ?_⟩; refine (CallsIn.inRound l (callsIn_wide.2 ASK.out)).mono ?_; rintro e W5 ⟨rfl, hst5⟩; have S5 := Lib.hid hst5; have E5 := Lib.hid ((I0.out.eb.drew).keeps hst5.2 NE.out); have e5 := E5.out.cell 0; have f5 := E5.out.free 0; simp at e5; clear hst5))
    all_goals
      obtain ⟨q1, q2, q3, q4, q5, q6, q7⟩ := FIN.out _ S5.out E5.out
      have d5 := q5.cell 0
      simp at d5
      by_cases hc0 : c1 = 0
      · have t0 : (c1 == 0) = true := by simp [hc0]
        have ST0 := Lib.hid (show stageV S N D op (pre ++ [x]) Ls = (0, updL L1 x l1) by rw [← hc0]; exact ST.out)
        have Q := Lib.hid (show StI W3 t S N D op Ls (.func (.func fid) #[] caps) w.heap.size (w.heap.size + 1) W1.heap.size (pre ++ [x]) (W5.setCell ⟨w.heap.size + 1, 0, none⟩ (.int .i64 c1)) from ⟨⟨_, ST0.out, q3⟩, q4, by rw [hc0] at q5; rw [hc0]; exact q5, q6, q7⟩)
        have Q1 := Lib.hid q1
        have Q2 := Lib.hid q2
        clear q1 q2 q3 q4 q5 q6 q7 hc0
        gi_wp2
        exact ⟨Q1.out, Q2.out, Q.out⟩
      · have t0 : (c1 == 0) = false := by simp [hc0]
        have Q := Lib.hid (show StX W3 t S N D op Ls (w.heap.size + 1) 0 (pre ++ [x]) (W5.setCell ⟨w.heap.size + 1, 0, none⟩ (.int .i64 c1)) from ⟨rfl, ⟨c1, _, hc0, ST.out, q3, q5⟩, q7⟩)
        have Q1 := Lib.hid q1
        clear q1 q2 q3 q4 q5 q6 q7 hc0
        gi_wp2
        exact ⟨Q1.out, Q.out⟩
  case done =>
    intro D W hD hI hDd
    obtain ⟨L1, hst, hTT⟩ := hI.st
    rw [each_one, hst] at hr
    cases hr
    have e0 := hI.eb.cell 0
    simp at e0
    have z3 := Z3.out
    have T9 := Lib.hid (hTT.own hT3 (grownBy_putObj' W D (Obj.deferred none)) (fun r e => by cases e; exact hD))
    have K9 := Lib.hid (show Keeps (ledF t S.length) w (W.putObj D (Obj.deferred none)) from by
      have k := ((Keeps.of (F := fun k => ledF t S.length k ∨ k = w.heap.size + 1) BW3.out).trans hI.kp (fun _ q => .inl q)).grown (grownBy_putObj' W D (Obj.deferred none)) (fun k e => by cases e; exact .inr (by omega))
      exact ⟨k.os, k.tape, k.output, k.size, fun k' q1 q2 => k.block k' q1 (fun r => by rcases r with r | r; exact q2 r; omega)⟩)
    clear hst hTT
    go_wp2
    rw [rounds_succ]
    go_wp2
    refine ⟨by simp, .inl ⟨_, _, rfl, run_takeDeferred hDd, ?_⟩⟩
    exact ⟨_, results_tmp rfl _ _ _, rfl, T9.out, K9.out⟩
  case stop =>
    intro D id pre rest W hD hys hX hDd
    obtain ⟨c1, L1, hc0, hst, hTT, heb⟩ := hX.st
    have hid := hX.is0
    subst hid
    have hst2 := stage_stop hc0 rest hst
    rw [← hys, ← each_one, hr] at hst2
    cases hst2
    have e0 := heb.cell 0
    simp at e0
    have z3 := Z3.out
    have T9 := Lib.hid (hTT.own hT3 (grownBy_putObj' W D (Obj.deferred none)) (fun r e => by cases e; exact hD))
    have K9 := Lib.hid (show Keeps (ledF t S.length) w (W.putObj D (Obj.deferred none)) from by
      have k := ((Keeps.of (F := fun k => ledF t S.length k ∨ k = w.heap.size + 1) BW3.out).trans hX.kp (fun _ q => .inl q)).grown (grownBy_putObj' W D (Obj.deferred none)) (fun k e => by cases e; exact .inr (by omega))
      exact ⟨k.os, k.tape, k.output, k.size, fun k' q1 q2 => k.block k' q1 (fun r => by rcases r with r | r; exact q2 r; omega)⟩)
    clear hst hTT heb
    gi_wp2
    go_wp2
    refine ⟨by simp, .inl ⟨_, _, rfl, run_takeDeferred hDd, ?_⟩⟩
    exact ⟨_, results_tmp rfl _ _ _, rfl, T9.out, K9.out⟩
end
end Go.Proofs.YtbonilmlfelmpaaGreat
