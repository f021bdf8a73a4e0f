/-
  Package quota as landed: each, of two asks: contract. (Written by wip/tools/gen_qz7.py out of Qz6.)
-/
import Derived.Test.YtbonilmlfelmpaaGreatQz6
namespace Go.Proofs.YtbonilmlfelmpaaGreat
open Go.RowKit Go.Shelf

theorem lt_heap {W : World} {k : Nat} {o : Obj} (h : W.heap[k]? = some o) : k < W.heap.size := (Array.getElem?_eq_some_iff.1 h).1
section
attribute [local go_sem] Oper.semAt_some
set_option maxRecDepth 100000 in
set_option maxHeartbeats 8000000 in
theorem qeach2_any {w : World} {t : TreeW} {S : List Sv} {N D : Int} {Ls L' : Int → List Hd} {op op2 : OpL} {fid fid2 : FuncId} {caps caps2 : Array Value} {C C2 : Nat → Prop} {c : Int} (h : TT w t S N D Ls) (hlen : ∀ x, (Ls x).length ≤ 19) (s : Int) (hlen2 : ∀ L1, stageV S N D op (pathV S s) Ls = (0, L1) → ∀ x, (L1 x).length ≤ 19) (hs : -1 ≤ s ∧ s < (S.length : Int))
    (hk : AskOk fid caps C w op) (hC : ∀ k, C k → k < w.heap.size ∧ ¬ ledF t S.length k) (hk2 : AskOk fid2 caps2 C2 w op2) (hC2 : ∀ k, C2 k → k < w.heap.size ∧ ¬ ledF t S.length k) (hT : ∀ k, ownT t S.length k ∨ readT t S.length k → k < w.heap.size) (ga : Nat) (hga : Blk w 81 ga #[.func (.func fid) #[] caps, .func (.func fid2) #[] caps2]) (hgF : ¬ ledF t S.length ga)
    (hr : eachV S N D [op, op2] (pathV S s) Ls = (c, L')) :
    Calls Tryz.prog 38 #[.pointer (some ⟨t.g, 0, none⟩), .int .i64 s, .slice (some ⟨ga, 0, none⟩) 2 2] w fun e w' => e = .returned (.int .i64 c) ∧ TT w' t S N D L' ∧ Keeps (ledF t S.length) w w' := by
  refine (callsIn_wide (n := 3)).1 ?_
  refine callsIn_of_wp_marks Tryz.func38 rfl trivial ?_ rfl
  simp only [Tryz.ntmps38, List.size_toArray, List.length_cons, List.length_nil, Nat.reduceAdd, Nat.reduceSub, Array.replicate_succ, Array.replicate_zero, List.push_toArray, List.append_toArray, List.nil_append, List.cons_append]
  refine wpIn_wide.2 ?_
  go_wp2_with fail
  go_step3
  go_wp2_with fail
  go_step3
  go_wp2_with fail
  obtain ⟨W1, hW1⟩ : ∃ W1, (w.alloc (.cells #[.pointer (some ⟨t.g, 0, none⟩)] 31)).alloc (.cells #[.int .i64 0] 43) = W1 := ⟨_, rfl⟩
  have B1 := Lib.hid (show Below w.heap.size w W1 by rw [← hW1]; exact wbox2 _ _ _)
  have T1 := Lib.hid (show Blk W1 31 w.heap.size #[.pointer (some ⟨t.g, 0, none⟩)] by rw [← hW1]; exact (Blk.new _ _ _).alloc _)
  have E1 := Lib.hid (show Blk W1 43 (w.heap.size + 1) #[.int .i64 0] by rw [← hW1]; exact Blk.new2 _ _ _ _)
  have Z1 := Lib.hid (show W1.heap.size = w.heap.size + 2 by rw [← hW1]; simp)
  have A1 := Lib.hid (hga.below B1.out)
  have hlt : ∀ k, ledF t S.length k → k < w.heap.size := fun k q => hT k (.inl (.inr (.inr (.inr q))))
  rw [hW1]
  clear hW1
  refine wp_loop_rounds 3 ?_
  rw [rounds_succ]
  have a0 := A1.out.cell 0
  simp at a0
  obtain ⟨W2, hW2⟩ : ∃ W2, W1.alloc (.cells #[.func (.func fid) #[] caps] 81) = W2 := ⟨_, rfl⟩
  have B2 := Lib.hid (show Below W1.heap.size W1 W2 by rw [← hW2]; exact wbox _ _)
  have T2 := Lib.hid (T1.out.below B2.out)
  have t0 := T2.out.cell 0
  simp at t0
  have hst : ∀ (a : Addr) (w : World), (store a (.func (.func fid) #[] caps)).run Tryz.prog w = stored Tryz.prog w a (.func (.func fid) #[] caps) .plain := fun a w => run_store Tryz.prog w a _ _ rfl
  go_wp2_with fail
  refine (qpath_any t.g s W2).mono ?_
  rintro e W3 ⟨rfl, hW3⟩
  have B3 := Lib.hid (show Below W2.heap.size W2 W3 by rw [hW3]; exact wbox2 _ _ _)
  have Z2 := Lib.hid (show W2.heap.size = w.heap.size + 3 by rw [← hW2]; simp; have := Z1.out; omega)
  have Z3 := Lib.hid (show W3.heap.size = w.heap.size + 5 by rw [hW3]; have := Z2.out; simp [pathW]; omega)
  have BW3 := Lib.hid (below_next (below_next B1.out B2.out) B3.out)
  have TW2 := Lib.hid (h.below (below_next B1.out B2.out))
  have PF := Lib.hid (show PathF W3 (W2.heap.size + 1) W2.heap.size t.g S.length t.pa t.pc S s by rw [hW3]; exact TW2.out.pathF s)
  have TW3 := Lib.hid (h.below BW3.out)
  have T3 := Lib.hid (T2.out.below B3.out)
  have E3 := Lib.hid ((E1.out.below B2.out).below B3.out)
  have F3 := Lib.hid (show Blk W3 81 W1.heap.size #[.func (.func fid) #[] caps] from (show Blk W2 81 W1.heap.size #[.func (.func fid) #[] caps] by rw [← hW2]; exact Blk.new _ _ _).below B3.out)
  clear t0 a0 hW3 hW2
  go_wp2_with fail
  refine (wpIn_wide (n := 3)).1 ?_
  have hT3 : ∀ k, ownT t S.length k ∨ readT t S.length k → k < W3.heap.size := fun k q => by have := hT k q; have := Z3.out; omega
  have GF : ∀ k, pathG (W2.heap.size + 1) W2.heap.size t.g t.pa k → ¬ (ledF t S.length k ∨ k = w.heap.size + 1) ∧ k < W3.heap.size := fun k q => by
    have z2 := Z2.out; have z3 := Z3.out
    have lg := h.blk.lt
    rcases q with rfl | rfl | rfl | ⟨ad, e, rfl⟩
    · exact ⟨fun r => by rcases r with r | r; (have := hlt _ r; omega); omega, by omega⟩
    · exact ⟨fun r => by rcases r with r | r; (have := hlt _ r; omega); omega, by omega⟩
    · exact ⟨fun r => by rcases r with ⟨i, hi, r⟩ | r; exact (h.apO i hi _ r).1 rfl; omega, by omega⟩
    · have l1 := hT ad.block (.inl (.inr (.inr (.inl ⟨ad, e, rfl⟩))))
      exact ⟨fun r => by rcases r with ⟨i, hi, r⟩ | r; exact (h.apO i hi _ r).2.2 ad e rfl; omega, by omega⟩
  refine rangeFunc_of rfl (by omega) (gf := 70) (lb := #[.pointer (some ⟨W2.heap.size + 1, 0, none⟩), .pointer (some ⟨W2.heap.size, 0, none⟩)]) rfl trivial (enters_of Tryz.func70 (by kernel_rfl) rfl)
    (qpath_of _ (by omega) (W2.heap.size + 1) W2.heap.size t.g S.length t.pa t.pc S h.sv rfl s hs W3 PF.out) Holds.trans (holds_b (fun k q => (GF k q).2)) (Below.refl _ _) rfl
    (StI W3 t S N D op Ls (.func (.func fid) #[] caps) w.heap.size (w.heap.size + 1) W1.heap.size) (StX W3 t S N D op Ls (w.heap.size + 1)) (StI.own hT3) (fun _ => StX.own hT3)
    ⟨⟨Ls, rfl, TW3.out⟩, T3.out, E3.out, F3.out, Keeps.refl _ _⟩
    (fun x => { tmps := #[.pointer (some ⟨t.g, 0, none⟩), .int .i64 s, .slice (some ⟨ga, 0, none⟩) 2 2, .pointer (some ⟨w.heap.size, 0, none⟩), undef, undef, .int .i64 0, .pointer (some ⟨w.heap.size + 1, 0, none⟩), undef, .pointer (some ⟨W1.heap.size, 0, none⟩), .int .i64 x, .slice (some ⟨ga, 0, none⟩) 2 2, .int .i64 2, .int .i64 0, .bool true, .pointer (some ⟨ga, 0, none⟩), .func (.func fid) #[] caps, .pointer (some ⟨t.g, 0, none⟩), .int .i64 s, .func (.func 70) #[] #[.pointer (some ⟨W2.heap.size + 1, 0, none⟩), .pointer (some ⟨W2.heap.size, 0, none⟩)], .int .i64 x, undef, undef, undef, undef, undef, undef, undef, undef, undef], defers := [] }) ?assign ?body ?done ?stop
  case assign =>
    intro l x W K hK
    gi_wp2
    exact hK
  case body =>
    intro l pre x rest W hys hI
    have hxm : x ∈ pathV S s := by rw [hys]; simp
    have hxb := path_bd h.sv s hs.1 hs.2 x hxm
    have hnp : x ∉ pre := fun q => by
      have nd := path_nodup h.sv s hs.1 hs.2
      rw [hys] at nd
      exact (List.nodup_append.mp nd).2.2 x q x (List.mem_cons_self ..) rfl
    obtain ⟨L1, hst, hTT⟩ := hI.st
    have hlx : (L1 x).length ≤ 19 := by rw [stage_else hst hnp]; exact hlen x
    have hpx : -1 ≤ x ∧ x < (S.length : Int) := ⟨hxb.1, hxb.2.2⟩
    obtain ⟨c1, l1, hop⟩ : ∃ c1 l1, op (qN S N x) (qD S D x) (L1 x) = (c1, l1) := ⟨_, _, rfl⟩
    have hd : 1 ≤ 3 - 1 - 1 := by omega
    have I0 := Lib.hid hI
    have TT1 := Lib.hid hTT
    have ASK := Lib.hid (show Calls Tryz.prog fid (#[.pointer (some ⟨t.G (plN x), 0, none⟩)] ++ caps) W.drew fun z W' => z = .returned (.int .i64 c1) ∧ StayF W.drew (t.G (plN x)) (t.Fs (plN x)) (t.As (plN x)) (qN S N x) (qD S D x) l1 W' by
      have := hk.tells W.drew (Holds.of_keeps (G := C) (((Keeps.of (F := fun k => ledF t S.length k ∨ k = w.heap.size + 1) BW3.out).trans hI.kp (fun _ q => .inl q)).drew) (fun k q => ⟨fun r => by
        rcases r with r | r
        · exact (hC k q).2 r
        · have := (hC k q).1; omega, (hC k q).1⟩)) (t.G (plN x)) (t.Fs (plN x)) (t.As (plN x)) _ _ _ ((hTT.led x hpx.1 hpx.2).keeps (G := fun _ => False) ((Keeps.refl _ W).drew) (fun _ _ q => q) (fun _ _ q => q)) hlx
      rw [hop] at this
      exact this)
    have FIN := Lib.hid (show ∀ W5, StayF W.drew (t.G (plN x)) (t.Fs (plN x)) (t.As (plN x)) (qN S N x) (qD S D x) l1 W5 → Blk W5 43 (w.heap.size + 1) #[.int .i64 0] →
        KeepsFrom W3.heap.size W (W5.setCell ⟨w.heap.size + 1, 0, none⟩ (.int .i64 c1)) ∧ Holds (pathG (W2.heap.size + 1) W2.heap.size t.g t.pa) W (W5.setCell ⟨w.heap.size + 1, 0, none⟩ (.int .i64 c1)) ∧ TT (W5.setCell ⟨w.heap.size + 1, 0, none⟩ (.int .i64 c1)) t S N D (updL L1 x l1) ∧ Blk (W5.setCell ⟨w.heap.size + 1, 0, none⟩ (.int .i64 c1)) 31 w.heap.size #[.pointer (some ⟨t.g, 0, none⟩)] ∧ Blk (W5.setCell ⟨w.heap.size + 1, 0, none⟩ (.int .i64 c1)) 43 (w.heap.size + 1) #[.int .i64 c1] ∧ Blk (W5.setCell ⟨w.heap.size + 1, 0, none⟩ (.int .i64 c1)) 81 W1.heap.size #[.func (.func fid) #[] caps] ∧ Keeps (fun k => ledF t S.length k ∨ k = w.heap.size + 1) W3 (W5.setCell ⟨w.heap.size + 1, 0, none⟩ (.int .i64 c1)) from fun W5 h5 e5 => by
      have z1 := Z1.out
      have z3 := Z3.out
      have kf : Keeps (fun k => ledF t S.length k ∨ k = w.heap.size + 1) W (W5.setCell ⟨w.heap.size + 1, 0, none⟩ (.int .i64 c1)) :=
        (((Keeps.refl (fun k => ledF t S.length k ∨ k = w.heap.size + 1) W).drew).trans h5.2 (fun k q => .inl (.inl ⟨_, plN_le hpx, q⟩))).set (.inl (.inr rfl)) _ _
      have ne : ∀ k, w.heap.size ≤ k → k ≠ w.heap.size + 1 → ¬ (ledF t S.length k ∨ k = w.heap.size + 1) := fun k q1 q2 r => by
        rcases r with r | r
        · have := hlt k r; omega
        · exact q2 r
      have sz := hI.kp.size
      refine ⟨⟨kf.size, fun k o q1 q2 _ => (kf.block k (Array.getElem?_eq_some_iff.1 q2).1 (ne k (by omega) (by omega))).trans q2⟩, Holds.of_keeps kf (fun k q => ⟨(GF k q).1, by have := (GF k q).2; omega⟩), ?_, hI.tb.keeps kf (ne _ (by omega) (by omega)), ?_, hI.ab.keeps kf (ne _ (by omega) (by omega)), hI.kp.trans kf (fun _ q => .inl q)⟩
      · exact ((hTT.below ((Below.refl W.heap.size W).drew)).upd hpx h5).keeps (G := fun k => k = w.heap.size + 1) ((Keeps.refl (fun k => k = w.heap.size + 1) W5).set (.inl rfl) _ _) (fun b q e => by have := hT b (.inl q); omega) (fun b q e => by have := hT b (.inr q); omega)
      · have := e5.setH 0 (.int .i64 c1)
        simpa using this)
    have ST := Lib.hid (stage_snoc hst hop)
    have hen := hk.enters
    have NE := Lib.hid (show ¬ t.Fs (plN x) (w.heap.size + 1) from fun q => by have := hlt _ ⟨_, plN_le hpx, q⟩; omega)
    have LED := Lib.hid (qledger_any (hTT.below ((Below.refl W.heap.size W).drew)) hpx)
    have a0 := hI.ab.cell 0
    have b0 := hI.tb.cell 0
    simp at a0 b0
    gi_upto_region 7 with fail
    gi_region_with (first
      | (refine ⟨trivial, ?_⟩; gi_at_call 36; refine (CallsIn.inRound l (callsIn_wide.2 LED.out)).mono ?_; rintro e w' ⟨rfl, rfl⟩)
      | (refine ⟨trivial, ?_⟩; refine (CallsIn.inRound l (callsIn_wide.2 ASK.out)).mono ?_; rintro e W5 ⟨rfl, hst5⟩; have S5 := Lib.hid hst5; have E5 := Lib.hid ((I0.out.eb.drew).keeps hst5.2 NE.out); have e5 := E5.out.cell 0; have f5 := E5.out.free 0; simp at e5; clear hst5))
    all_goals
      obtain ⟨q1, q2, q3, q4, q5, q6, q7⟩ := FIN.out _ S5.out E5.out
      have d5 := q5.cell 0
      simp at d5
      by_cases hc0 : c1 = 0
      · have t0 : (c1 == 0) = true := by simp [hc0]
        have ST0 := Lib.hid (show stageV S N D op (pre ++ [x]) Ls = (0, updL L1 x l1) by rw [← hc0]; exact ST.out)
        have Q := Lib.hid (show StI W3 t S N D op Ls (.func (.func fid) #[] caps) w.heap.size (w.heap.size + 1) W1.heap.size (pre ++ [x]) (W5.setCell ⟨w.heap.size + 1, 0, none⟩ (.int .i64 c1)) from ⟨⟨_, ST0.out, q3⟩, q4, by rw [hc0] at q5; rw [hc0]; exact q5, q6, q7⟩)
        have Q1 := Lib.hid q1
        have Q2 := Lib.hid q2
        clear q1 q2 q3 q4 q5 q6 q7 hc0
        gi_wp2
        exact ⟨Q1.out, Q2.out, Q.out⟩
      · have t0 : (c1 == 0) = false := by simp [hc0]
        have Q := Lib.hid (show StX W3 t S N D op Ls (w.heap.size + 1) 0 (pre ++ [x]) (W5.setCell ⟨w.heap.size + 1, 0, none⟩ (.int .i64 c1)) from ⟨rfl, ⟨c1, _, hc0, ST.out, q3, q5⟩, q7⟩)
        have Q1 := Lib.hid q1
        clear q1 q2 q3 q4 q5 q6 q7 hc0
        gi_wp2
        exact ⟨Q1.out, Q.out⟩
  case done =>
    intro D1 V1 hD1 hI1 hDd1
    obtain ⟨M1, hst1, hTV⟩ := hI1.st
    have hr2 := hr
    unfold eachV at hr2
    rw [hst1, if_pos rfl] at hr2
    simp only at hr2
    have HL2 := Lib.hid (hlen2 M1 hst1)
    have TTV := Lib.hid hTV
    have TB := Lib.hid hI1.tb
    have EB := Lib.hid hI1.eb
    have KV := Lib.hid (show Keeps (fun k => ledF t S.length k ∨ k = w.heap.size + 1) w V1 from (Keeps.of (F := fun k => ledF t S.length k ∨ k = w.heap.size + 1) BW3.out).trans hI1.kp (fun _ q => .inl q))
    have ZV := Lib.hid (show w.heap.size + 5 ≤ V1.heap.size by have := hI1.kp.size; have := Z3.out; omega)
    have ZD := Lib.hid (show w.heap.size + 5 ≤ D1 by have := Z3.out; omega)
    have gl := hga.lt
    have AA := Lib.hid (hga.keeps KV.out (fun q => by rcases q with q | q; exact hgF q; omega))
    have e0 := EB.out.cell 0
    simp at e0
    clear hI1 hst1 hTV
    go_wp2
    rw [rounds_succ]
    have a0 := AA.out.cell 1
    simp at a0
    obtain ⟨V2, hW2⟩ : ∃ V2, V1.alloc (.cells #[.func (.func fid2) #[] caps2] 81) = V2 := ⟨_, rfl⟩
    have B2 := Lib.hid (show Below V1.heap.size V1 V2 by rw [← hW2]; exact wbox _ _)
    have T2 := Lib.hid (TB.out.below B2.out)
    have t0 := T2.out.cell 0
    simp at t0
    have hst : ∀ (a : Addr) (w : World), (store a (.func (.func fid2) #[] caps2)).run Tryz.prog w = stored Tryz.prog w a (.func (.func fid2) #[] caps2) .plain := fun a w => run_store Tryz.prog w a _ _ rfl
    go_wp2_with fail
    refine (qpath_any t.g s V2).mono ?_
    rintro e V3 ⟨rfl, hW3⟩
    have B3 := Lib.hid (show Below V2.heap.size V2 V3 by rw [hW3]; exact wbox2 _ _ _)
    have Z2 := Lib.hid (show V2.heap.size = V1.heap.size + 1 by rw [← hW2]; simp)
    have Z3 := Lib.hid (show V3.heap.size = V1.heap.size + 3 by rw [hW3]; have := Z2.out; simp [pathW]; omega)
    have BW3 := Lib.hid (below_next B2.out B3.out)
    have TW2 := Lib.hid (TTV.out.below B2.out)
    have PF := Lib.hid (show PathF V3 (V2.heap.size + 1) V2.heap.size t.g S.length t.pa t.pc S s by rw [hW3]; exact TW2.out.pathF s)
    have TW3 := Lib.hid (TTV.out.below BW3.out)
    have T3 := Lib.hid (T2.out.below B3.out)
    have E3 := Lib.hid ((EB.out.below B2.out).below B3.out)
    have F3 := Lib.hid (show Blk V3 81 V1.heap.size #[.func (.func fid2) #[] caps2] from (show Blk V2 81 V1.heap.size #[.func (.func fid2) #[] caps2] by rw [← hW2]; exact Blk.new _ _ _).below B3.out)
    clear t0 a0 hW3 hW2
    go_wp2_with fail
    refine (wpIn_wide (n := 3)).1 ?_
    have hT3 : ∀ k, ownT t S.length k ∨ readT t S.length k → k < V3.heap.size := fun k q => by have := hT k q; have := Z3.out; have := ZV.out; omega
    have zv := ZV.out
    have GF : ∀ k, pathG (V2.heap.size + 1) V2.heap.size t.g t.pa k → ¬ (ledF t S.length k ∨ k = w.heap.size + 1) ∧ k < V3.heap.size := fun k q => by
      have z2 := Z2.out; have z3 := Z3.out; have zv := ZV.out
      have lg := h.blk.lt
      rcases q with rfl | rfl | rfl | ⟨ad, e, rfl⟩
      · exact ⟨fun r => by rcases r with r | r; (have := hlt _ r; omega); omega, by omega⟩
      · exact ⟨fun r => by rcases r with r | r; (have := hlt _ r; omega); omega, by omega⟩
      · exact ⟨fun r => by rcases r with ⟨i, hi, r⟩ | r; exact (h.apO i hi _ r).1 rfl; omega, by omega⟩
      · have l1 := hT ad.block (.inl (.inr (.inr (.inl ⟨ad, e, rfl⟩))))
        exact ⟨fun r => by rcases r with ⟨i, hi, r⟩ | r; exact (h.apO i hi _ r).2.2 ad e rfl; omega, by omega⟩
    refine rangeFunc_of rfl (by omega) (gf := 70) (lb := #[.pointer (some ⟨V2.heap.size + 1, 0, none⟩), .pointer (some ⟨V2.heap.size, 0, none⟩)]) rfl trivial (enters_of Tryz.func70 (by kernel_rfl) rfl)
      (qpath_of _ (by omega) (V2.heap.size + 1) V2.heap.size t.g S.length t.pa t.pc S h.sv rfl s hs V3 PF.out) Holds.trans (holds_b (fun k q => (GF k q).2)) (Below.refl _ _) rfl
      (StI V3 t S N D op2 M1 (.func (.func fid2) #[] caps2) w.heap.size (w.heap.size + 1) V1.heap.size) (StX V3 t S N D op2 M1 (w.heap.size + 1)) (StI.own hT3) (fun _ => StX.own hT3)
      ⟨⟨M1, rfl, TW3.out⟩, T3.out, E3.out, F3.out, Keeps.refl _ _⟩
      (fun x => { tmps := #[.pointer (some ⟨t.g, 0, none⟩), .int .i64 s, .slice (some ⟨ga, 0, none⟩) 2 2, .pointer (some ⟨w.heap.size, 0, none⟩), undef, undef, .int .i64 0, .pointer (some ⟨w.heap.size + 1, 0, none⟩), undef, .pointer (some ⟨V1.heap.size, 0, none⟩), .int .i64 x, .slice (some ⟨ga, 0, none⟩) 2 2, .int .i64 2, .int .i64 1, .bool true, .pointer (some ⟨ga, 1, none⟩), .func (.func fid2) #[] caps2, .pointer (some ⟨t.g, 0, none⟩), .int .i64 s, .func (.func 70) #[] #[.pointer (some ⟨V2.heap.size + 1, 0, none⟩), .pointer (some ⟨V2.heap.size, 0, none⟩)], .int .i64 x, undef, undef, undef, undef, undef, undef, undef, .int .i64 1, undef], defers := [] }) ?assign2 ?body2 ?done2 ?stop2
    case assign2 =>
      intro l x W K hK
      gi_wp2
      exact hK
    case body2 =>
      intro l pre x rest W hys hI
      have hxm : x ∈ pathV S s := by rw [hys]; simp
      have hxb := path_bd h.sv s hs.1 hs.2 x hxm
      have hnp : x ∉ pre := fun q => by
        have nd := path_nodup h.sv s hs.1 hs.2
        rw [hys] at nd
        exact (List.nodup_append.mp nd).2.2 x q x (List.mem_cons_self ..) rfl
      obtain ⟨L1, hst, hTT⟩ := hI.st
      have hlx : (L1 x).length ≤ 19 := by rw [stage_else hst hnp]; exact HL2.out x
      have hpx : -1 ≤ x ∧ x < (S.length : Int) := ⟨hxb.1, hxb.2.2⟩
      obtain ⟨c1, l1, hop⟩ : ∃ c1 l1, op2 (qN S N x) (qD S D x) (L1 x) = (c1, l1) := ⟨_, _, rfl⟩
      have hd : 1 ≤ 3 - 1 - 1 := by omega
      have I0 := Lib.hid hI
      have TT1 := Lib.hid hTT
      have ASK := Lib.hid (show Calls Tryz.prog fid2 (#[.pointer (some ⟨t.G (plN x), 0, none⟩)] ++ caps2) W.drew fun z W' => z = .returned (.int .i64 c1) ∧ StayF W.drew (t.G (plN x)) (t.Fs (plN x)) (t.As (plN x)) (qN S N x) (qD S D x) l1 W' by
        have := hk2.tells W.drew (Holds.of_keeps (G := C2) (((KV.out.next BW3.out).trans hI.kp (fun _ q => .inl q)).drew) (fun k q => ⟨fun r => by
          rcases r with r | r
          · exact (hC2 k q).2 r
          · have := (hC2 k q).1; omega, (hC2 k q).1⟩)) (t.G (plN x)) (t.Fs (plN x)) (t.As (plN x)) _ _ _ ((hTT.led x hpx.1 hpx.2).keeps (G := fun _ => False) ((Keeps.refl _ W).drew) (fun _ _ q => q) (fun _ _ q => q)) hlx
        rw [hop] at this
        exact this)
      have FIN := Lib.hid (show ∀ V5, StayF W.drew (t.G (plN x)) (t.Fs (plN x)) (t.As (plN x)) (qN S N x) (qD S D x) l1 V5 → Blk V5 43 (w.heap.size + 1) #[.int .i64 0] →
          KeepsFrom V3.heap.size W (V5.setCell ⟨w.heap.size + 1, 0, none⟩ (.int .i64 c1)) ∧ Holds (pathG (V2.heap.size + 1) V2.heap.size t.g t.pa) W (V5.setCell ⟨w.heap.size + 1, 0, none⟩ (.int .i64 c1)) ∧ TT (V5.setCell ⟨w.heap.size + 1, 0, none⟩ (.int .i64 c1)) t S N D (updL L1 x l1) ∧ Blk (V5.setCell ⟨w.heap.size + 1, 0, none⟩ (.int .i64 c1)) 31 w.heap.size #[.pointer (some ⟨t.g, 0, none⟩)] ∧ Blk (V5.setCell ⟨w.heap.size + 1, 0, none⟩ (.int .i64 c1)) 43 (w.heap.size + 1) #[.int .i64 c1] ∧ Blk (V5.setCell ⟨w.heap.size + 1, 0, none⟩ (.int .i64 c1)) 81 V1.heap.size #[.func (.func fid2) #[] caps2] ∧ Keeps (fun k => ledF t S.length k ∨ k = w.heap.size + 1) V3 (V5.setCell ⟨w.heap.size + 1, 0, none⟩ (.int .i64 c1)) from fun V5 h5 e5 => by
        have z1 := ZV.out
        have z3 := Z3.out
        have kf : Keeps (fun k => ledF t S.length k ∨ k = w.heap.size + 1) W (V5.setCell ⟨w.heap.size + 1, 0, none⟩ (.int .i64 c1)) :=
          (((Keeps.refl (fun k => ledF t S.length k ∨ k = w.heap.size + 1) W).drew).trans h5.2 (fun k q => .inl (.inl ⟨_, plN_le hpx, q⟩))).set (.inl (.inr rfl)) _ _
        have ne : ∀ k, w.heap.size ≤ k → k ≠ w.heap.size + 1 → ¬ (ledF t S.length k ∨ k = w.heap.size + 1) := fun k q1 q2 r => by
          rcases r with r | r
          · have := hlt k r; omega
          · exact q2 r
        have sz := hI.kp.size
        refine ⟨⟨kf.size, fun k o q1 q2 _ => (kf.block k (Array.getElem?_eq_some_iff.1 q2).1 (ne k (by omega) (by omega))).trans q2⟩, Holds.of_keeps kf (fun k q => ⟨(GF k q).1, by have := (GF k q).2; omega⟩), ?_, hI.tb.keeps kf (ne _ (by omega) (by omega)), ?_, hI.ab.keeps kf (ne _ (by omega) (by omega)), hI.kp.trans kf (fun _ q => .inl q)⟩
        · exact ((hTT.below ((Below.refl W.heap.size W).drew)).upd hpx h5).keeps (G := fun k => k = w.heap.size + 1) ((Keeps.refl (fun k => k = w.heap.size + 1) V5).set (.inl rfl) _ _) (fun b q e => by have := hT b (.inl q); omega) (fun b q e => by have := hT b (.inr q); omega)
        · have := e5.setH 0 (.int .i64 c1)
          simpa using this)
      have ST := Lib.hid (stage_snoc hst hop)
      have hen := hk2.enters
      have NE := Lib.hid (show ¬ t.Fs (plN x) (w.heap.size + 1) from fun q => by have := hlt _ ⟨_, plN_le hpx, q⟩; omega)
      have LED := Lib.hid (qledger_any (hTT.below ((Below.refl W.heap.size W).drew)) hpx)
      have a0 := hI.ab.cell 0
      have b0 := hI.tb.cell 0
      simp at a0 b0
      gi_upto_region 7 with fail
      gi_region_with (first
        | (refine ⟨trivial, ?_⟩; gi_at_call 36; refine (CallsIn.inRound l (callsIn_wide.2 LED.out)).mono ?_; rintro e w' ⟨rfl, rfl⟩)
        | (refine ⟨trivial, ?_⟩; refine (CallsIn.inRound l (callsIn_wide.2 ASK.out)).mono ?_; rintro e V5 ⟨rfl, hst5⟩; have S5 := Lib.hid hst5; have E5 := Lib.hid ((I0.out.eb.drew).keeps hst5.2 NE.out); have e5 := E5.out.cell 0; have f5 := E5.out.free 0; simp at e5; clear hst5))
      all_goals
        obtain ⟨q1, q2, q3, q4, q5, q6, q7⟩ := FIN.out _ S5.out E5.out
        have d5 := q5.cell 0
        simp at d5
        by_cases hc0 : c1 = 0
        · have t0 : (c1 == 0) = true := by simp [hc0]
          have ST0 := Lib.hid (show stageV S N D op2 (pre ++ [x]) M1 = (0, updL L1 x l1) by rw [← hc0]; exact ST.out)
          have Q := Lib.hid (show StI V3 t S N D op2 M1 (.func (.func fid2) #[] caps2) w.heap.size (w.heap.size + 1) V1.heap.size (pre ++ [x]) (V5.setCell ⟨w.heap.size + 1, 0, none⟩ (.int .i64 c1)) from ⟨⟨_, ST0.out, q3⟩, q4, by rw [hc0] at q5; rw [hc0]; exact q5, q6, q7⟩)
          have Q1 := Lib.hid q1
          have Q2 := Lib.hid q2
          clear q1 q2 q3 q4 q5 q6 q7 hc0
          gi_wp2
          exact ⟨Q1.out, Q2.out, Q.out⟩
        · have t0 : (c1 == 0) = false := by simp [hc0]
          have Q := Lib.hid (show StX V3 t S N D op2 M1 (w.heap.size + 1) 0 (pre ++ [x]) (V5.setCell ⟨w.heap.size + 1, 0, none⟩ (.int .i64 c1)) from ⟨rfl, ⟨c1, _, hc0, ST.out, q3, q5⟩, q7⟩)
          have Q1 := Lib.hid q1
          clear q1 q2 q3 q4 q5 q6 q7 hc0
          gi_wp2
          exact ⟨Q1.out, Q.out⟩
    case done2 =>
      intro D W hD hI hDd
      obtain ⟨L1, hst, hTT⟩ := hI.st
      rw [each_one, hst] at hr2
      cases hr2
      have e0 := hI.eb.cell 0
      simp at e0
      have z3 := Z3.out
      have zv := ZV.out
      have zd := ZD.out
      have ne12 : D1 ≠ D := by have := lt_heap hDd1; omega
      have hDd1' : W.heap[D1]? = some (.deferred (some [])) := (hI.kp.block D1 (by have := lt_heap hDd1; have := BW3.out.size; omega) (fun r => by rcases r with r | r; (have := hlt _ r; omega); omega)).trans ((BW3.out.block D1 (lt_heap hDd1)).trans hDd1)
      have hDd1'' : (W.putObj D (Obj.deferred none)).heap[D1]? = some (.deferred (some [])) := (World.putObj_heap_other ne12).trans hDd1'
      have T8 := hTT.own hT3 (grownBy_putObj' W D (Obj.deferred none)) (fun r e => by cases e; exact hD)
      have T9 := Lib.hid (T8.own (B := w.heap.size) hT (grownBy_putObj' (W.putObj D (Obj.deferred none)) D1 (Obj.deferred none)) (fun r e => by cases e; omega))
      have K9 := Lib.hid (show Keeps (ledF t S.length) w ((W.putObj D (Obj.deferred none)).putObj D1 (Obj.deferred none)) from by
        have k := ((((KV.out.next BW3.out).trans hI.kp (fun _ q => .inl q)).grown (grownBy_putObj' W D (Obj.deferred none)) (fun k e => by cases e; exact .inr (by omega)))).grown (grownBy_putObj' (W.putObj D (Obj.deferred none)) D1 (Obj.deferred none)) (fun k e => by cases e; exact .inr (by omega))
        exact ⟨k.os, k.tape, k.output, k.size, fun k' q1 q2 => k.block k' q1 (fun r => by rcases r with r | r; exact q2 r; omega)⟩)
      clear hst hTT T8
      go_wp2
      rw [rounds_succ]
      go_wp2
      refine ⟨by simp, .inl ⟨_, _, rfl, run_takeDeferred hDd, ?_⟩⟩
      refine ⟨by simp, .inl ⟨_, _, rfl, run_takeDeferred hDd1'', ?_⟩⟩
      exact ⟨_, results_tmp rfl _ _ _, rfl, T9.out, K9.out⟩
    case stop2 =>
      intro D id pre rest W hD hys hX hDd
      obtain ⟨c1, L1, hc0, hst, hTT, heb⟩ := hX.st
      have hid := hX.is0
      subst hid
      have hst2 := stage_stop hc0 rest hst
      rw [← hys, ← each_one, hr2] at hst2
      cases hst2
      have e0 := heb.cell 0
      simp at e0
      have z3 := Z3.out
      have zv := ZV.out
      have zd := ZD.out
      have ne12 : D1 ≠ D := by have := lt_heap hDd1; omega
      have hDd1' : W.heap[D1]? = some (.deferred (some [])) := (hX.kp.block D1 (by have := lt_heap hDd1; have := BW3.out.size; omega) (fun r => by rcases r with r | r; (have := hlt _ r; omega); omega)).trans ((BW3.out.block D1 (lt_heap hDd1)).trans hDd1)
      have hDd1'' : (W.putObj D (Obj.deferred none)).heap[D1]? = some (.deferred (some [])) := (World.putObj_heap_other ne12).trans hDd1'
      have T8 := hTT.own hT3 (grownBy_putObj' W D (Obj.deferred none)) (fun r e => by cases e; exact hD)
      have T9 := Lib.hid (T8.own (B := w.heap.size) hT (grownBy_putObj' (W.putObj D (Obj.deferred none)) D1 (Obj.deferred none)) (fun r e => by cases e; omega))
      have K9 := Lib.hid (show Keeps (ledF t S.length) w ((W.putObj D (Obj.deferred none)).putObj D1 (Obj.deferred none)) from by
        have k := ((((KV.out.next BW3.out).trans hX.kp (fun _ q => .inl q)).grown (grownBy_putObj' W D (Obj.deferred none)) (fun k e => by cases e; exact .inr (by omega)))).grown (grownBy_putObj' (W.putObj D (Obj.deferred none)) D1 (Obj.deferred none)) (fun k e => by cases e; exact .inr (by omega))
        exact ⟨k.os, k.tape, k.output, k.size, fun k' q1 q2 => k.block k' q1 (fun r => by rcases r with r | r; exact q2 r; omega)⟩)
      clear hst hTT heb T8
      gi_wp2
      go_wp2
      refine ⟨by simp, .inl ⟨_, _, rfl, run_takeDeferred hDd, ?_⟩⟩
      refine ⟨by simp, .inl ⟨_, _, rfl, run_takeDeferred hDd1'', ?_⟩⟩
      exact ⟨_, results_tmp rfl _ _ _, rfl, T9.out, K9.out⟩
  case stop =>
    intro D id pre rest W hD hys hX hDd
    obtain ⟨c1, L1, hc0, hst, hTT, heb⟩ := hX.st
    have hid := hX.is0
    subst hid
    have hst2 := stage_stop hc0 rest hst
    rw [← hys] at hst2
    have hr2 := hr
    unfold eachV at hr2
    rw [hst2, if_neg hc0] at hr2
    cases hr2
    have e0 := heb.cell 0
    simp at e0
    have z3 := Z3.out
    have T9 := Lib.hid (hTT.own hT3 (grownBy_putObj' W D (Obj.deferred none)) (fun r e => by cases e; exact hD))
    have K9 := Lib.hid (show Keeps (ledF t S.length) w (W.putObj D (Obj.deferred none)) from by
      have k := ((Keeps.of (F := fun k => ledF t S.length k ∨ k = w.heap.size + 1) BW3.out).trans hX.kp (fun _ q => .inl q)).grown (grownBy_putObj' W D (Obj.deferred none)) (fun k e => by cases e; exact .inr (by omega))
      exact ⟨k.os, k.tape, k.output, k.size, fun k' q1 q2 => k.block k' q1 (fun r => by rcases r with r | r; exact q2 r; omega)⟩)
    clear hst hTT heb
    gi_wp2
    go_wp2
    refine ⟨by simp, .inl ⟨_, _, rfl, run_takeDeferred hDd, ?_⟩⟩
    exact ⟨_, results_tmp rfl _ _ _, rfl, T9.out, K9.out⟩
end
end Go.Proofs.YtbonilmlfelmpaaGreat
