/-
  The walk of TaskPlays, for a package task that is as P10.1 to P10.3 say.
-/
import Derived.Test.YthaoijmjkmgebaaTb1
import Derived.Test.YthaoijmjkmgebaaTl6
import Derived.Deep.CutBlock
import Derived.Deep.DeepCutAuto
namespace Go.Proofs.Ythaoijmjkmgebaa
open Go.RowKit

theorem ops10_at {w : World} {a : Option Addr} {len cap : Nat} {rs : List (List Value)} (h : RowF w a len cap 5 rs) (f : ∀ r ∈ rs, Fit [.int .i64, .int .i64, .int .i64, .bool, .bool] r) {i : Nat} (hi : i < len) : ∃ (b off : Nat) (K N A : Int) (F C : Bool), a = some ⟨b, off, none⟩ ∧ w.cell? ⟨b, off + i * 5, none⟩ = some (.int .i64 K) ∧ w.cell? ⟨b, off + i * 5 + 1, none⟩ = some (.int .i64 N) ∧ w.cell? ⟨b, off + i * 5 + 2, none⟩ = some (.int .i64 A) ∧ w.cell? ⟨b, off + i * 5 + 3, none⟩ = some (.bool F) ∧ w.cell? ⟨b, off + i * 5 + 4, none⟩ = some (.bool C) := by
  obtain ⟨b, off, ha, hc⟩ := h.2.2.2.2 i hi
  have hl : i < rs.length := by rw [h.1]; exact hi
  have g := f rs[i] (List.getElem_mem hl)
  obtain ⟨K, q0, e0, _, g1⟩ := g.int
  obtain ⟨N, q1, rfl, _, g2⟩ := g1.int
  obtain ⟨A, q2, rfl, _, g3⟩ := g2.int
  obtain ⟨F, q3, rfl, g4⟩ := g3.truth
  obtain ⟨C, q4, rfl, _⟩ := g4.truth
  have e : rs.getD i [] = .int .i64 K :: .int .i64 N :: .int .i64 A :: .bool F :: .bool C :: q4 := by rw [List.getD_eq_getElem?_getD, List.getElem?_eq_getElem hl, ← e0]; rfl
  rw [e] at hc
  exact ⟨b, off, K, N, A, F, C, ha, hc 0 (by omega), hc 1 (by omega), hc 2 (by omega), hc 3 (by omega), hc 4 (by omega)⟩
theorem hb_cell10 {w w2 : World} {p : Addr} {v : Value} (hb : Below w.heap.size w w2) (h : w.cell? p = some v) : w2.cell? p = some v := (hb.cell (World.block_lt_of_cell? _ _ h)).trans h
theorem head_none10 {t : TS} (h : t.l = []) : headS t = sub0 ∧ someB t = false := by simp [headS, someB, h]
theorem head_some10 {t : TS} {s : Sb} {rest : List Sb} (h : t.l = s :: rest) : headS t = s ∧ someB t = true := by simp [headS, someB, h]
/-- a task in the middle of a script -/
structure TP (E P : Int) (early : Bool) (i : Nat) (t : TS) : Prop where
  e : t.E = E
  p : t.P = P
  y : t.early = early
  came : t.came ≤ 64 * (i : Int)
  done : t.done ≤ (i : Int)
theorem tp_zero (E P at_ : Int) (early : Bool) : TP E P early 0 (ts0 E P at_ early) := ⟨rfl, rfl, rfl, by show (0 : Int) ≤ _; omega, by show (0 : Int) ≤ _; omega⟩
theorem tp_stay {E P : Int} {early : Bool} {i : Nat} {t : TS} (h : TP E P early i t) : TP E P early (i + 1) t := ⟨h.e, h.p, h.y, by have := h.came; omega, by have := h.done; omega⟩
theorem tp_cut {E P : Int} {early : Bool} {i : Nat} {t : TS} (h : TP E P early i t) (at_ : Int) : TP E P early (i + 1) (cutT t at_) := ⟨h.e, h.p, h.y, by show t.came ≤ _; have := h.came; omega, by show t.done ≤ _; have := h.done; omega⟩
theorem tp_run {E P : Int} {early : Bool} {i : Nat} {t : TS} (h : TP E P early i t) : TP E P early (i + 1) (runT t) := by
  unfold runT
  split
  · exact ⟨h.e, h.p, h.y, by show t.came ≤ _; have := h.came; omega, by show t.done + 1 ≤ _; have := h.done; omega⟩
  · exact tp_stay h
theorem tp_arrive {E P : Int} {early : Bool} {i : Nat} {t : TS} (h : TP E P early i t) (at_ n : Int) : TP E P early (i + 1) (arriveT t at_ n) := by
  unfold arriveT
  split
  · rename_i q
    obtain ⟨⟨_, _, q1, q2⟩, _⟩ := arrive_zero q
    obtain ⟨e1, e2, e3, _, _, e6⟩ := comeN_EP at_ n.toNat t
    exact ⟨e1.trans h.e, e2.trans h.p, e3.trans h.y, by rw [comeN_came]; have := h.came; omega, by rw [e6]; have := h.done; omega⟩
  · exact tp_stay h
section
variable {Hp : World → Nat → (Nat → Prop) → TS → Prop}
set_option maxRecDepth 100000 in
set_option maxHeartbeats 8000000 in
theorem tplays_walk (ok : TaskOk Hp) (qa qb : Int) (early : Bool) (a : Option Addr) (len cap : Nat) (rs : List (List Value)) (w : World) (h : RowF w a len cap 5 rs) (f : ∀ r ∈ rs, Fit [.int .i64, .int .i64, .int .i64, .bool, .bool] r) : Calls Try.prog 3 #[.agg #[.int .i64 qa, .int .i64 qb], .bool early, .slice a len cap] w fun e w' => e = .returned (.bool true) ∧ Below w.heap.size w w' := by
  have OK := Lib.hid ok
  have AT := Lib.hid (fun (i : Nat) (hi : i < len) => ops10_at h f hi)
  have zc := h.cap_le
  have Q := Lib.hid (Blk.new w 22 #[Value.int .i64 qa, Value.int .i64 qb])
  clear h f ok
  go_enter Try.func3, Try.ntmps3
  go_wp2_with fail
  refine (l10awake OK.out _).mono ?_
  rintro e w1 ⟨rfl, hb⟩
  have B := Lib.hid (below_next (wbox _ _) hb)
  have q0 := (Q.out.below hb).cell 0; have q1 := (Q.out.below hb).cell 1
  simp at q0 q1
  clear hb Q
  go_wp2_with fail
  refine (wmade_any qa qb _).mono ?_
  rintro e w2 ⟨E, P, rfl, hM, hb⟩
  have SB := Lib.hid (below_next B.out hb).size
  have B := Lib.hid (below_next (below_next B.out hb) (wbox w2 (.cells #[.int .i64 E, .int .i64 P] 26)))
  have HM := Lib.hid hM
  have K := Lib.hid (Blk.new w2 26 #[.int .i64 E, .int .i64 P])
  have k0 := K.out.cell 0; have k1 := K.out.cell 1
  simp at k0 k1
  clear hb hM q0 q1
  go_wp2_with fail
  refine (mnewG OK.out (w := w) (fun x => x = w2.heap.size) E P 5 early _ B.out (fun x q => by subst q; simp) (fun x q => by subst q; exact SB.out) HM.out (by omega) (by omega)).mono ?_
  rintro e w3 ⟨g, rfl, hm, hb⟩
  have K := Lib.hid (K.out.below hb)
  have M := Lib.hid hm
  clear hm hb k0 k1
  obtain ⟨bw, hbw⟩ : ∃ n, w2.heap.size = n := ⟨_, rfl⟩
  rw [hbw] at K M ⊢
  clear hbw SB B
  have k0 := K.out.cell 0; have k1 := K.out.cell 1
  simp at k0 k1
  go_wp2_with fail
  refine (r10new_any E P 5 early _).mono ?_
  rintro e w4 ⟨r, Fr, rfl, hr, hf, hb⟩
  have K := Lib.hid (K.out.below hb)
  have M := Lib.hid (both_new OK.out M.out hr hf hb)
  have T := Lib.hid (tp_zero E P 5 early)
  obtain ⟨t0, ht0⟩ : ∃ t0, ts0 E P 5 early = t0 := ⟨_, rfl⟩
  rw [ht0] at M T
  clear hr hf hb k0 k1 ht0
  go_wp2
  go_loopw [11, 12] (fun v u wr => ∃ (i : Nat) (at_ : Int) (t : TS), u = .int .i64 (i : Int) ∧ v = .int .i64 at_ ∧ i ≤ len ∧ i ≤ 60 ∧ 5 ≤ at_ ∧ at_ ≤ 5 + 31 * (i : Int) ∧ TP E P early i t ∧ Both10 Hp w (fun k => k = bw) g r t t wr ∧ Blk wr 26 bw #[.int .i64 E, .int .i64 P]) (fun _ u _ => len - (intOf u).toNat)
  case atStart => exact ⟨0, 5, t0, rfl, rfl, by omega, by omega, by omega, by omega, T.out, M.out, K.out⟩
  case round =>
    obtain ⟨i, at_, t, rfl, rfl, il, i60, at0, at1, ht, hm, hk⟩ := hrel
    clear M K T
    have M := Lib.hid hm; have K := Lib.hid hk; have T := Lib.hid ht
    have GT := Lib.hid (hm.good OK.out)
    clear hm hk ht
    by_cases d1 : i < len
    · have b1 : decide (i < len) = true := by simp; omega
      have b2 : decide ((i : Int) < (len : Int)) = true := by simp; omega
      by_cases d2 : i < 60
      · have b3 : decide ((i : Int) < 60) = true := by simp; omega
        have b3n : decide (i < 60) = true := by simp; omega
        obtain ⟨ba, oa, K_, N, A, F, C, rfl, hk0, hk1, hk2, hk3, hk4⟩ := AT.out i d1
        have c0 := hb_cell10 M.out.below hk0
        have c1 := hb_cell10 M.out.below hk1
        have c2 := hb_cell10 M.out.below hk2
        have c3 := hb_cell10 M.out.below hk3
        have c4 := hb_cell10 M.out.below hk4
        have i1 : (i : Int) < (len : Int) := by omega
        have i2 : 0 ≤ (i : Int) := by omega
        obtain ⟨kd, hkd⟩ : ∃ kd, bits .and .i64 K_ 7 = kd := ⟨_, rfl⟩
        obtain ⟨a31, ha31⟩ : ∃ kd, bits .and .i64 A 31 = kd := ⟨_, rfl⟩
        have ma := mask_le A 31 (by omega) (by omega)
        rw [ha31] at ma
        obtain ⟨at2, hat2⟩ : ∃ x, at_ + a31 = x := ⟨_, rfl⟩
        have wat : IntKind.i64.wrap (at_ + a31) = at2 := by rw [← hat2]; exact IntWalk.i64_in _ (by omega)
        have AB := Lib.hid (show 5 ≤ at2 ∧ at2 ≤ 5 + 31 * ((i : Int) + 1) by omega)
        have wi : IntKind.i64.wrap ((i : Int) + 1) = (i : Int) + 1 := IntWalk.i64_in _ (by omega)
        clear hk0 hk1 hk2 hk3 hk4 hat2 ma
        go_upto_region 12 with fail
        obtain ⟨W1, hW1⟩ : ∃ W1, wr.alloc (Obj.cells #[.int .i64 K_, .int .i64 N, .int .i64 A, .bool F, .bool C] 33) = W1 := ⟨_, rfl⟩
        obtain ⟨bo, hbo⟩ : ∃ n, wr.heap.size = n := ⟨_, rfl⟩
        have M := Lib.hid (show Both10 Hp w (fun k => k = bw ∨ k = bo) g r t t W1 by rw [← hW1, ← hbo]; exact M.out.own1 OK.out _)
        have O := Lib.hid (show Blk W1 33 bo #[.int .i64 K_, .int .i64 N, .int .i64 A, .bool F, .bool C] by rw [← hW1, ← hbo]; exact Blk.new _ _ _)
        have K := Lib.hid (show Blk W1 26 bw #[.int .i64 E, .int .i64 P] by rw [← hW1]; exact K.out.alloc _)
        rw [hW1, hbo]
        clear hW1 hbo c0 c1 c2 c3 c4
        have o0 := O.out.cell 0; have o1 := O.out.cell 1; have o2 := O.out.cell 2; have o3 := O.out.cell 3; have o4 := O.out.cell 4
        simp at o0 o1 o2 o3 o4
        go_upto_if 65 with fail
        go_cut [14] (fun s14 wx => ∃ now : Int, s14 = .int .i64 now ∧ wx = W1)
        case first =>
          cases F with
          | true =>
            go_wp2_with fail
            go_meet
            exact ⟨_, rfl, rfl⟩
          | false =>
            go_wp2_with fail
            go_meet
            exact ⟨_, rfl, rfl⟩
        case rest =>
        obtain ⟨now, rfl, hwc⟩ := hcut
        subst hwc
        go_upto_block 2 with fail
        go_cut [15] (fun s15 wx => s15 = .bool true ∧ ∃ t', TP E P early (i + 1) t' ∧ Both10 Hp w (fun k => k = bw) g r t' t' wx ∧ Blk wx 26 bw #[.int .i64 E, .int .i64 P])
        case rest => as_aux_lemma =>
          obtain ⟨rfl, t', htl, hm, hk⟩ := hcut
          clear M K T O o0 o1 o2 o3 o4 GT
          have M := Lib.hid hm; have K := Lib.hid hk; have T := Lib.hid htl
          have GT := Lib.hid (hm.good OK.out)
          clear hm hk htl
          go_wp2_with fail
          refine (p10last OK.out g r t' t' M.out).mono ?_
          rintro e w4 ⟨rfl, hm, hh⟩
          obtain ⟨sl, hs⟩ : ∃ s, lastS t' = s := ⟨_, rfl⟩
          have Ssl := Lib.hid hs
          clear hs
          obtain ⟨yl, hy⟩ : ∃ y, lastB t' = y := ⟨_, rfl⟩
          have Syl := Lib.hid hy
          clear hy
          rw [Ssl.out, Syl.out, show sl.v = .agg #[.int .i64 sl.I, .int .i64 sl.R, .int .i64 sl.D, .int .i64 sl.B, .int .i64 sl.G] from rfl]
          have MM := Lib.hid (hm.own1 OK.out (Obj.cells #[.int .i64 sl.I, .int .i64 sl.R, .int .i64 sl.D, .int .i64 sl.B, .int .i64 sl.G] 35))
          have K := Lib.hid (hh.blk K.out (rfl))
          clear hm hh
          go_upto_region 32 with fail
          obtain ⟨na, hn4⟩ : ∃ n, w4.heap.size = n := ⟨_, rfl⟩
          obtain ⟨Wa, hW4⟩ : ∃ W4, w4.alloc (Obj.cells #[.int .i64 sl.I, .int .i64 sl.R, .int .i64 sl.D, .int .i64 sl.B, .int .i64 sl.G] 35) = W4 := ⟨_, rfl⟩
          have Xa := Lib.hid (show Blk Wa 35 na #[.int .i64 sl.I, .int .i64 sl.R, .int .i64 sl.D, .int .i64 sl.B, .int .i64 sl.G] by rw [← hW4, ← hn4]; exact Blk.new _ _ _)
          have K := Lib.hid (show Blk Wa 26 bw #[.int .i64 E, .int .i64 P] by rw [← hW4]; exact K.out.alloc _)
          have M := MM
          rw [hW4, hn4] at M
          rw [hW4, hn4]
          clear hW4 hn4 MM
          go_wp2_with fail
          refine (q10last OK.out g r t' t' M.out GT.out).mono ?_
          rintro e w4 ⟨rfl, hm, hh⟩
          rw [Ssl.out, Syl.out, show sl.v = .agg #[.int .i64 sl.I, .int .i64 sl.R, .int .i64 sl.D, .int .i64 sl.B, .int .i64 sl.G] from rfl]
          have MM := Lib.hid (hm.own1 OK.out (Obj.cells #[.int .i64 sl.I, .int .i64 sl.R, .int .i64 sl.D, .int .i64 sl.B, .int .i64 sl.G] 35))
          have K := Lib.hid (hh.blk K.out (.inl rfl))
          have Xa := Lib.hid (hh.blk Xa.out (.inr rfl))
          clear hm hh
          go_upto_region 33 with fail
          obtain ⟨nb, hn4⟩ : ∃ n, w4.heap.size = n := ⟨_, rfl⟩
          obtain ⟨Wb, hW4⟩ : ∃ W4, w4.alloc (Obj.cells #[.int .i64 sl.I, .int .i64 sl.R, .int .i64 sl.D, .int .i64 sl.B, .int .i64 sl.G] 35) = W4 := ⟨_, rfl⟩
          have Xb := Lib.hid (show Blk Wb 35 nb #[.int .i64 sl.I, .int .i64 sl.R, .int .i64 sl.D, .int .i64 sl.B, .int .i64 sl.G] by rw [← hW4, ← hn4]; exact Blk.new _ _ _)
          have K := Lib.hid (show Blk Wb 26 bw #[.int .i64 E, .int .i64 P] by rw [← hW4]; exact K.out.alloc _)
          have Xa := Lib.hid (show Blk Wb 35 na #[.int .i64 sl.I, .int .i64 sl.R, .int .i64 sl.D, .int .i64 sl.B, .int .i64 sl.G] by rw [← hW4]; exact Xa.out.alloc _)
          have M := MM
          rw [hW4, hn4] at M
          rw [hW4, hn4]
          clear hW4 hn4 MM
          go_wp2_with fail
          refine (p10head OK.out g r t' t' M.out).mono ?_
          rintro e w4 ⟨rfl, hm, hh⟩
          obtain ⟨sh, hs⟩ : ∃ s, headS t' = s := ⟨_, rfl⟩
          have Ssh := Lib.hid hs
          clear hs
          obtain ⟨yh, hy⟩ : ∃ y, someB t' = y := ⟨_, rfl⟩
          have Syh := Lib.hid hy
          clear hy
          rw [Ssh.out, Syh.out, show sh.v = .agg #[.int .i64 sh.I, .int .i64 sh.R, .int .i64 sh.D, .int .i64 sh.B, .int .i64 sh.G] from rfl]
          have MM := Lib.hid (hm.own1 OK.out (Obj.cells #[.int .i64 sh.I, .int .i64 sh.R, .int .i64 sh.D, .int .i64 sh.B, .int .i64 sh.G] 35))
          have K := Lib.hid (hh.blk K.out (.inl (.inl rfl)))
          have Xa := Lib.hid (hh.blk Xa.out (.inl (.inr rfl)))
          have Xb := Lib.hid (hh.blk Xb.out (.inr rfl))
          clear hm hh
          go_upto_region 34 with fail
          obtain ⟨nc, hn4⟩ : ∃ n, w4.heap.size = n := ⟨_, rfl⟩
          obtain ⟨Wc, hW4⟩ : ∃ W4, w4.alloc (Obj.cells #[.int .i64 sh.I, .int .i64 sh.R, .int .i64 sh.D, .int .i64 sh.B, .int .i64 sh.G] 35) = W4 := ⟨_, rfl⟩
          have Xc := Lib.hid (show Blk Wc 35 nc #[.int .i64 sh.I, .int .i64 sh.R, .int .i64 sh.D, .int .i64 sh.B, .int .i64 sh.G] by rw [← hW4, ← hn4]; exact Blk.new _ _ _)
          have K := Lib.hid (show Blk Wc 26 bw #[.int .i64 E, .int .i64 P] by rw [← hW4]; exact K.out.alloc _)
          have Xa := Lib.hid (show Blk Wc 35 na #[.int .i64 sl.I, .int .i64 sl.R, .int .i64 sl.D, .int .i64 sl.B, .int .i64 sl.G] by rw [← hW4]; exact Xa.out.alloc _)
          have Xb := Lib.hid (show Blk Wc 35 nb #[.int .i64 sl.I, .int .i64 sl.R, .int .i64 sl.D, .int .i64 sl.B, .int .i64 sl.G] by rw [← hW4]; exact Xb.out.alloc _)
          have M := MM
          rw [hW4, hn4] at M
          rw [hW4, hn4]
          clear hW4 hn4 MM
          go_wp2_with fail
          refine (p10when OK.out g r t' t' M.out).mono ?_
          rintro e w4 ⟨rfl, hm, hh⟩
          rw [Syh.out]
          have M := Lib.hid hm
          have K := Lib.hid (hh.blk K.out (.inl (.inl (.inl rfl))))
          have Xa := Lib.hid (hh.blk Xa.out (.inl (.inl (.inr rfl))))
          have Xb := Lib.hid (hh.blk Xb.out (.inl (.inr rfl)))
          have Xc := Lib.hid (hh.blk Xc.out (.inr rfl))
          clear hm hh
          go_upto_region 35 with fail
          obtain ⟨G, hm, hr, hap⟩ := M.out
          have MM := Lib.hid hm; have RR := Lib.hid hr; have AP := Lib.hid hap
          obtain ⟨v, hb, hq, hn, hF⟩ := RR.out
          obtain ⟨av, cv, rfl, cv1, cv2⟩ := hq.val
          have RB := Lib.hid hb; have RQ := Lib.hid hq; have RF := Lib.hid hF
          obtain ⟨n, hn0⟩ : ∃ n, t'.l.length = n := ⟨_, rfl⟩
          have HN := Lib.hid hn0
          obtain ⟨dn, hdn⟩ : ∃ n, t'.done = n := ⟨_, rfl⟩
          have DN := Lib.hid hdn
          rw [hn0] at hb
          have r6 := hb.cell 6
          have r12 := hb.cell 12
          simp only [rtC, hdn] at r6 r12
          change _ = some (Value.slice av n cv) at r6
          change _ = some (Value.int .i64 dn) at r12
          clear hm hr hap hb hq hn hF hn0 hdn
          have x_a := Xa.out; have x_b := Xb.out; have x_c := Xc.out
          by_cases nz : n = 0
          · have hl : t'.l = [] := List.eq_nil_of_length_eq_zero (by rw [HN.out]; exact nz)
            have W0 := Lib.hid (show whenV t' = 0 by unfold whenV; rw [(head_none10 hl).1]; split <;> rfl)
            have y0 : yh = false := by rw [← Syh.out]; exact (head_none10 hl).2
            subst y0
            have n2 : decide ((0 : Int) < (n : Int)) = false := by simp; omega
            have n3 : decide (0 < n) = false := by simp; omega
            rw [W0.out]
            clear hl nz
            have KEPT := Lib.hid (show ∀ w' : World, Holds (fun k => G k ∨ (((k = bw ∨ k = na) ∨ k = nb) ∨ k = nc)) w4 w' → w'.cell? ⟨na, 0, none⟩ = some (.int .i64 sl.I) ∧ w'.cell? ⟨na, 1, none⟩ = some (.int .i64 sl.R) ∧ w'.cell? ⟨na, 2, none⟩ = some (.int .i64 sl.D) ∧ w'.cell? ⟨na, 3, none⟩ = some (.int .i64 sl.B) ∧ w'.cell? ⟨na, 4, none⟩ = some (.int .i64 sl.G) ∧ w'.cell? ⟨nb, 0, none⟩ = some (.int .i64 sl.I) ∧ w'.cell? ⟨nb, 1, none⟩ = some (.int .i64 sl.R) ∧ w'.cell? ⟨nb, 2, none⟩ = some (.int .i64 sl.D) ∧ w'.cell? ⟨nb, 3, none⟩ = some (.int .i64 sl.B) ∧ w'.cell? ⟨nb, 4, none⟩ = some (.int .i64 sl.G) ∧ w'.cell? ⟨nc, 0, none⟩ = some (.int .i64 sh.I) ∧ w'.cell? ⟨nc, 1, none⟩ = some (.int .i64 sh.R) ∧ w'.cell? ⟨nc, 2, none⟩ = some (.int .i64 sh.D) ∧ w'.cell? ⟨nc, 3, none⟩ = some (.int .i64 sh.B) ∧ w'.cell? ⟨nc, 4, none⟩ = some (.int .i64 sh.G) ∧ w'.cell? ⟨r, 6, none⟩ = some (.slice av n cv) ∧ w'.cell? ⟨r, 12, none⟩ = some (.int .i64 dn) from fun w' hh => ⟨(hh.blk x_a (.inr (.inl (.inl (.inr rfl))))).cell 0, (hh.blk x_a (.inr (.inl (.inl (.inr rfl))))).cell 1, (hh.blk x_a (.inr (.inl (.inl (.inr rfl))))).cell 2, (hh.blk x_a (.inr (.inl (.inl (.inr rfl))))).cell 3, (hh.blk x_a (.inr (.inl (.inl (.inr rfl))))).cell 4, (hh.blk x_b (.inr (.inl (.inr rfl)))).cell 0, (hh.blk x_b (.inr (.inl (.inr rfl)))).cell 1, (hh.blk x_b (.inr (.inl (.inr rfl)))).cell 2, (hh.blk x_b (.inr (.inl (.inr rfl)))).cell 3, (hh.blk x_b (.inr (.inl (.inr rfl)))).cell 4, (hh.blk x_c (.inr (.inr rfl))).cell 0, (hh.blk x_c (.inr (.inr rfl))).cell 1, (hh.blk x_c (.inr (.inr rfl))).cell 2, (hh.blk x_c (.inr (.inr rfl))).cell 3, (hh.blk x_c (.inr (.inr rfl))).cell 4, (World.cell?_of_block (hh.block r (.inl ((RF.out r).mpr (.inl rfl))))).trans r6, (World.cell?_of_block (hh.block r (.inl ((RF.out r).mpr (.inl rfl))))).trans r12⟩)
            clear r6 r12 x_a x_b x_c
            have MM := Lib.hid (MM.out.next OK.out ((Below.refl _ _).drew))
            have BL := Lib.hid (show Holds (fun k => G k ∨ (((k = bw ∨ k = na) ∨ k = nb) ∨ k = nc)) w4 w4.drew from Holds.drew w4)
            refine wp_region_noPanic ?_
            refine wp_region_held_drew (S := fun w' => w'.cell? ⟨na, 0, none⟩ = some (.int .i64 sl.I) ∧ w'.cell? ⟨na, 1, none⟩ = some (.int .i64 sl.R) ∧ w'.cell? ⟨na, 2, none⟩ = some (.int .i64 sl.D) ∧ w'.cell? ⟨na, 3, none⟩ = some (.int .i64 sl.B) ∧ w'.cell? ⟨na, 4, none⟩ = some (.int .i64 sl.G) ∧ w'.cell? ⟨nb, 0, none⟩ = some (.int .i64 sl.I) ∧ w'.cell? ⟨nb, 1, none⟩ = some (.int .i64 sl.R) ∧ w'.cell? ⟨nb, 2, none⟩ = some (.int .i64 sl.D) ∧ w'.cell? ⟨nb, 3, none⟩ = some (.int .i64 sl.B) ∧ w'.cell? ⟨nb, 4, none⟩ = some (.int .i64 sl.G) ∧ w'.cell? ⟨nc, 0, none⟩ = some (.int .i64 sh.I) ∧ w'.cell? ⟨nc, 1, none⟩ = some (.int .i64 sh.R) ∧ w'.cell? ⟨nc, 2, none⟩ = some (.int .i64 sh.D) ∧ w'.cell? ⟨nc, 3, none⟩ = some (.int .i64 sh.B) ∧ w'.cell? ⟨nc, 4, none⟩ = some (.int .i64 sh.G) ∧ w'.cell? ⟨r, 6, none⟩ = some (.slice av n cv) ∧ w'.cell? ⟨r, 12, none⟩ = some (.int .i64 dn)) (by kernel_rfl) (KEPT.out _ BL.out) (fun hHeld => ?_)
            refine' takeY (i := 0) (oi := _) (v := _) ?hiz0 (by kernel_rfl) (by kernel_rfl) (by kernel_rfl) (fun _ _ _ h => h) ?hwz0 ?hyz0 hHeld ?restz0
            case hiz0 => (simp only [List.getElem?_toArray, List.getElem?_cons_zero]; rfl)
            case hwz0 => rfl
            case hyz0 => (intro w hSw; (try dsimp only at hSw); go_simp; try with_reducible rfl)
            try simp only [Act.put, List.setIfInBounds_toArray, List.set_cons_zero, List.set_cons_succ]
            refine' takeY (i := 1) (oi := _) (v := _) ?hiz1 (by kernel_rfl) (by kernel_rfl) (by kernel_rfl) (fun _ _ _ h => h) ?hwz1 ?hyz1 hHeld ?restz1
            case hiz1 => (simp only [List.getElem?_toArray, List.getElem?_cons_succ, List.getElem?_cons_zero]; rfl)
            case hwz1 => rfl
            case hyz1 => (intro w hSw; (try dsimp only at hSw); go_simp; try with_reducible rfl)
            try simp only [Act.put, List.setIfInBounds_toArray, List.set_cons_zero, List.set_cons_succ]
            refine' takeY (i := 2) (oi := _) (v := _) ?hiz2 (by kernel_rfl) (by kernel_rfl) (by kernel_rfl) (fun _ _ _ h => h) ?hwz2 ?hyz2 hHeld ?restz2
            case hiz2 => (simp only [List.getElem?_toArray, List.getElem?_cons_succ, List.getElem?_cons_zero]; rfl)
            case hwz2 => rfl
            case hyz2 => (intro w hSw; (try dsimp only at hSw); go_simp; try with_reducible rfl)
            try simp only [Act.put, List.setIfInBounds_toArray, List.set_cons_zero, List.set_cons_succ]
            refine' takeY (i := 3) (oi := _) (v := _) ?hiz3 (by kernel_rfl) (by kernel_rfl) (by kernel_rfl) (fun _ _ _ h => h) ?hwz3 ?hyz3 hHeld ?restz3
            case hiz3 => (simp only [List.getElem?_toArray, List.getElem?_cons_succ, List.getElem?_cons_zero]; rfl)
            case hwz3 => rfl
            case hyz3 => (intro w hSw; (try dsimp only at hSw); go_simp; try with_reducible rfl)
            try simp only [Act.put, List.setIfInBounds_toArray, List.set_cons_zero, List.set_cons_succ]
            refine' takeY (i := 4) (oi := _) (v := _) ?hiz4 (by kernel_rfl) (by kernel_rfl) (by kernel_rfl) (fun _ _ _ h => h) ?hwz4 ?hyz4 hHeld ?restz4
            case hiz4 => (simp only [List.getElem?_toArray, List.getElem?_cons_succ, List.getElem?_cons_zero]; rfl)
            case hwz4 => rfl
            case hyz4 => (intro w hSw; (try dsimp only at hSw); go_simp; try with_reducible rfl)
            try simp only [Act.put, List.setIfInBounds_toArray, List.set_cons_zero, List.set_cons_succ]
            refine' takeY (i := 5) (oi := _) (v := _) ?hiz5 (by kernel_rfl) (by kernel_rfl) (by kernel_rfl) (fun _ _ _ h => h) ?hwz5 ?hyz5 hHeld ?restz5
            case hiz5 => (simp only [List.getElem?_toArray, List.getElem?_cons_succ, List.getElem?_cons_zero]; rfl)
            case hwz5 => rfl
            case hyz5 => (intro w hSw; (try dsimp only at hSw); go_simp; try with_reducible rfl)
            try simp only [Act.put, List.setIfInBounds_toArray, List.set_cons_zero, List.set_cons_succ]
            refine' takeY (i := 6) (oi := _) (v := _) ?hiz6 (by kernel_rfl) (by kernel_rfl) (by kernel_rfl) (fun _ _ _ h => h) ?hwz6 ?hyz6 hHeld ?restz6
            case hiz6 => (simp only [List.getElem?_toArray, List.getElem?_cons_succ, List.getElem?_cons_zero]; rfl)
            case hwz6 => rfl
            case hyz6 => (intro w hSw; (try dsimp only at hSw); go_simp; try with_reducible rfl)
            try simp only [Act.put, List.setIfInBounds_toArray, List.set_cons_zero, List.set_cons_succ]
            refine' takeY (i := 7) (oi := _) (v := _) ?hiz7 (by kernel_rfl) (by kernel_rfl) (by kernel_rfl) (fun _ _ _ h => h) ?hwz7 ?hyz7 hHeld ?restz7
            case hiz7 => (simp only [List.getElem?_toArray, List.getElem?_cons_succ, List.getElem?_cons_zero]; rfl)
            case hwz7 => rfl
            case hyz7 => (intro w hSw; (try dsimp only at hSw); go_simp; try with_reducible rfl)
            try simp only [Act.put, List.setIfInBounds_toArray, List.set_cons_zero, List.set_cons_succ]
            refine' takeY (i := 8) (oi := _) (v := _) ?hiz8 (by kernel_rfl) (by kernel_rfl) (by kernel_rfl) (fun _ _ _ h => h) ?hwz8 ?hyz8 hHeld ?restz8
            case hiz8 => (simp only [List.getElem?_toArray, List.getElem?_cons_succ, List.getElem?_cons_zero]; rfl)
            case hwz8 => rfl
            case hyz8 => (intro w hSw; (try dsimp only at hSw); go_simp; try with_reducible rfl)
            try simp only [Act.put, List.setIfInBounds_toArray, List.set_cons_zero, List.set_cons_succ]
            refine' takeY (i := 9) (oi := _) (v := _) ?hiz9 (by kernel_rfl) (by kernel_rfl) (by kernel_rfl) (fun _ _ _ h => h) ?hwz9 ?hyz9 hHeld ?restz9
            case hiz9 => (simp only [List.getElem?_toArray, List.getElem?_cons_succ, List.getElem?_cons_zero]; rfl)
            case hwz9 => rfl
            case hyz9 => (intro w hSw; (try dsimp only at hSw); go_simp; try with_reducible rfl)
            try simp only [Act.put, List.setIfInBounds_toArray, List.set_cons_zero, List.set_cons_succ]
            refine' takeY (i := 10) (oi := _) (v := _) ?hiz10 (by kernel_rfl) (by kernel_rfl) (by kernel_rfl) (fun _ _ _ h => h) ?hwz10 ?hyz10 hHeld ?restz10
            case hiz10 => (simp only [List.getElem?_toArray, List.getElem?_cons_succ, List.getElem?_cons_zero]; rfl)
            case hwz10 => rfl
            case hyz10 => (intro w hSw; (try dsimp only at hSw); go_simp; try with_reducible rfl)
            try simp only [Act.put, List.setIfInBounds_toArray, List.set_cons_zero, List.set_cons_succ]
            refine' takeY (i := 11) (oi := _) (v := _) ?hiz11 (by kernel_rfl) (by kernel_rfl) (by kernel_rfl) (fun _ _ _ h => h) ?hwz11 ?hyz11 hHeld ?restz11
            case hiz11 => (simp only [List.getElem?_toArray, List.getElem?_cons_succ, List.getElem?_cons_zero]; rfl)
            case hwz11 => rfl
            case hyz11 => (intro w hSw; (try dsimp only at hSw); go_simp; try with_reducible rfl)
            try simp only [Act.put, List.setIfInBounds_toArray, List.set_cons_zero, List.set_cons_succ]
            refine' takeY (i := 12) (oi := _) (v := _) ?hiz12 (by kernel_rfl) (by kernel_rfl) (by kernel_rfl) (fun _ _ _ h => h) ?hwz12 ?hyz12 hHeld ?restz12
            case hiz12 => (simp only [List.getElem?_toArray, List.getElem?_cons_succ, List.getElem?_cons_zero]; rfl)
            case hwz12 => rfl
            case hyz12 => (intro w hSw; (try dsimp only at hSw); go_simp; try with_reducible rfl)
            try simp only [Act.put, List.setIfInBounds_toArray, List.set_cons_zero, List.set_cons_succ]
            refine' takeY (i := 13) (oi := _) (v := _) ?hiz13 (by kernel_rfl) (by kernel_rfl) (by kernel_rfl) (fun _ _ _ h => h) ?hwz13 ?hyz13 hHeld ?restz13
            case hiz13 => (simp only [List.getElem?_toArray, List.getElem?_cons_succ, List.getElem?_cons_zero]; rfl)
            case hwz13 => rfl
            case hyz13 => (intro w hSw; (try dsimp only at hSw); go_simp; try with_reducible rfl)
            try simp only [Act.put, List.setIfInBounds_toArray, List.set_cons_zero, List.set_cons_succ]
            refine' takeY (i := 14) (oi := _) (v := _) ?hiz14 (by kernel_rfl) (by kernel_rfl) (by kernel_rfl) (fun _ _ _ h => h) ?hwz14 ?hyz14 hHeld ?restz14
            case hiz14 => (simp only [List.getElem?_toArray, List.getElem?_cons_succ, List.getElem?_cons_zero]; rfl)
            case hwz14 => rfl
            case hyz14 => (intro w hSw; (try dsimp only at hSw); go_simp; try with_reducible rfl)
            try simp only [Act.put, List.setIfInBounds_toArray, List.set_cons_zero, List.set_cons_succ]
            refine' takeY (i := 15) (oi := _) (v := _) ?hiz15 (by kernel_rfl) (by kernel_rfl) (by kernel_rfl) (fun _ _ _ h => h) ?hwz15 ?hyz15 hHeld ?restz15
            case hiz15 => (simp only [List.getElem?_toArray, List.getElem?_cons_succ, List.getElem?_cons_zero]; rfl)
            case hwz15 => rfl
            case hyz15 => (intro w hSw; (try dsimp only at hSw); go_simp; try with_reducible rfl)
            try simp only [Act.put, List.setIfInBounds_toArray, List.set_cons_zero, List.set_cons_succ]
            refine' takeY (i := 16) (oi := _) (v := _) ?hiz16 (by kernel_rfl) (by kernel_rfl) (by kernel_rfl) (fun _ _ _ h => h) ?hwz16 ?hyz16 hHeld ?restz16
            case hiz16 => (simp only [List.getElem?_toArray, List.getElem?_cons_succ, List.getElem?_cons_zero]; rfl)
            case hwz16 => rfl
            case hyz16 => (intro w hSw; (try dsimp only at hSw); go_simp; try with_reducible rfl)
            try simp only [Act.put, List.setIfInBounds_toArray, List.set_cons_zero, List.set_cons_succ]
            refine' takeY (i := 17) (oi := _) (v := _) ?hiz17 (by kernel_rfl) (by kernel_rfl) (by kernel_rfl) (fun _ _ _ h => h) ?hwz17 ?hyz17 hHeld ?restz17
            case hiz17 => (simp only [List.getElem?_toArray, List.getElem?_cons_succ, List.getElem?_cons_zero]; rfl)
            case hwz17 => rfl
            case hyz17 => (intro w hSw; (try dsimp only at hSw); go_simp; try with_reducible rfl)
            try simp only [Act.put, List.setIfInBounds_toArray, List.set_cons_zero, List.set_cons_succ]
            refine' takeY (i := 18) (oi := _) (v := _) ?hiz18 (by kernel_rfl) (by kernel_rfl) (by kernel_rfl) (fun _ _ _ h => h) ?hwz18 ?hyz18 hHeld ?restz18
            case hiz18 => (simp only [List.getElem?_toArray, List.getElem?_cons_succ, List.getElem?_cons_zero]; rfl)
            case hwz18 => rfl
            case hyz18 => (intro w hSw; (try dsimp only at hSw); go_simp; try with_reducible rfl)
            try simp only [Act.put, List.setIfInBounds_toArray, List.set_cons_zero, List.set_cons_succ]
            refine' takeY (i := 19) (oi := _) (v := _) ?hiz19 (by kernel_rfl) (by kernel_rfl) (by kernel_rfl) (fun _ _ _ h => h) ?hwz19 ?hyz19 hHeld ?restz19
            case hiz19 => (simp only [List.getElem?_toArray, List.getElem?_cons_succ, List.getElem?_cons_zero]; rfl)
            case hwz19 => rfl
            case hyz19 => (intro w hSw; (try dsimp only at hSw); go_simp; try with_reducible rfl)
            try simp only [Act.put, List.setIfInBounds_toArray, List.set_cons_zero, List.set_cons_succ]
            refine' takeY (i := 20) (oi := _) (v := _) ?hiz20 (by kernel_rfl) (by kernel_rfl) (by kernel_rfl) (fun _ _ _ h => h) ?hwz20 ?hyz20 hHeld ?restz20
            case hiz20 => (simp only [List.getElem?_toArray, List.getElem?_cons_succ, List.getElem?_cons_zero]; rfl)
            case hwz20 => rfl
            case hyz20 => (intro w hSw; (try dsimp only at hSw); go_simp; try with_reducible rfl)
            try simp only [Act.put, List.setIfInBounds_toArray, List.set_cons_zero, List.set_cons_succ]
            refine' takeY (i := 21) (oi := _) (v := _) ?hiz21 (by kernel_rfl) (by kernel_rfl) (by kernel_rfl) (fun _ _ _ h => h) ?hwz21 ?hyz21 hHeld ?restz21
            case hiz21 => (simp only [List.getElem?_toArray, List.getElem?_cons_succ, List.getElem?_cons_zero]; rfl)
            case hwz21 => rfl
            case hyz21 => (intro w hSw; (try dsimp only at hSw); go_simp; try with_reducible rfl)
            try simp only [Act.put, List.setIfInBounds_toArray, List.set_cons_zero, List.set_cons_succ]
            refine' takeY (i := 22) (oi := _) (v := _) ?hiz22 (by kernel_rfl) (by kernel_rfl) (by kernel_rfl) (fun _ _ _ h => h) ?hwz22 ?hyz22 hHeld ?restz22
            case hiz22 => (simp only [List.getElem?_toArray, List.getElem?_cons_succ, List.getElem?_cons_zero]; rfl)
            case hwz22 => rfl
            case hyz22 => (intro w hSw; (try dsimp only at hSw); go_simp; try with_reducible rfl)
            try simp only [Act.put, List.setIfInBounds_toArray, List.set_cons_zero, List.set_cons_succ]
            refine' takeY (i := 23) (oi := _) (v := _) ?hiz23 (by kernel_rfl) (by kernel_rfl) (by kernel_rfl) (fun _ _ _ h => h) ?hwz23 ?hyz23 hHeld ?restz23
            case hiz23 => (simp only [List.getElem?_toArray, List.getElem?_cons_succ, List.getElem?_cons_zero]; rfl)
            case hwz23 => rfl
            case hyz23 => (intro w hSw; (try dsimp only at hSw); go_simp; try with_reducible rfl)
            try simp only [Act.put, List.setIfInBounds_toArray, List.set_cons_zero, List.set_cons_succ]
            refine' takeY (i := 24) (oi := _) (v := _) ?hiz24 (by kernel_rfl) (by kernel_rfl) (by kernel_rfl) (fun _ _ _ h => h) ?hwz24 ?hyz24 hHeld ?restz24
            case hiz24 => (simp only [List.getElem?_toArray, List.getElem?_cons_succ, List.getElem?_cons_zero]; rfl)
            case hwz24 => rfl
            case hyz24 => (intro w hSw; (try dsimp only at hSw); go_simp; try with_reducible rfl)
            try simp only [Act.put, List.setIfInBounds_toArray, List.set_cons_zero, List.set_cons_succ]
            refine' takeY (i := 25) (oi := _) (v := _) ?hiz25 (by kernel_rfl) (by kernel_rfl) (by kernel_rfl) (fun _ _ _ h => h) ?hwz25 ?hyz25 hHeld ?restz25
            case hiz25 => (simp only [List.getElem?_toArray, List.getElem?_cons_succ, List.getElem?_cons_zero]; rfl)
            case hwz25 => rfl
            case hyz25 => (intro w hSw; (try dsimp only at hSw); go_simp; try with_reducible rfl)
            try simp only [Act.put, List.setIfInBounds_toArray, List.set_cons_zero, List.set_cons_succ]
            refine' takeY (i := 26) (oi := _) (v := _) ?hiz26 (by kernel_rfl) (by kernel_rfl) (by kernel_rfl) (fun _ _ _ h => h) ?hwz26 ?hyz26 hHeld ?restz26
            case hiz26 => (simp only [List.getElem?_toArray, List.getElem?_cons_succ, List.getElem?_cons_zero]; rfl)
            case hwz26 => rfl
            case hyz26 => (intro w hSw; (try dsimp only at hSw); go_simp; try with_reducible rfl)
            try simp only [Act.put, List.setIfInBounds_toArray, List.set_cons_zero, List.set_cons_succ]
            refine' takeY (i := 27) (oi := _) (v := _) ?hiz27 (by kernel_rfl) (by kernel_rfl) (by kernel_rfl) (fun _ _ _ h => h) ?hwz27 ?hyz27 hHeld ?restz27
            case hiz27 => (simp only [List.getElem?_toArray, List.getElem?_cons_succ, List.getElem?_cons_zero]; rfl)
            case hwz27 => rfl
            case hyz27 => (intro w hSw; (try dsimp only at hSw); go_simp; try with_reducible rfl)
            try simp only [Act.put, List.setIfInBounds_toArray, List.set_cons_zero, List.set_cons_succ]
            refine' takeY (i := 28) (oi := _) (v := _) ?hiz28 (by kernel_rfl) (by kernel_rfl) (by kernel_rfl) (fun _ _ _ h => h) ?hwz28 ?hyz28 hHeld ?restz28
            case hiz28 => (simp only [List.getElem?_toArray, List.getElem?_cons_succ, List.getElem?_cons_zero]; rfl)
            case hwz28 => rfl
            case hyz28 => (intro w hSw; (try dsimp only at hSw); go_simp; try with_reducible rfl)
            try simp only [Act.put, List.setIfInBounds_toArray, List.set_cons_zero, List.set_cons_succ]
            refine' takeY (i := 29) (oi := _) (v := _) ?hiz29 (by kernel_rfl) (by kernel_rfl) (by kernel_rfl) (fun _ _ _ h => h) ?hwz29 ?hyz29 hHeld ?restz29
            case hiz29 => (simp only [List.getElem?_toArray, List.getElem?_cons_succ, List.getElem?_cons_zero]; rfl)
            case hwz29 => rfl
            case hyz29 => (intro w hSw; (try dsimp only at hSw); go_simp; try with_reducible rfl)
            try simp only [Act.put, List.setIfInBounds_toArray, List.set_cons_zero, List.set_cons_succ]
            refine' takeN (i := 30) (oi := _) ?hiz30 (by kernel_rfl) (by kernel_rfl) (by kernel_rfl) (fun _ _ _ h => h) ?hwz30 hHeld ?restz30
            case hiz30 => (simp only [List.getElem?_toArray, List.getElem?_cons_succ, List.getElem?_cons_zero]; rfl)
            case hwz30 => rfl
            try simp only [Act.put, List.setIfInBounds_toArray, List.set_cons_zero, List.set_cons_succ]
            refine' takeN (i := 31) (oi := _) ?hiz31 (by kernel_rfl) (by kernel_rfl) (by kernel_rfl) (fun _ _ _ h => h) ?hwz31 hHeld ?restz31
            case hiz31 => (simp only [List.getElem?_toArray, List.getElem?_cons_succ, List.getElem?_cons_zero]; rfl)
            case hwz31 => rfl
            try simp only [Act.put, List.setIfInBounds_toArray, List.set_cons_zero, List.set_cons_succ]
            refine' takeN (i := 32) (oi := _) ?hiz32 (by kernel_rfl) (by kernel_rfl) (by kernel_rfl) (fun _ _ _ h => h) ?hwz32 hHeld ?restz32
            case hiz32 => (simp only [List.getElem?_toArray, List.getElem?_cons_succ, List.getElem?_cons_zero]; rfl)
            case hwz32 => rfl
            try simp only [Act.put, List.setIfInBounds_toArray, List.set_cons_zero, List.set_cons_succ]
            refine' takeN (i := 33) (oi := _) ?hiz33 (by kernel_rfl) (by kernel_rfl) (by kernel_rfl) (fun _ _ _ h => h) ?hwz33 hHeld ?restz33
            case hiz33 => (simp only [List.getElem?_toArray, List.getElem?_cons_succ, List.getElem?_cons_zero]; rfl)
            case hwz33 => rfl
            try simp only [Act.put, List.setIfInBounds_toArray, List.set_cons_zero, List.set_cons_succ]
            refine' takeN (i := 34) (oi := _) ?hiz34 (by kernel_rfl) (by kernel_rfl) (by kernel_rfl) (fun _ _ _ h => h) ?hwz34 hHeld ?restz34
            case hiz34 => (simp only [List.getElem?_toArray, List.getElem?_cons_succ, List.getElem?_cons_zero]; rfl)
            case hwz34 => rfl
            try simp only [Act.put, List.setIfInBounds_toArray, List.set_cons_zero, List.set_cons_succ]
            refine' takeN (i := 35) (oi := _) ?hiz35 (by kernel_rfl) (by kernel_rfl) (by kernel_rfl) (fun _ _ _ h => h) ?hwz35 hHeld ?restz35
            case hiz35 => (simp only [List.getElem?_toArray, List.getElem?_cons_succ, List.getElem?_cons_zero]; rfl)
            case hwz35 => rfl
            try simp only [Act.put, List.setIfInBounds_toArray, List.set_cons_zero, List.set_cons_succ]
            refine' takeN (i := 36) (oi := _) ?hiz36 (by kernel_rfl) (by kernel_rfl) (by kernel_rfl) (fun _ _ _ h => h) ?hwz36 hHeld ?restz36
            case hiz36 => (simp only [List.getElem?_toArray, List.getElem?_cons_succ, List.getElem?_cons_zero]; rfl)
            case hwz36 => rfl
            try simp only [Act.put, List.setIfInBounds_toArray, List.set_cons_zero, List.set_cons_succ]
            refine' takeN (i := 37) (oi := _) ?hiz37 (by kernel_rfl) (by kernel_rfl) (by kernel_rfl) (fun _ _ _ h => h) ?hwz37 hHeld ?restz37
            case hiz37 => (simp only [List.getElem?_toArray, List.getElem?_cons_succ, List.getElem?_cons_zero]; rfl)
            case hwz37 => rfl
            try simp only [Act.put, List.setIfInBounds_toArray, List.set_cons_zero, List.set_cons_succ]
            refine' takeY (i := 38) (oi := _) (v := _) ?hiz38 (by kernel_rfl) (by kernel_rfl) (by kernel_rfl) (fun _ _ _ h => h) ?hwz38 ?hyz38 hHeld ?restz38
            case hiz38 => (simp only [List.getElem?_toArray, List.getElem?_cons_succ, List.getElem?_cons_zero]; rfl)
            case hwz38 => rfl
            case hyz38 => (intro w hSw; (try dsimp only at hSw); go_simp; try with_reducible rfl)
            try simp only [Act.put, List.setIfInBounds_toArray, List.set_cons_zero, List.set_cons_succ]
            refine' takeY (i := 39) (oi := _) (v := _) ?hiz39 (by kernel_rfl) (by kernel_rfl) (by kernel_rfl) (fun _ _ _ h => h) ?hwz39 ?hyz39 hHeld ?restz39
            case hiz39 => (simp only [List.getElem?_toArray, List.getElem?_cons_succ, List.getElem?_cons_zero]; rfl)
            case hwz39 => rfl
            case hyz39 => (intro w hSw; (try dsimp only at hSw); go_simp; try with_reducible rfl)
            try simp only [Act.put, List.setIfInBounds_toArray, List.set_cons_zero, List.set_cons_succ]
            refine' takeY (i := 40) (oi := _) (v := _) ?hiz40 (by kernel_rfl) (by kernel_rfl) (by kernel_rfl) (fun _ _ _ h => h) ?hwz40 ?hyz40 hHeld ?restz40
            case hiz40 => (simp only [List.getElem?_toArray, List.getElem?_cons_succ, List.getElem?_cons_zero]; rfl)
            case hwz40 => rfl
            case hyz40 => (intro w hSw; (try dsimp only at hSw); go_simp; try with_reducible rfl)
            try simp only [Act.put, List.setIfInBounds_toArray, List.set_cons_zero, List.set_cons_succ]
            refine' takeY (i := 41) (oi := _) (v := _) ?hiz41 (by kernel_rfl) (by kernel_rfl) (by kernel_rfl) (fun _ _ _ h => h) ?hwz41 ?hyz41 hHeld ?restz41
            case hiz41 => (simp only [List.getElem?_toArray, List.getElem?_cons_succ, List.getElem?_cons_zero]; rfl)
            case hwz41 => rfl
            case hyz41 => (intro w hSw; (try dsimp only at hSw); go_simp; try with_reducible rfl)
            try simp only [Act.put, List.setIfInBounds_toArray, List.set_cons_zero, List.set_cons_succ]
            refine' takeY (i := 43) (oi := _) (v := _) ?hiz42 (by kernel_rfl) (by kernel_rfl) (by kernel_rfl) (fun _ _ _ h => h) ?hwz42 ?hyz42 hHeld ?restz42
            case hiz42 => (simp only [List.getElem?_toArray, List.getElem?_cons_succ, List.getElem?_cons_zero]; rfl)
            case hwz42 => rfl
            case hyz42 => (intro w hSw; (try dsimp only at hSw); go_simp; try with_reducible rfl)
            try simp only [Act.put, List.setIfInBounds_toArray, List.set_cons_zero, List.set_cons_succ]
            refine' takeY (i := 44) (oi := _) (v := _) ?hiz43 (by kernel_rfl) (by kernel_rfl) (by kernel_rfl) (fun _ _ _ h => h) ?hwz43 ?hyz43 hHeld ?restz43
            case hiz43 => (simp only [List.getElem?_toArray, List.getElem?_cons_succ, List.getElem?_cons_zero]; rfl)
            case hwz43 => rfl
            case hyz43 => (intro w hSw; (try dsimp only at hSw); go_simp; try with_reducible rfl)
            try simp only [Act.put, List.setIfInBounds_toArray, List.set_cons_zero, List.set_cons_succ]
            refine' takeY (i := 45) (oi := _) (v := _) ?hiz44 (by kernel_rfl) (by kernel_rfl) (by kernel_rfl) (fun _ _ _ h => h) ?hwz44 ?hyz44 hHeld ?restz44
            case hiz44 => (simp only [List.getElem?_toArray, List.getElem?_cons_succ, List.getElem?_cons_zero]; rfl)
            case hwz44 => rfl
            case hyz44 => (intro w hSw; (try dsimp only at hSw); go_simp; try with_reducible rfl)
            try simp only [Act.put, List.setIfInBounds_toArray, List.set_cons_zero, List.set_cons_succ]
            refine' takeY (i := 46) (oi := _) (v := _) ?hiz45 (by kernel_rfl) (by kernel_rfl) (by kernel_rfl) (fun _ _ _ h => h) ?hwz45 ?hyz45 hHeld ?restz45
            case hiz45 => (simp only [List.getElem?_toArray, List.getElem?_cons_succ, List.getElem?_cons_zero]; rfl)
            case hwz45 => rfl
            case hyz45 => (intro w hSw; (try dsimp only at hSw); go_simp; try with_reducible rfl)
            try simp only [Act.put, List.setIfInBounds_toArray, List.set_cons_zero, List.set_cons_succ]
            refine' takeY (i := 47) (oi := _) (v := _) ?hiz46 (by kernel_rfl) (by kernel_rfl) (by kernel_rfl) (fun _ _ _ h => h) ?hwz46 ?hyz46 hHeld ?restz46
            case hiz46 => (simp only [List.getElem?_toArray, List.getElem?_cons_succ, List.getElem?_cons_zero]; rfl)
            case hwz46 => rfl
            case hyz46 => (intro w hSw; (try dsimp only at hSw); go_simp; try with_reducible rfl)
            try simp only [Act.put, List.setIfInBounds_toArray, List.set_cons_zero, List.set_cons_succ]
            refine wpAnyH_ready (rs := [42]) (by kernel_rfl) (by simp) ?_
            refine' AllReadyH.cons (o := _) ?hiz47 (fun K hK => ?stepz47) AllReadyH.nil
            case hiz47 => (simp only [List.getElem?_toArray, List.getElem?_cons_succ, List.getElem?_cons_zero]; rfl)
            go_simp
            (go_at_call 25; (with_reducible refine (mwaits OK.out g t' MM.out).mono ?_); rintro e wa ⟨rfl, hm, hh⟩; rw [HN.out]; have MM := Lib.hid hm; have BL := Lib.hid (BL.out.trans hh); clear hm hh)
            go_wp2_with fail
            clear hHeld
            refine hK.out _ _ (KEPT.out _ BL.out) (fun hHeld => ?_)
            clear hK K
            try simp only [Act.put, List.setIfInBounds_toArray, List.set_cons_zero, List.set_cons_succ]
            refine' takeY (i := 48) (oi := _) (v := _) ?hiz48 (by kernel_rfl) (by kernel_rfl) (by kernel_rfl) (fun _ _ _ h => h) ?hwz48 ?hyz48 hHeld ?restz48
            case hiz48 => (simp only [List.getElem?_toArray, List.getElem?_cons_succ, List.getElem?_cons_zero]; rfl)
            case hwz48 => rfl
            case hyz48 => (intro w hSw; (try dsimp only at hSw); go_simp; try with_reducible rfl)
            try simp only [Act.put, List.setIfInBounds_toArray, List.set_cons_zero, List.set_cons_succ]
            refine' takeY (i := 49) (oi := _) (v := _) ?hiz49 (by kernel_rfl) (by kernel_rfl) (by kernel_rfl) (fun _ _ _ h => h) ?hwz49 ?hyz49 hHeld ?restz49
            case hiz49 => (simp only [List.getElem?_toArray, List.getElem?_cons_succ, List.getElem?_cons_zero]; rfl)
            case hwz49 => rfl
            case hyz49 => (intro w hSw; (try dsimp only at hSw); go_simp; try with_reducible rfl)
            try simp only [Act.put, List.setIfInBounds_toArray, List.set_cons_zero, List.set_cons_succ]
            refine' takeY (i := 50) (oi := _) (v := _) ?hiz50 (by kernel_rfl) (by kernel_rfl) (by kernel_rfl) (fun _ _ _ h => h) ?hwz50 ?hyz50 hHeld ?restz50
            case hiz50 => (simp only [List.getElem?_toArray, List.getElem?_cons_succ, List.getElem?_cons_zero]; rfl)
            case hwz50 => rfl
            case hyz50 => (intro w hSw; (try dsimp only at hSw); go_simp; try with_reducible rfl)
            try simp only [Act.put, List.setIfInBounds_toArray, List.set_cons_zero, List.set_cons_succ]
            refine' takeY (i := 51) (oi := _) (v := _) ?hiz51 (by kernel_rfl) (by kernel_rfl) (by kernel_rfl) (fun _ _ _ h => h) ?hwz51 ?hyz51 hHeld ?restz51
            case hiz51 => (simp only [List.getElem?_toArray, List.getElem?_cons_succ, List.getElem?_cons_zero]; rfl)
            case hwz51 => rfl
            case hyz51 => (intro w hSw; (try dsimp only at hSw); go_simp; try with_reducible rfl)
            try simp only [Act.put, List.setIfInBounds_toArray, List.set_cons_zero, List.set_cons_succ]
            refine' takeY (i := 53) (oi := _) (v := _) ?hiz52 (by kernel_rfl) (by kernel_rfl) (by kernel_rfl) (fun _ _ _ h => h) ?hwz52 ?hyz52 hHeld ?restz52
            case hiz52 => (simp only [List.getElem?_toArray, List.getElem?_cons_succ, List.getElem?_cons_zero]; rfl)
            case hwz52 => rfl
            case hyz52 => (intro w hSw; (try dsimp only at hSw); go_simp; try with_reducible rfl)
            try simp only [Act.put, List.setIfInBounds_toArray, List.set_cons_zero, List.set_cons_succ]
            refine' takeY (i := 54) (oi := _) (v := _) ?hiz53 (by kernel_rfl) (by kernel_rfl) (by kernel_rfl) (fun _ _ _ h => h) ?hwz53 ?hyz53 hHeld ?restz53
            case hiz53 => (simp only [List.getElem?_toArray, List.getElem?_cons_succ, List.getElem?_cons_zero]; rfl)
            case hwz53 => rfl
            case hyz53 => (intro w hSw; (try dsimp only at hSw); go_simp; try with_reducible rfl)
            try simp only [Act.put, List.setIfInBounds_toArray, List.set_cons_zero, List.set_cons_succ]
            refine' takeY (i := 55) (oi := _) (v := _) ?hiz54 (by kernel_rfl) (by kernel_rfl) (by kernel_rfl) (fun _ _ _ h => h) ?hwz54 ?hyz54 hHeld ?restz54
            case hiz54 => (simp only [List.getElem?_toArray, List.getElem?_cons_succ, List.getElem?_cons_zero]; rfl)
            case hwz54 => rfl
            case hyz54 => (intro w hSw; (try dsimp only at hSw); go_simp; try with_reducible rfl)
            try simp only [Act.put, List.setIfInBounds_toArray, List.set_cons_zero, List.set_cons_succ]
            refine' takeY (i := 56) (oi := _) (v := _) ?hiz55 (by kernel_rfl) (by kernel_rfl) (by kernel_rfl) (fun _ _ _ h => h) ?hwz55 ?hyz55 hHeld ?restz55
            case hiz55 => (simp only [List.getElem?_toArray, List.getElem?_cons_succ, List.getElem?_cons_zero]; rfl)
            case hwz55 => rfl
            case hyz55 => (intro w hSw; (try dsimp only at hSw); go_simp; try with_reducible rfl)
            try simp only [Act.put, List.setIfInBounds_toArray, List.set_cons_zero, List.set_cons_succ]
            refine wpAnyH_ready (rs := [52]) (by kernel_rfl) (by simp) ?_
            refine' AllReadyH.cons (o := _) ?hiz56 (fun K hK => ?stepz56) AllReadyH.nil
            case hiz56 => (simp only [List.getElem?_toArray, List.getElem?_cons_succ, List.getElem?_cons_zero]; rfl)
            go_simp
            (go_at_call 26; (with_reducible refine (mdone OK.out g t' MM.out).mono ?_); rintro e wb ⟨rfl, hm, hh⟩; rw [DN.out]; have MM := Lib.hid hm; have BL := Lib.hid (BL.out.trans hh); clear hm hh)
            go_wp2_with fail
            clear hHeld
            refine hK.out _ _ (KEPT.out _ BL.out) (fun hHeld => ?_)
            clear hK K
            try simp only [Act.put, List.setIfInBounds_toArray, List.set_cons_zero, List.set_cons_succ]
            refine' takeY (i := 57) (oi := _) (v := _) ?hiz57 (by kernel_rfl) (by kernel_rfl) (by kernel_rfl) (fun _ _ _ h => h) ?hwz57 ?hyz57 hHeld ?restz57
            case hiz57 => (simp only [List.getElem?_toArray, List.getElem?_cons_succ, List.getElem?_cons_zero]; rfl)
            case hwz57 => rfl
            case hyz57 => (intro w hSw; (try dsimp only at hSw); go_simp; try with_reducible rfl)
            try simp only [Act.put, List.setIfInBounds_toArray, List.set_cons_zero, List.set_cons_succ]
            refine' takeY (i := 58) (oi := _) (v := _) ?hiz58 (by kernel_rfl) (by kernel_rfl) (by kernel_rfl) (fun _ _ _ h => h) ?hwz58 ?hyz58 hHeld ?restz58
            case hiz58 => (simp only [List.getElem?_toArray, List.getElem?_cons_succ, List.getElem?_cons_zero]; rfl)
            case hwz58 => rfl
            case hyz58 => (intro w hSw; (try dsimp only at hSw); go_simp; try with_reducible rfl)
            try simp only [Act.put, List.setIfInBounds_toArray, List.set_cons_zero, List.set_cons_succ]
            refine wpAnyH_done (by kernel_rfl) ?_ _
            refine NoPanic.normal ?_
            go_wp2_with fail
            have MB := Lib.hid (show Both10 Hp w (fun k => k = bw) g r t' t' _ from ⟨G, MM.out.less OK.out (fun k q => q.imp id (fun z => .inl (.inl (.inl z)))), RR.out.holds (BL.out.less (fun k q => .inl q)), fun k q z => AP.out k q (.inl (.inl (.inl z)))⟩)
            have KB := Lib.hid (BL.out.blk K.out (.inr (.inl (.inl (.inl rfl)))))
            go_wp2
            go_roundw
            case rel => exact ⟨i + 1, at2, t', by go_num, rfl, by omega, by omega, AB.out.1, by have := AB.out.2; omega, T.out, MB.out, KB.out⟩
            case measure => simp [intOf]; omega
          · obtain ⟨s0, rest, hl⟩ : ∃ s rest, t'.l = s :: rest := by
              cases hq : t'.l with
              | nil => exact absurd (by rw [← HN.out, hq]; rfl) nz
              | cons s rest => exact ⟨s, rest, rfl⟩
            have y0 : yh = true := by rw [← Syh.out]; exact (head_some10 hl).2
            subst y0
            have s0h : s0 = sh := by rw [← Ssh.out]; exact (head_some10 hl).1.symm
            subst s0h
            obtain ⟨bl, ol, cl, hve, hat⟩ := QueS.at RQ.out (i := 0) (s := s0) (by rw [hl]; rfl)
            rw [HN.out] at hve
            simp only [Value.slice.injEq] at hve
            obtain ⟨rfl, _, rfl⟩ := hve
            have l0 := hat.c0; have l1 := hat.c1; have l2 := hat.c2; have l3 := hat.c3; have l4 := hat.c4
            simp only [Nat.zero_mul, Nat.add_zero] at l0 l1 l2 l3 l4
            have WH := Lib.hid (show whenV t' = if early = true then 0 else s0.R by unfold whenV; rw [T.out.y, (head_some10 hl).1])
            have n1 : (0 : Int) < (n : Int) := by omega
            have n2 : decide ((0 : Int) < (n : Int)) = true := decide_eq_true n1
            have n3 : decide (0 < n) = true := decide_eq_true (by omega)
            have n4 : 0 < n := by omega
            obtain ⟨wh, hwh⟩ : ∃ x, whenV t' = x := ⟨_, rfl⟩
            rw [hwh] at WH ⊢
            clear hl nz hat hwh
            have KEPT := Lib.hid (show ∀ w' : World, Holds (fun k => G k ∨ (((k = bw ∨ k = na) ∨ k = nb) ∨ k = nc)) w4 w' → w'.cell? ⟨na, 0, none⟩ = some (.int .i64 sl.I) ∧ w'.cell? ⟨na, 1, none⟩ = some (.int .i64 sl.R) ∧ w'.cell? ⟨na, 2, none⟩ = some (.int .i64 sl.D) ∧ w'.cell? ⟨na, 3, none⟩ = some (.int .i64 sl.B) ∧ w'.cell? ⟨na, 4, none⟩ = some (.int .i64 sl.G) ∧ w'.cell? ⟨nb, 0, none⟩ = some (.int .i64 sl.I) ∧ w'.cell? ⟨nb, 1, none⟩ = some (.int .i64 sl.R) ∧ w'.cell? ⟨nb, 2, none⟩ = some (.int .i64 sl.D) ∧ w'.cell? ⟨nb, 3, none⟩ = some (.int .i64 sl.B) ∧ w'.cell? ⟨nb, 4, none⟩ = some (.int .i64 sl.G) ∧ w'.cell? ⟨nc, 0, none⟩ = some (.int .i64 s0.I) ∧ w'.cell? ⟨nc, 1, none⟩ = some (.int .i64 s0.R) ∧ w'.cell? ⟨nc, 2, none⟩ = some (.int .i64 s0.D) ∧ w'.cell? ⟨nc, 3, none⟩ = some (.int .i64 s0.B) ∧ w'.cell? ⟨nc, 4, none⟩ = some (.int .i64 s0.G) ∧ w'.cell? ⟨r, 6, none⟩ = some (.slice (some ⟨bl, ol, none⟩) n cv) ∧ w'.cell? ⟨r, 12, none⟩ = some (.int .i64 dn) ∧ w'.cell? ⟨bl, ol, none⟩ = some (.int .i64 s0.I) ∧ w'.cell? ⟨bl, ol + 1, none⟩ = some (.int .i64 s0.R) ∧ w'.cell? ⟨bl, ol + 2, none⟩ = some (.int .i64 s0.D) ∧ w'.cell? ⟨bl, ol + 3, none⟩ = some (.int .i64 s0.B) ∧ w'.cell? ⟨bl, ol + 4, none⟩ = some (.int .i64 s0.G) from fun w' hh => ⟨(hh.blk x_a (.inr (.inl (.inl (.inr rfl))))).cell 0, (hh.blk x_a (.inr (.inl (.inl (.inr rfl))))).cell 1, (hh.blk x_a (.inr (.inl (.inl (.inr rfl))))).cell 2, (hh.blk x_a (.inr (.inl (.inl (.inr rfl))))).cell 3, (hh.blk x_a (.inr (.inl (.inl (.inr rfl))))).cell 4, (hh.blk x_b (.inr (.inl (.inr rfl)))).cell 0, (hh.blk x_b (.inr (.inl (.inr rfl)))).cell 1, (hh.blk x_b (.inr (.inl (.inr rfl)))).cell 2, (hh.blk x_b (.inr (.inl (.inr rfl)))).cell 3, (hh.blk x_b (.inr (.inl (.inr rfl)))).cell 4, (hh.blk x_c (.inr (.inr rfl))).cell 0, (hh.blk x_c (.inr (.inr rfl))).cell 1, (hh.blk x_c (.inr (.inr rfl))).cell 2, (hh.blk x_c (.inr (.inr rfl))).cell 3, (hh.blk x_c (.inr (.inr rfl))).cell 4, (World.cell?_of_block (hh.block r (.inl ((RF.out r).mpr (.inl rfl))))).trans r6, (World.cell?_of_block (hh.block r (.inl ((RF.out r).mpr (.inl rfl))))).trans r12, (World.cell?_of_block (hh.block bl (.inl ((RF.out bl).mpr (.inr rfl))))).trans l0, (World.cell?_of_block (hh.block bl (.inl ((RF.out bl).mpr (.inr rfl))))).trans l1, (World.cell?_of_block (hh.block bl (.inl ((RF.out bl).mpr (.inr rfl))))).trans l2, (World.cell?_of_block (hh.block bl (.inl ((RF.out bl).mpr (.inr rfl))))).trans l3, (World.cell?_of_block (hh.block bl (.inl ((RF.out bl).mpr (.inr rfl))))).trans l4⟩)
            clear r6 r12 x_a x_b x_c l0 l1 l2 l3 l4
            have MM := Lib.hid (MM.out.next OK.out ((Below.refl _ _).drew))
            have BL := Lib.hid (show Holds (fun k => G k ∨ (((k = bw ∨ k = na) ∨ k = nb) ∨ k = nc)) w4 w4.drew from Holds.drew w4)
            refine wp_region_noPanic ?_
            refine wp_region_held_drew (S := fun w' => w'.cell? ⟨na, 0, none⟩ = some (.int .i64 sl.I) ∧ w'.cell? ⟨na, 1, none⟩ = some (.int .i64 sl.R) ∧ w'.cell? ⟨na, 2, none⟩ = some (.int .i64 sl.D) ∧ w'.cell? ⟨na, 3, none⟩ = some (.int .i64 sl.B) ∧ w'.cell? ⟨na, 4, none⟩ = some (.int .i64 sl.G) ∧ w'.cell? ⟨nb, 0, none⟩ = some (.int .i64 sl.I) ∧ w'.cell? ⟨nb, 1, none⟩ = some (.int .i64 sl.R) ∧ w'.cell? ⟨nb, 2, none⟩ = some (.int .i64 sl.D) ∧ w'.cell? ⟨nb, 3, none⟩ = some (.int .i64 sl.B) ∧ w'.cell? ⟨nb, 4, none⟩ = some (.int .i64 sl.G) ∧ w'.cell? ⟨nc, 0, none⟩ = some (.int .i64 s0.I) ∧ w'.cell? ⟨nc, 1, none⟩ = some (.int .i64 s0.R) ∧ w'.cell? ⟨nc, 2, none⟩ = some (.int .i64 s0.D) ∧ w'.cell? ⟨nc, 3, none⟩ = some (.int .i64 s0.B) ∧ w'.cell? ⟨nc, 4, none⟩ = some (.int .i64 s0.G) ∧ w'.cell? ⟨r, 6, none⟩ = some (.slice (some ⟨bl, ol, none⟩) n cv) ∧ w'.cell? ⟨r, 12, none⟩ = some (.int .i64 dn) ∧ w'.cell? ⟨bl, ol, none⟩ = some (.int .i64 s0.I) ∧ w'.cell? ⟨bl, ol + 1, none⟩ = some (.int .i64 s0.R) ∧ w'.cell? ⟨bl, ol + 2, none⟩ = some (.int .i64 s0.D) ∧ w'.cell? ⟨bl, ol + 3, none⟩ = some (.int .i64 s0.B) ∧ w'.cell? ⟨bl, ol + 4, none⟩ = some (.int .i64 s0.G)) (by kernel_rfl) (KEPT.out _ BL.out) (fun hHeld => ?_)
            refine' takeY (i := 0) (oi := _) (v := _) ?hiy0 (by kernel_rfl) (by kernel_rfl) (by kernel_rfl) (fun _ _ _ h => h) ?hwy0 ?hyy0 hHeld ?resty0
            case hiy0 => (simp only [List.getElem?_toArray, List.getElem?_cons_zero]; rfl)
            case hwy0 => rfl
            case hyy0 => (intro w hSw; (try dsimp only at hSw); go_simp; try with_reducible rfl)
            try simp only [Act.put, List.setIfInBounds_toArray, List.set_cons_zero, List.set_cons_succ]
            refine' takeY (i := 1) (oi := _) (v := _) ?hiy1 (by kernel_rfl) (by kernel_rfl) (by kernel_rfl) (fun _ _ _ h => h) ?hwy1 ?hyy1 hHeld ?resty1
            case hiy1 => (simp only [List.getElem?_toArray, List.getElem?_cons_succ, List.getElem?_cons_zero]; rfl)
            case hwy1 => rfl
            case hyy1 => (intro w hSw; (try dsimp only at hSw); go_simp; try with_reducible rfl)
            try simp only [Act.put, List.setIfInBounds_toArray, List.set_cons_zero, List.set_cons_succ]
            refine' takeY (i := 2) (oi := _) (v := _) ?hiy2 (by kernel_rfl) (by kernel_rfl) (by kernel_rfl) (fun _ _ _ h => h) ?hwy2 ?hyy2 hHeld ?resty2
            case hiy2 => (simp only [List.getElem?_toArray, List.getElem?_cons_succ, List.getElem?_cons_zero]; rfl)
            case hwy2 => rfl
            case hyy2 => (intro w hSw; (try dsimp only at hSw); go_simp; try with_reducible rfl)
            try simp only [Act.put, List.setIfInBounds_toArray, List.set_cons_zero, List.set_cons_succ]
            refine' takeY (i := 3) (oi := _) (v := _) ?hiy3 (by kernel_rfl) (by kernel_rfl) (by kernel_rfl) (fun _ _ _ h => h) ?hwy3 ?hyy3 hHeld ?resty3
            case hiy3 => (simp only [List.getElem?_toArray, List.getElem?_cons_succ, List.getElem?_cons_zero]; rfl)
            case hwy3 => rfl
            case hyy3 => (intro w hSw; (try dsimp only at hSw); go_simp; try with_reducible rfl)
            try simp only [Act.put, List.setIfInBounds_toArray, List.set_cons_zero, List.set_cons_succ]
            refine' takeY (i := 4) (oi := _) (v := _) ?hiy4 (by kernel_rfl) (by kernel_rfl) (by kernel_rfl) (fun _ _ _ h => h) ?hwy4 ?hyy4 hHeld ?resty4
            case hiy4 => (simp only [List.getElem?_toArray, List.getElem?_cons_succ, List.getElem?_cons_zero]; rfl)
            case hwy4 => rfl
            case hyy4 => (intro w hSw; (try dsimp only at hSw); go_simp; try with_reducible rfl)
            try simp only [Act.put, List.setIfInBounds_toArray, List.set_cons_zero, List.set_cons_succ]
            refine' takeY (i := 5) (oi := _) (v := _) ?hiy5 (by kernel_rfl) (by kernel_rfl) (by kernel_rfl) (fun _ _ _ h => h) ?hwy5 ?hyy5 hHeld ?resty5
            case hiy5 => (simp only [List.getElem?_toArray, List.getElem?_cons_succ, List.getElem?_cons_zero]; rfl)
            case hwy5 => rfl
            case hyy5 => (intro w hSw; (try dsimp only at hSw); go_simp; try with_reducible rfl)
            try simp only [Act.put, List.setIfInBounds_toArray, List.set_cons_zero, List.set_cons_succ]
            refine' takeY (i := 6) (oi := _) (v := _) ?hiy6 (by kernel_rfl) (by kernel_rfl) (by kernel_rfl) (fun _ _ _ h => h) ?hwy6 ?hyy6 hHeld ?resty6
            case hiy6 => (simp only [List.getElem?_toArray, List.getElem?_cons_succ, List.getElem?_cons_zero]; rfl)
            case hwy6 => rfl
            case hyy6 => (intro w hSw; (try dsimp only at hSw); go_simp; try with_reducible rfl)
            try simp only [Act.put, List.setIfInBounds_toArray, List.set_cons_zero, List.set_cons_succ]
            refine' takeY (i := 7) (oi := _) (v := _) ?hiy7 (by kernel_rfl) (by kernel_rfl) (by kernel_rfl) (fun _ _ _ h => h) ?hwy7 ?hyy7 hHeld ?resty7
            case hiy7 => (simp only [List.getElem?_toArray, List.getElem?_cons_succ, List.getElem?_cons_zero]; rfl)
            case hwy7 => rfl
            case hyy7 => (intro w hSw; (try dsimp only at hSw); go_simp; try with_reducible rfl)
            try simp only [Act.put, List.setIfInBounds_toArray, List.set_cons_zero, List.set_cons_succ]
            refine' takeY (i := 8) (oi := _) (v := _) ?hiy8 (by kernel_rfl) (by kernel_rfl) (by kernel_rfl) (fun _ _ _ h => h) ?hwy8 ?hyy8 hHeld ?resty8
            case hiy8 => (simp only [List.getElem?_toArray, List.getElem?_cons_succ, List.getElem?_cons_zero]; rfl)
            case hwy8 => rfl
            case hyy8 => (intro w hSw; (try dsimp only at hSw); go_simp; try with_reducible rfl)
            try simp only [Act.put, List.setIfInBounds_toArray, List.set_cons_zero, List.set_cons_succ]
            refine' takeY (i := 9) (oi := _) (v := _) ?hiy9 (by kernel_rfl) (by kernel_rfl) (by kernel_rfl) (fun _ _ _ h => h) ?hwy9 ?hyy9 hHeld ?resty9
            case hiy9 => (simp only [List.getElem?_toArray, List.getElem?_cons_succ, List.getElem?_cons_zero]; rfl)
            case hwy9 => rfl
            case hyy9 => (intro w hSw; (try dsimp only at hSw); go_simp; try with_reducible rfl)
            try simp only [Act.put, List.setIfInBounds_toArray, List.set_cons_zero, List.set_cons_succ]
            refine' takeY (i := 10) (oi := _) (v := _) ?hiy10 (by kernel_rfl) (by kernel_rfl) (by kernel_rfl) (fun _ _ _ h => h) ?hwy10 ?hyy10 hHeld ?resty10
            case hiy10 => (simp only [List.getElem?_toArray, List.getElem?_cons_succ, List.getElem?_cons_zero]; rfl)
            case hwy10 => rfl
            case hyy10 => (intro w hSw; (try dsimp only at hSw); go_simp; try with_reducible rfl)
            try simp only [Act.put, List.setIfInBounds_toArray, List.set_cons_zero, List.set_cons_succ]
            refine' takeY (i := 11) (oi := _) (v := _) ?hiy11 (by kernel_rfl) (by kernel_rfl) (by kernel_rfl) (fun _ _ _ h => h) ?hwy11 ?hyy11 hHeld ?resty11
            case hiy11 => (simp only [List.getElem?_toArray, List.getElem?_cons_succ, List.getElem?_cons_zero]; rfl)
            case hwy11 => rfl
            case hyy11 => (intro w hSw; (try dsimp only at hSw); go_simp; try with_reducible rfl)
            try simp only [Act.put, List.setIfInBounds_toArray, List.set_cons_zero, List.set_cons_succ]
            refine' takeY (i := 12) (oi := _) (v := _) ?hiy12 (by kernel_rfl) (by kernel_rfl) (by kernel_rfl) (fun _ _ _ h => h) ?hwy12 ?hyy12 hHeld ?resty12
            case hiy12 => (simp only [List.getElem?_toArray, List.getElem?_cons_succ, List.getElem?_cons_zero]; rfl)
            case hwy12 => rfl
            case hyy12 => (intro w hSw; (try dsimp only at hSw); go_simp; try with_reducible rfl)
            try simp only [Act.put, List.setIfInBounds_toArray, List.set_cons_zero, List.set_cons_succ]
            refine' takeY (i := 13) (oi := _) (v := _) ?hiy13 (by kernel_rfl) (by kernel_rfl) (by kernel_rfl) (fun _ _ _ h => h) ?hwy13 ?hyy13 hHeld ?resty13
            case hiy13 => (simp only [List.getElem?_toArray, List.getElem?_cons_succ, List.getElem?_cons_zero]; rfl)
            case hwy13 => rfl
            case hyy13 => (intro w hSw; (try dsimp only at hSw); go_simp; try with_reducible rfl)
            try simp only [Act.put, List.setIfInBounds_toArray, List.set_cons_zero, List.set_cons_succ]
            refine' takeY (i := 14) (oi := _) (v := _) ?hiy14 (by kernel_rfl) (by kernel_rfl) (by kernel_rfl) (fun _ _ _ h => h) ?hwy14 ?hyy14 hHeld ?resty14
            case hiy14 => (simp only [List.getElem?_toArray, List.getElem?_cons_succ, List.getElem?_cons_zero]; rfl)
            case hwy14 => rfl
            case hyy14 => (intro w hSw; (try dsimp only at hSw); go_simp; try with_reducible rfl)
            try simp only [Act.put, List.setIfInBounds_toArray, List.set_cons_zero, List.set_cons_succ]
            refine' takeY (i := 15) (oi := _) (v := _) ?hiy15 (by kernel_rfl) (by kernel_rfl) (by kernel_rfl) (fun _ _ _ h => h) ?hwy15 ?hyy15 hHeld ?resty15
            case hiy15 => (simp only [List.getElem?_toArray, List.getElem?_cons_succ, List.getElem?_cons_zero]; rfl)
            case hwy15 => rfl
            case hyy15 => (intro w hSw; (try dsimp only at hSw); go_simp; try with_reducible rfl)
            try simp only [Act.put, List.setIfInBounds_toArray, List.set_cons_zero, List.set_cons_succ]
            refine' takeY (i := 16) (oi := _) (v := _) ?hiy16 (by kernel_rfl) (by kernel_rfl) (by kernel_rfl) (fun _ _ _ h => h) ?hwy16 ?hyy16 hHeld ?resty16
            case hiy16 => (simp only [List.getElem?_toArray, List.getElem?_cons_succ, List.getElem?_cons_zero]; rfl)
            case hwy16 => rfl
            case hyy16 => (intro w hSw; (try dsimp only at hSw); go_simp; try with_reducible rfl)
            try simp only [Act.put, List.setIfInBounds_toArray, List.set_cons_zero, List.set_cons_succ]
            refine' takeY (i := 17) (oi := _) (v := _) ?hiy17 (by kernel_rfl) (by kernel_rfl) (by kernel_rfl) (fun _ _ _ h => h) ?hwy17 ?hyy17 hHeld ?resty17
            case hiy17 => (simp only [List.getElem?_toArray, List.getElem?_cons_succ, List.getElem?_cons_zero]; rfl)
            case hwy17 => rfl
            case hyy17 => (intro w hSw; (try dsimp only at hSw); go_simp; try with_reducible rfl)
            try simp only [Act.put, List.setIfInBounds_toArray, List.set_cons_zero, List.set_cons_succ]
            refine' takeY (i := 18) (oi := _) (v := _) ?hiy18 (by kernel_rfl) (by kernel_rfl) (by kernel_rfl) (fun _ _ _ h => h) ?hwy18 ?hyy18 hHeld ?resty18
            case hiy18 => (simp only [List.getElem?_toArray, List.getElem?_cons_succ, List.getElem?_cons_zero]; rfl)
            case hwy18 => rfl
            case hyy18 => (intro w hSw; (try dsimp only at hSw); go_simp; try with_reducible rfl)
            try simp only [Act.put, List.setIfInBounds_toArray, List.set_cons_zero, List.set_cons_succ]
            refine' takeY (i := 19) (oi := _) (v := _) ?hiy19 (by kernel_rfl) (by kernel_rfl) (by kernel_rfl) (fun _ _ _ h => h) ?hwy19 ?hyy19 hHeld ?resty19
            case hiy19 => (simp only [List.getElem?_toArray, List.getElem?_cons_succ, List.getElem?_cons_zero]; rfl)
            case hwy19 => rfl
            case hyy19 => (intro w hSw; (try dsimp only at hSw); go_simp; try with_reducible rfl)
            try simp only [Act.put, List.setIfInBounds_toArray, List.set_cons_zero, List.set_cons_succ]
            refine' takeY (i := 20) (oi := _) (v := _) ?hiy20 (by kernel_rfl) (by kernel_rfl) (by kernel_rfl) (fun _ _ _ h => h) ?hwy20 ?hyy20 hHeld ?resty20
            case hiy20 => (simp only [List.getElem?_toArray, List.getElem?_cons_succ, List.getElem?_cons_zero]; rfl)
            case hwy20 => rfl
            case hyy20 => (intro w hSw; (try dsimp only at hSw); go_simp; try with_reducible rfl)
            try simp only [Act.put, List.setIfInBounds_toArray, List.set_cons_zero, List.set_cons_succ]
            refine' takeY (i := 21) (oi := _) (v := _) ?hiy21 (by kernel_rfl) (by kernel_rfl) (by kernel_rfl) (fun _ _ _ h => h) ?hwy21 ?hyy21 hHeld ?resty21
            case hiy21 => (simp only [List.getElem?_toArray, List.getElem?_cons_succ, List.getElem?_cons_zero]; rfl)
            case hwy21 => rfl
            case hyy21 => (intro w hSw; (try dsimp only at hSw); go_simp; try with_reducible rfl)
            try simp only [Act.put, List.setIfInBounds_toArray, List.set_cons_zero, List.set_cons_succ]
            refine' takeY (i := 22) (oi := _) (v := _) ?hiy22 (by kernel_rfl) (by kernel_rfl) (by kernel_rfl) (fun _ _ _ h => h) ?hwy22 ?hyy22 hHeld ?resty22
            case hiy22 => (simp only [List.getElem?_toArray, List.getElem?_cons_succ, List.getElem?_cons_zero]; rfl)
            case hwy22 => rfl
            case hyy22 => (intro w hSw; (try dsimp only at hSw); go_simp; try with_reducible rfl)
            try simp only [Act.put, List.setIfInBounds_toArray, List.set_cons_zero, List.set_cons_succ]
            refine' takeY (i := 23) (oi := _) (v := _) ?hiy23 (by kernel_rfl) (by kernel_rfl) (by kernel_rfl) (fun _ _ _ h => h) ?hwy23 ?hyy23 hHeld ?resty23
            case hiy23 => (simp only [List.getElem?_toArray, List.getElem?_cons_succ, List.getElem?_cons_zero]; rfl)
            case hwy23 => rfl
            case hyy23 => (intro w hSw; (try dsimp only at hSw); go_simp; try with_reducible rfl)
            try simp only [Act.put, List.setIfInBounds_toArray, List.set_cons_zero, List.set_cons_succ]
            refine' takeY (i := 24) (oi := _) (v := _) ?hiy24 (by kernel_rfl) (by kernel_rfl) (by kernel_rfl) (fun _ _ _ h => h) ?hwy24 ?hyy24 hHeld ?resty24
            case hiy24 => (simp only [List.getElem?_toArray, List.getElem?_cons_succ, List.getElem?_cons_zero]; rfl)
            case hwy24 => rfl
            case hyy24 => (intro w hSw; (try dsimp only at hSw); go_simp; try with_reducible rfl)
            try simp only [Act.put, List.setIfInBounds_toArray, List.set_cons_zero, List.set_cons_succ]
            refine' takeY (i := 25) (oi := _) (v := _) ?hiy25 (by kernel_rfl) (by kernel_rfl) (by kernel_rfl) (fun _ _ _ h => h) ?hwy25 ?hyy25 hHeld ?resty25
            case hiy25 => (simp only [List.getElem?_toArray, List.getElem?_cons_succ, List.getElem?_cons_zero]; rfl)
            case hwy25 => rfl
            case hyy25 => (intro w hSw; (try dsimp only at hSw); go_simp; try with_reducible rfl)
            try simp only [Act.put, List.setIfInBounds_toArray, List.set_cons_zero, List.set_cons_succ]
            refine' takeY (i := 26) (oi := _) (v := _) ?hiy26 (by kernel_rfl) (by kernel_rfl) (by kernel_rfl) (fun _ _ _ h => h) ?hwy26 ?hyy26 hHeld ?resty26
            case hiy26 => (simp only [List.getElem?_toArray, List.getElem?_cons_succ, List.getElem?_cons_zero]; rfl)
            case hwy26 => rfl
            case hyy26 => (intro w hSw; (try dsimp only at hSw); go_simp; try with_reducible rfl)
            try simp only [Act.put, List.setIfInBounds_toArray, List.set_cons_zero, List.set_cons_succ]
            refine' takeY (i := 27) (oi := _) (v := _) ?hiy27 (by kernel_rfl) (by kernel_rfl) (by kernel_rfl) (fun _ _ _ h => h) ?hwy27 ?hyy27 hHeld ?resty27
            case hiy27 => (simp only [List.getElem?_toArray, List.getElem?_cons_succ, List.getElem?_cons_zero]; rfl)
            case hwy27 => rfl
            case hyy27 => (intro w hSw; (try dsimp only at hSw); go_simp; try with_reducible rfl)
            try simp only [Act.put, List.setIfInBounds_toArray, List.set_cons_zero, List.set_cons_succ]
            refine' takeY (i := 28) (oi := _) (v := _) ?hiy28 (by kernel_rfl) (by kernel_rfl) (by kernel_rfl) (fun _ _ _ h => h) ?hwy28 ?hyy28 hHeld ?resty28
            case hiy28 => (simp only [List.getElem?_toArray, List.getElem?_cons_succ, List.getElem?_cons_zero]; rfl)
            case hwy28 => rfl
            case hyy28 => (intro w hSw; (try dsimp only at hSw); go_simp; try with_reducible rfl)
            try simp only [Act.put, List.setIfInBounds_toArray, List.set_cons_zero, List.set_cons_succ]
            refine' takeY (i := 29) (oi := _) (v := _) ?hiy29 (by kernel_rfl) (by kernel_rfl) (by kernel_rfl) (fun _ _ _ h => h) ?hwy29 ?hyy29 hHeld ?resty29
            case hiy29 => (simp only [List.getElem?_toArray, List.getElem?_cons_succ, List.getElem?_cons_zero]; rfl)
            case hwy29 => rfl
            case hyy29 => (intro w hSw; (try dsimp only at hSw); go_simp; try with_reducible rfl)
            try simp only [Act.put, List.setIfInBounds_toArray, List.set_cons_zero, List.set_cons_succ]
            refine' takeY (i := 30) (oi := _) (v := _) ?hiy30 (by kernel_rfl) (by kernel_rfl) (by kernel_rfl) (fun _ _ _ h => h) ?hwy30 ?hyy30 hHeld ?resty30
            case hiy30 => (simp only [List.getElem?_toArray, List.getElem?_cons_succ, List.getElem?_cons_zero]; rfl)
            case hwy30 => rfl
            case hyy30 => (intro w hSw; (try dsimp only at hSw); go_simp; try with_reducible rfl)
            try simp only [Act.put, List.setIfInBounds_toArray, List.set_cons_zero, List.set_cons_succ]
            refine' takeY (i := 31) (oi := _) (v := _) ?hiy31 (by kernel_rfl) (by kernel_rfl) (by kernel_rfl) (fun _ _ _ h => h) ?hwy31 ?hyy31 hHeld ?resty31
            case hiy31 => (simp only [List.getElem?_toArray, List.getElem?_cons_succ, List.getElem?_cons_zero]; rfl)
            case hwy31 => rfl
            case hyy31 => (intro w hSw; (try dsimp only at hSw); go_simp; try with_reducible rfl)
            try simp only [Act.put, List.setIfInBounds_toArray, List.set_cons_zero, List.set_cons_succ]
            refine' takeY (i := 32) (oi := _) (v := _) ?hiy32 (by kernel_rfl) (by kernel_rfl) (by kernel_rfl) (fun _ _ _ h => h) ?hwy32 ?hyy32 hHeld ?resty32
            case hiy32 => (simp only [List.getElem?_toArray, List.getElem?_cons_succ, List.getElem?_cons_zero]; rfl)
            case hwy32 => rfl
            case hyy32 => (intro w hSw; (try dsimp only at hSw); go_simp; try with_reducible rfl)
            try simp only [Act.put, List.setIfInBounds_toArray, List.set_cons_zero, List.set_cons_succ]
            refine' takeY (i := 33) (oi := _) (v := _) ?hiy33 (by kernel_rfl) (by kernel_rfl) (by kernel_rfl) (fun _ _ _ h => h) ?hwy33 ?hyy33 hHeld ?resty33
            case hiy33 => (simp only [List.getElem?_toArray, List.getElem?_cons_succ, List.getElem?_cons_zero]; rfl)
            case hwy33 => rfl
            case hyy33 => (intro w hSw; (try dsimp only at hSw); go_simp; try with_reducible rfl)
            try simp only [Act.put, List.setIfInBounds_toArray, List.set_cons_zero, List.set_cons_succ]
            refine' takeY (i := 34) (oi := _) (v := _) ?hiy34 (by kernel_rfl) (by kernel_rfl) (by kernel_rfl) (fun _ _ _ h => h) ?hwy34 ?hyy34 hHeld ?resty34
            case hiy34 => (simp only [List.getElem?_toArray, List.getElem?_cons_succ, List.getElem?_cons_zero]; rfl)
            case hwy34 => rfl
            case hyy34 => (intro w hSw; (try dsimp only at hSw); go_simp; try with_reducible rfl)
            try simp only [Act.put, List.setIfInBounds_toArray, List.set_cons_zero, List.set_cons_succ]
            refine' takeY (i := 35) (oi := _) (v := _) ?hiy35 (by kernel_rfl) (by kernel_rfl) (by kernel_rfl) (fun _ _ _ h => h) ?hwy35 ?hyy35 hHeld ?resty35
            case hiy35 => (simp only [List.getElem?_toArray, List.getElem?_cons_succ, List.getElem?_cons_zero]; rfl)
            case hwy35 => rfl
            case hyy35 => (intro w hSw; (try dsimp only at hSw); go_simp; try with_reducible rfl)
            try simp only [Act.put, List.setIfInBounds_toArray, List.set_cons_zero, List.set_cons_succ]
            refine' takeY (i := 36) (oi := _) (v := _) ?hiy36 (by kernel_rfl) (by kernel_rfl) (by kernel_rfl) (fun _ _ _ h => h) ?hwy36 ?hyy36 hHeld ?resty36
            case hiy36 => (simp only [List.getElem?_toArray, List.getElem?_cons_succ, List.getElem?_cons_zero]; rfl)
            case hwy36 => rfl
            case hyy36 => (intro w hSw; (try dsimp only at hSw); go_simp; try with_reducible rfl)
            try simp only [Act.put, List.setIfInBounds_toArray, List.set_cons_zero, List.set_cons_succ]
            refine' takeY (i := 37) (oi := _) (v := _) ?hiy37 (by kernel_rfl) (by kernel_rfl) (by kernel_rfl) (fun _ _ _ h => h) ?hwy37 ?hyy37 hHeld ?resty37
            case hiy37 => (simp only [List.getElem?_toArray, List.getElem?_cons_succ, List.getElem?_cons_zero]; rfl)
            case hwy37 => rfl
            case hyy37 => (intro w hSw; (try dsimp only at hSw); go_simp; try with_reducible rfl)
            try simp only [Act.put, List.setIfInBounds_toArray, List.set_cons_zero, List.set_cons_succ]
            refine' takeY (i := 38) (oi := _) (v := _) ?hiy38 (by kernel_rfl) (by kernel_rfl) (by kernel_rfl) (fun _ _ _ h => h) ?hwy38 ?hyy38 hHeld ?resty38
            case hiy38 => (simp only [List.getElem?_toArray, List.getElem?_cons_succ, List.getElem?_cons_zero]; rfl)
            case hwy38 => rfl
            case hyy38 => (intro w hSw; (try dsimp only at hSw); go_simp; try with_reducible rfl)
            try simp only [Act.put, List.setIfInBounds_toArray, List.set_cons_zero, List.set_cons_succ]
            refine' takeY (i := 39) (oi := _) (v := _) ?hiy39 (by kernel_rfl) (by kernel_rfl) (by kernel_rfl) (fun _ _ _ h => h) ?hwy39 ?hyy39 hHeld ?resty39
            case hiy39 => (simp only [List.getElem?_toArray, List.getElem?_cons_succ, List.getElem?_cons_zero]; rfl)
            case hwy39 => rfl
            case hyy39 => (intro w hSw; (try dsimp only at hSw); go_simp; try with_reducible rfl)
            try simp only [Act.put, List.setIfInBounds_toArray, List.set_cons_zero, List.set_cons_succ]
            refine' takeY (i := 40) (oi := _) (v := _) ?hiy40 (by kernel_rfl) (by kernel_rfl) (by kernel_rfl) (fun _ _ _ h => h) ?hwy40 ?hyy40 hHeld ?resty40
            case hiy40 => (simp only [List.getElem?_toArray, List.getElem?_cons_succ, List.getElem?_cons_zero]; rfl)
            case hwy40 => rfl
            case hyy40 => (intro w hSw; (try dsimp only at hSw); go_simp; try with_reducible rfl)
            try simp only [Act.put, List.setIfInBounds_toArray, List.set_cons_zero, List.set_cons_succ]
            refine' takeY (i := 41) (oi := _) (v := _) ?hiy41 (by kernel_rfl) (by kernel_rfl) (by kernel_rfl) (fun _ _ _ h => h) ?hwy41 ?hyy41 hHeld ?resty41
            case hiy41 => (simp only [List.getElem?_toArray, List.getElem?_cons_succ, List.getElem?_cons_zero]; rfl)
            case hwy41 => rfl
            case hyy41 => (intro w hSw; (try dsimp only at hSw); go_simp; try with_reducible rfl)
            try simp only [Act.put, List.setIfInBounds_toArray, List.set_cons_zero, List.set_cons_succ]
            refine' takeY (i := 43) (oi := _) (v := _) ?hiy42 (by kernel_rfl) (by kernel_rfl) (by kernel_rfl) (fun _ _ _ h => h) ?hwy42 ?hyy42 hHeld ?resty42
            case hiy42 => (simp only [List.getElem?_toArray, List.getElem?_cons_succ, List.getElem?_cons_zero]; rfl)
            case hwy42 => rfl
            case hyy42 => (intro w hSw; (try dsimp only at hSw); go_simp; try with_reducible rfl)
            try simp only [Act.put, List.setIfInBounds_toArray, List.set_cons_zero, List.set_cons_succ]
            refine' takeY (i := 44) (oi := _) (v := _) ?hiy43 (by kernel_rfl) (by kernel_rfl) (by kernel_rfl) (fun _ _ _ h => h) ?hwy43 ?hyy43 hHeld ?resty43
            case hiy43 => (simp only [List.getElem?_toArray, List.getElem?_cons_succ, List.getElem?_cons_zero]; rfl)
            case hwy43 => rfl
            case hyy43 => (intro w hSw; (try dsimp only at hSw); go_simp; try with_reducible rfl)
            try simp only [Act.put, List.setIfInBounds_toArray, List.set_cons_zero, List.set_cons_succ]
            refine' takeY (i := 45) (oi := _) (v := _) ?hiy44 (by kernel_rfl) (by kernel_rfl) (by kernel_rfl) (fun _ _ _ h => h) ?hwy44 ?hyy44 hHeld ?resty44
            case hiy44 => (simp only [List.getElem?_toArray, List.getElem?_cons_succ, List.getElem?_cons_zero]; rfl)
            case hwy44 => rfl
            case hyy44 => (intro w hSw; (try dsimp only at hSw); go_simp; try with_reducible rfl)
            try simp only [Act.put, List.setIfInBounds_toArray, List.set_cons_zero, List.set_cons_succ]
            refine' takeY (i := 46) (oi := _) (v := _) ?hiy45 (by kernel_rfl) (by kernel_rfl) (by kernel_rfl) (fun _ _ _ h => h) ?hwy45 ?hyy45 hHeld ?resty45
            case hiy45 => (simp only [List.getElem?_toArray, List.getElem?_cons_succ, List.getElem?_cons_zero]; rfl)
            case hwy45 => rfl
            case hyy45 => (intro w hSw; (try dsimp only at hSw); go_simp; try with_reducible rfl)
            try simp only [Act.put, List.setIfInBounds_toArray, List.set_cons_zero, List.set_cons_succ]
            refine' takeY (i := 47) (oi := _) (v := _) ?hiy46 (by kernel_rfl) (by kernel_rfl) (by kernel_rfl) (fun _ _ _ h => h) ?hwy46 ?hyy46 hHeld ?resty46
            case hiy46 => (simp only [List.getElem?_toArray, List.getElem?_cons_succ, List.getElem?_cons_zero]; rfl)
            case hwy46 => rfl
            case hyy46 => (intro w hSw; (try dsimp only at hSw); go_simp; try with_reducible rfl)
            try simp only [Act.put, List.setIfInBounds_toArray, List.set_cons_zero, List.set_cons_succ]
            refine wpAnyH_ready (rs := [42]) (by kernel_rfl) (by simp) ?_
            refine' AllReadyH.cons (o := _) ?hiy47 (fun K hK => ?stepy47) AllReadyH.nil
            case hiy47 => (simp only [List.getElem?_toArray, List.getElem?_cons_succ, List.getElem?_cons_zero]; rfl)
            go_simp
            (go_at_call 25; (with_reducible refine (mwaits OK.out g t' MM.out).mono ?_); rintro e wa ⟨rfl, hm, hh⟩; rw [HN.out]; have MM := Lib.hid hm; have BL := Lib.hid (BL.out.trans hh); clear hm hh)
            go_wp2_with fail
            clear hHeld
            refine hK.out _ _ (KEPT.out _ BL.out) (fun hHeld => ?_)
            clear hK K
            try simp only [Act.put, List.setIfInBounds_toArray, List.set_cons_zero, List.set_cons_succ]
            refine' takeY (i := 48) (oi := _) (v := _) ?hiy48 (by kernel_rfl) (by kernel_rfl) (by kernel_rfl) (fun _ _ _ h => h) ?hwy48 ?hyy48 hHeld ?resty48
            case hiy48 => (simp only [List.getElem?_toArray, List.getElem?_cons_succ, List.getElem?_cons_zero]; rfl)
            case hwy48 => rfl
            case hyy48 => (intro w hSw; (try dsimp only at hSw); go_simp; try with_reducible rfl)
            try simp only [Act.put, List.setIfInBounds_toArray, List.set_cons_zero, List.set_cons_succ]
            refine' takeY (i := 49) (oi := _) (v := _) ?hiy49 (by kernel_rfl) (by kernel_rfl) (by kernel_rfl) (fun _ _ _ h => h) ?hwy49 ?hyy49 hHeld ?resty49
            case hiy49 => (simp only [List.getElem?_toArray, List.getElem?_cons_succ, List.getElem?_cons_zero]; rfl)
            case hwy49 => rfl
            case hyy49 => (intro w hSw; (try dsimp only at hSw); go_simp; try with_reducible rfl)
            try simp only [Act.put, List.setIfInBounds_toArray, List.set_cons_zero, List.set_cons_succ]
            refine' takeY (i := 50) (oi := _) (v := _) ?hiy50 (by kernel_rfl) (by kernel_rfl) (by kernel_rfl) (fun _ _ _ h => h) ?hwy50 ?hyy50 hHeld ?resty50
            case hiy50 => (simp only [List.getElem?_toArray, List.getElem?_cons_succ, List.getElem?_cons_zero]; rfl)
            case hwy50 => rfl
            case hyy50 => (intro w hSw; (try dsimp only at hSw); go_simp; try with_reducible rfl)
            try simp only [Act.put, List.setIfInBounds_toArray, List.set_cons_zero, List.set_cons_succ]
            refine' takeY (i := 51) (oi := _) (v := _) ?hiy51 (by kernel_rfl) (by kernel_rfl) (by kernel_rfl) (fun _ _ _ h => h) ?hwy51 ?hyy51 hHeld ?resty51
            case hiy51 => (simp only [List.getElem?_toArray, List.getElem?_cons_succ, List.getElem?_cons_zero]; rfl)
            case hwy51 => rfl
            case hyy51 => (intro w hSw; (try dsimp only at hSw); go_simp; try with_reducible rfl)
            try simp only [Act.put, List.setIfInBounds_toArray, List.set_cons_zero, List.set_cons_succ]
            refine' takeY (i := 53) (oi := _) (v := _) ?hiy52 (by kernel_rfl) (by kernel_rfl) (by kernel_rfl) (fun _ _ _ h => h) ?hwy52 ?hyy52 hHeld ?resty52
            case hiy52 => (simp only [List.getElem?_toArray, List.getElem?_cons_succ, List.getElem?_cons_zero]; rfl)
            case hwy52 => rfl
            case hyy52 => (intro w hSw; (try dsimp only at hSw); go_simp; try with_reducible rfl)
            try simp only [Act.put, List.setIfInBounds_toArray, List.set_cons_zero, List.set_cons_succ]
            refine' takeY (i := 54) (oi := _) (v := _) ?hiy53 (by kernel_rfl) (by kernel_rfl) (by kernel_rfl) (fun _ _ _ h => h) ?hwy53 ?hyy53 hHeld ?resty53
            case hiy53 => (simp only [List.getElem?_toArray, List.getElem?_cons_succ, List.getElem?_cons_zero]; rfl)
            case hwy53 => rfl
            case hyy53 => (intro w hSw; (try dsimp only at hSw); go_simp; try with_reducible rfl)
            try simp only [Act.put, List.setIfInBounds_toArray, List.set_cons_zero, List.set_cons_succ]
            refine' takeY (i := 55) (oi := _) (v := _) ?hiy54 (by kernel_rfl) (by kernel_rfl) (by kernel_rfl) (fun _ _ _ h => h) ?hwy54 ?hyy54 hHeld ?resty54
            case hiy54 => (simp only [List.getElem?_toArray, List.getElem?_cons_succ, List.getElem?_cons_zero]; rfl)
            case hwy54 => rfl
            case hyy54 => (intro w hSw; (try dsimp only at hSw); go_simp; try with_reducible rfl)
            try simp only [Act.put, List.setIfInBounds_toArray, List.set_cons_zero, List.set_cons_succ]
            refine' takeY (i := 56) (oi := _) (v := _) ?hiy55 (by kernel_rfl) (by kernel_rfl) (by kernel_rfl) (fun _ _ _ h => h) ?hwy55 ?hyy55 hHeld ?resty55
            case hiy55 => (simp only [List.getElem?_toArray, List.getElem?_cons_succ, List.getElem?_cons_zero]; rfl)
            case hwy55 => rfl
            case hyy55 => (intro w hSw; (try dsimp only at hSw); go_simp; try with_reducible rfl)
            try simp only [Act.put, List.setIfInBounds_toArray, List.set_cons_zero, List.set_cons_succ]
            refine wpAnyH_ready (rs := [52]) (by kernel_rfl) (by simp) ?_
            refine' AllReadyH.cons (o := _) ?hiy56 (fun K hK => ?stepy56) AllReadyH.nil
            case hiy56 => (simp only [List.getElem?_toArray, List.getElem?_cons_succ, List.getElem?_cons_zero]; rfl)
            go_simp
            (go_at_call 26; (with_reducible refine (mdone OK.out g t' MM.out).mono ?_); rintro e wb ⟨rfl, hm, hh⟩; rw [DN.out]; have MM := Lib.hid hm; have BL := Lib.hid (BL.out.trans hh); clear hm hh)
            go_wp2_with fail
            clear hHeld
            refine hK.out _ _ (KEPT.out _ BL.out) (fun hHeld => ?_)
            clear hK K
            try simp only [Act.put, List.setIfInBounds_toArray, List.set_cons_zero, List.set_cons_succ]
            refine' takeY (i := 57) (oi := _) (v := _) ?hiy57 (by kernel_rfl) (by kernel_rfl) (by kernel_rfl) (fun _ _ _ h => h) ?hwy57 ?hyy57 hHeld ?resty57
            case hiy57 => (simp only [List.getElem?_toArray, List.getElem?_cons_succ, List.getElem?_cons_zero]; rfl)
            case hwy57 => rfl
            case hyy57 => (intro w hSw; (try dsimp only at hSw); go_simp; try with_reducible rfl)
            try simp only [Act.put, List.setIfInBounds_toArray, List.set_cons_zero, List.set_cons_succ]
            refine' takeY (i := 58) (oi := _) (v := _) ?hiy58 (by kernel_rfl) (by kernel_rfl) (by kernel_rfl) (fun _ _ _ h => h) ?hwy58 ?hyy58 hHeld ?resty58
            case hiy58 => (simp only [List.getElem?_toArray, List.getElem?_cons_succ, List.getElem?_cons_zero]; rfl)
            case hwy58 => rfl
            case hyy58 => (intro w hSw; (try dsimp only at hSw); go_simp; try with_reducible rfl)
            try simp only [Act.put, List.setIfInBounds_toArray, List.set_cons_zero, List.set_cons_succ]
            refine wpAnyH_done (by kernel_rfl) ?_ _
            refine NoPanic.normal ?_
            go_upto_region 37 with fail
            have MB := Lib.hid (show Both10 Hp w (fun k => k = bw) g r t' t' _ from ⟨G, MM.out.less OK.out (fun k q => q.imp id (fun z => .inl (.inl (.inl z)))), RR.out.holds (BL.out.less (fun k q => .inl q)), fun k q z => AP.out k q (.inl (.inl (.inl z)))⟩)
            have KB := Lib.hid (BL.out.blk K.out (.inr (.inl (.inl (.inl rfl)))))
            have r6 := (KEPT.out _ BL.out).2.2.2.2.2.2.2.2.2.2.2.2.2.2.2.1
            have l1 := (KEPT.out _ BL.out).2.2.2.2.2.2.2.2.2.2.2.2.2.2.2.2.2.2.1
            cases early with
            | true =>
              have WQ := WH.out
              simp only [if_true] at WQ
              subst WQ
              go_wp2
              go_roundw
              case rel => exact ⟨i + 1, at2, t', by go_num, rfl, by omega, by omega, AB.out.1, by have := AB.out.2; omega, T.out, MB.out, KB.out⟩
              case measure => simp [intOf]; omega
            | false =>
              have WQ := WH.out
              simp at WQ
              subst WQ
              go_wp2
              go_roundw
              case rel => exact ⟨i + 1, at2, t', by go_num, rfl, by omega, by omega, AB.out.1, by have := AB.out.2; omega, T.out, MB.out, KB.out⟩
              case measure => simp [intOf]; omega
        by_cases k4 : kd = 4
        · as_aux_lemma =>
          have e4 : (kd == 4) = true := by simp [k4]
          clear k4
          go_wp2_with fail
          refine (p10run OK.out g r t t M.out (by have := T.out.done; omega)).mono ?_
          rintro e w4 ⟨rfl, hm, hh⟩
          obtain ⟨s, hs⟩ : ∃ s, headS t = s := ⟨_, rfl⟩
          obtain ⟨y, hy⟩ : ∃ y, someB t = y := ⟨_, rfl⟩
          have SS := Lib.hid hs; have YY := Lib.hid hy
          rw [hs, hy, show s.v = .agg #[.int .i64 s.I, .int .i64 s.R, .int .i64 s.D, .int .i64 s.B, .int .i64 s.G] from rfl]
          clear hs hy
          have K4 := Lib.hid (hh.blk K.out (.inl rfl))
          have O4 := Lib.hid (hh.blk O.out (.inr rfl))
          have MM := Lib.hid (hm.own1 OK.out (Obj.cells #[.int .i64 s.I, .int .i64 s.R, .int .i64 s.D, .int .i64 s.B, .int .i64 s.G] 35))
          clear hm hh o0 o1 o2 o3 o4
          go_upto_region 22 with fail
          obtain ⟨n4, hn4⟩ : ∃ n, w4.heap.size = n := ⟨_, rfl⟩
          obtain ⟨W4, hW4⟩ : ∃ W4, w4.alloc (Obj.cells #[.int .i64 s.I, .int .i64 s.R, .int .i64 s.D, .int .i64 s.B, .int .i64 s.G] 35) = W4 := ⟨_, rfl⟩
          have A4 := Lib.hid (show Blk W4 35 n4 #[.int .i64 s.I, .int .i64 s.R, .int .i64 s.D, .int .i64 s.B, .int .i64 s.G] by rw [← hW4, ← hn4]; exact Blk.new _ _ _)
          have K := Lib.hid (show Blk W4 26 bw #[.int .i64 E, .int .i64 P] by rw [← hW4]; exact K4.out.alloc _)
          rw [hW4, hn4] at MM
          rw [hW4, hn4]
          clear hW4 hn4 K4 O4
          go_wp2_with fail
          refine (q10run OK.out g r (runT t) t MM.out GT.out (by have := T.out.done; omega)).mono ?_
          rintro e w6 ⟨rfl, hm, hh⟩
          rw [SS.out, YY.out, show s.v = .agg #[.int .i64 s.I, .int .i64 s.R, .int .i64 s.D, .int .i64 s.B, .int .i64 s.G] from rfl]
          have K6 := Lib.hid (hh.blk K.out (.inl (.inl rfl)))
          have A6 := Lib.hid (hh.blk A4.out (.inr rfl))
          have M6 := Lib.hid (hm.next OK.out (wbox w6 (Obj.cells #[.int .i64 s.I, .int .i64 s.R, .int .i64 s.D, .int .i64 s.B, .int .i64 s.G] 35)))
          clear hm hh
          go_upto_region 23 with fail
          obtain ⟨n6, hn6⟩ : ∃ n, w6.heap.size = n := ⟨_, rfl⟩
          obtain ⟨W6, hW6⟩ : ∃ W6, w6.alloc (Obj.cells #[.int .i64 s.I, .int .i64 s.R, .int .i64 s.D, .int .i64 s.B, .int .i64 s.G] 35) = W6 := ⟨_, rfl⟩
          have A6 := Lib.hid (show Blk W6 35 n4 #[.int .i64 s.I, .int .i64 s.R, .int .i64 s.D, .int .i64 s.B, .int .i64 s.G] by rw [← hW6]; exact A6.out.alloc _)
          have C6 := Lib.hid (show Blk W6 35 n6 #[.int .i64 s.I, .int .i64 s.R, .int .i64 s.D, .int .i64 s.B, .int .i64 s.G] by rw [← hW6, ← hn6]; exact Blk.new _ _ _)
          have K := Lib.hid (show Blk W6 26 bw #[.int .i64 E, .int .i64 P] by rw [← hW6]; exact K6.out.alloc _)
          rw [hW6] at M6
          rw [hW6, hn6]
          clear hW6 hn6 K6
          have y0 := A6.out.cell 0; have y1 := A6.out.cell 1; have y2 := A6.out.cell 2; have y3 := A6.out.cell 3; have y4 := A6.out.cell 4
          have z0 := C6.out.cell 0; have z1 := C6.out.cell 1; have z2 := C6.out.cell 2; have z3 := C6.out.cell 3; have z4 := C6.out.cell 4
          simp at y0 y1 y2 y3 y4 z0 z1 z2 z3 z4
          have TT := Lib.hid (show TP E P early (i + 1) (runT t) from tp_run T.out)
          go_wp2_with fail
          go_meet
          exact ⟨rfl, runT t, TT.out, M6.out.less OK.out (fun k q => .inl (.inl q)), K.out⟩
        by_cases k5 : kd = 5
        · as_aux_lemma =>
          have e4 : (kd == 4) = false := by simp [k4]
          have e5 : (kd == 5) = true := by simp [k5]
          clear k4 k5
          go_wp2_with fail
          refine (p10run OK.out g r t t M.out (by have := T.out.done; omega)).mono ?_
          rintro e w4 ⟨rfl, hm, hh⟩
          obtain ⟨s, hs⟩ : ∃ s, headS t = s := ⟨_, rfl⟩
          obtain ⟨y, hy⟩ : ∃ y, someB t = y := ⟨_, rfl⟩
          have SS := Lib.hid hs; have YY := Lib.hid hy
          rw [hs, hy, show s.v = .agg #[.int .i64 s.I, .int .i64 s.R, .int .i64 s.D, .int .i64 s.B, .int .i64 s.G] from rfl]
          clear hs hy
          have K4 := Lib.hid (hh.blk K.out (.inl rfl))
          have O4 := Lib.hid (hh.blk O.out (.inr rfl))
          have MM := Lib.hid (hm.own1 OK.out (Obj.cells #[.int .i64 s.I, .int .i64 s.R, .int .i64 s.D, .int .i64 s.B, .int .i64 s.G] 35))
          clear hm hh o0 o1 o2 o3 o4
          go_upto_region 22 with fail
          obtain ⟨n4, hn4⟩ : ∃ n, w4.heap.size = n := ⟨_, rfl⟩
          obtain ⟨W4, hW4⟩ : ∃ W4, w4.alloc (Obj.cells #[.int .i64 s.I, .int .i64 s.R, .int .i64 s.D, .int .i64 s.B, .int .i64 s.G] 35) = W4 := ⟨_, rfl⟩
          have A4 := Lib.hid (show Blk W4 35 n4 #[.int .i64 s.I, .int .i64 s.R, .int .i64 s.D, .int .i64 s.B, .int .i64 s.G] by rw [← hW4, ← hn4]; exact Blk.new _ _ _)
          have K := Lib.hid (show Blk W4 26 bw #[.int .i64 E, .int .i64 P] by rw [← hW4]; exact K4.out.alloc _)
          rw [hW4, hn4] at MM
          rw [hW4, hn4]
          clear hW4 hn4 K4 O4
          go_wp2_with fail
          refine (q10run OK.out g r (runT t) t MM.out GT.out (by have := T.out.done; omega)).mono ?_
          rintro e w6 ⟨rfl, hm, hh⟩
          rw [SS.out, YY.out, show s.v = .agg #[.int .i64 s.I, .int .i64 s.R, .int .i64 s.D, .int .i64 s.B, .int .i64 s.G] from rfl]
          have K6 := Lib.hid (hh.blk K.out (.inl (.inl rfl)))
          have A6 := Lib.hid (hh.blk A4.out (.inr rfl))
          have M6 := Lib.hid (hm.next OK.out (wbox w6 (Obj.cells #[.int .i64 s.I, .int .i64 s.R, .int .i64 s.D, .int .i64 s.B, .int .i64 s.G] 35)))
          clear hm hh
          go_upto_region 23 with fail
          obtain ⟨n6, hn6⟩ : ∃ n, w6.heap.size = n := ⟨_, rfl⟩
          obtain ⟨W6, hW6⟩ : ∃ W6, w6.alloc (Obj.cells #[.int .i64 s.I, .int .i64 s.R, .int .i64 s.D, .int .i64 s.B, .int .i64 s.G] 35) = W6 := ⟨_, rfl⟩
          have A6 := Lib.hid (show Blk W6 35 n4 #[.int .i64 s.I, .int .i64 s.R, .int .i64 s.D, .int .i64 s.B, .int .i64 s.G] by rw [← hW6]; exact A6.out.alloc _)
          have C6 := Lib.hid (show Blk W6 35 n6 #[.int .i64 s.I, .int .i64 s.R, .int .i64 s.D, .int .i64 s.B, .int .i64 s.G] by rw [← hW6, ← hn6]; exact Blk.new _ _ _)
          have K := Lib.hid (show Blk W6 26 bw #[.int .i64 E, .int .i64 P] by rw [← hW6]; exact K6.out.alloc _)
          rw [hW6] at M6
          rw [hW6, hn6]
          clear hW6 hn6 K6
          have y0 := A6.out.cell 0; have y1 := A6.out.cell 1; have y2 := A6.out.cell 2; have y3 := A6.out.cell 3; have y4 := A6.out.cell 4
          have z0 := C6.out.cell 0; have z1 := C6.out.cell 1; have z2 := C6.out.cell 2; have z3 := C6.out.cell 3; have z4 := C6.out.cell 4
          simp at y0 y1 y2 y3 y4 z0 z1 z2 z3 z4
          have TT := Lib.hid (show TP E P early (i + 1) (runT t) from tp_run T.out)
          go_wp2_with fail
          go_meet
          exact ⟨rfl, runT t, TT.out, M6.out.less OK.out (fun k q => .inl (.inl q)), K.out⟩
        by_cases k6 : kd = 6
        · as_aux_lemma =>
          have e4 : (kd == 4) = false := by simp [k4]
          have e5 : (kd == 5) = false := by simp [k5]
          have e6 : (kd == 6) = true := by simp [k6]
          clear k4 k5 k6
          go_wp2_with fail
          refine (p10ready OK.out g r t t now M.out).mono ?_
          rintro e w4 ⟨rfl, hm, hh⟩
          obtain ⟨s, hs⟩ : ∃ s, readyS t now = s := ⟨_, rfl⟩
          obtain ⟨y, hy⟩ : ∃ y, readyB t now = y := ⟨_, rfl⟩
          have SS := Lib.hid hs; have YY := Lib.hid hy
          rw [hs, hy, show s.v = .agg #[.int .i64 s.I, .int .i64 s.R, .int .i64 s.D, .int .i64 s.B, .int .i64 s.G] from rfl]
          clear hs hy
          have K4 := Lib.hid (hh.blk K.out (.inl rfl))
          have O4 := Lib.hid (hh.blk O.out (.inr rfl))
          have MM := Lib.hid (hm.own1 OK.out (Obj.cells #[.int .i64 s.I, .int .i64 s.R, .int .i64 s.D, .int .i64 s.B, .int .i64 s.G] 35))
          clear hm hh o0 o1 o2 o3 o4
          go_upto_region 26 with fail
          obtain ⟨n4, hn4⟩ : ∃ n, w4.heap.size = n := ⟨_, rfl⟩
          obtain ⟨W4, hW4⟩ : ∃ W4, w4.alloc (Obj.cells #[.int .i64 s.I, .int .i64 s.R, .int .i64 s.D, .int .i64 s.B, .int .i64 s.G] 35) = W4 := ⟨_, rfl⟩
          have A4 := Lib.hid (show Blk W4 35 n4 #[.int .i64 s.I, .int .i64 s.R, .int .i64 s.D, .int .i64 s.B, .int .i64 s.G] by rw [← hW4, ← hn4]; exact Blk.new _ _ _)
          have K := Lib.hid (show Blk W4 26 bw #[.int .i64 E, .int .i64 P] by rw [← hW4]; exact K4.out.alloc _)
          rw [hW4, hn4] at MM
          rw [hW4, hn4]
          clear hW4 hn4 K4 O4
          go_wp2_with fail
          refine (q10ready OK.out g r t t now MM.out).mono ?_
          rintro e w6 ⟨rfl, hm, hh⟩
          rw [SS.out, YY.out, show s.v = .agg #[.int .i64 s.I, .int .i64 s.R, .int .i64 s.D, .int .i64 s.B, .int .i64 s.G] from rfl]
          have K6 := Lib.hid (hh.blk K.out (.inl (.inl rfl)))
          have A6 := Lib.hid (hh.blk A4.out (.inr rfl))
          have M6 := Lib.hid (hm.next OK.out (wbox w6 (Obj.cells #[.int .i64 s.I, .int .i64 s.R, .int .i64 s.D, .int .i64 s.B, .int .i64 s.G] 35)))
          clear hm hh
          go_upto_region 27 with fail
          obtain ⟨n6, hn6⟩ : ∃ n, w6.heap.size = n := ⟨_, rfl⟩
          obtain ⟨W6, hW6⟩ : ∃ W6, w6.alloc (Obj.cells #[.int .i64 s.I, .int .i64 s.R, .int .i64 s.D, .int .i64 s.B, .int .i64 s.G] 35) = W6 := ⟨_, rfl⟩
          have A6 := Lib.hid (show Blk W6 35 n4 #[.int .i64 s.I, .int .i64 s.R, .int .i64 s.D, .int .i64 s.B, .int .i64 s.G] by rw [← hW6]; exact A6.out.alloc _)
          have C6 := Lib.hid (show Blk W6 35 n6 #[.int .i64 s.I, .int .i64 s.R, .int .i64 s.D, .int .i64 s.B, .int .i64 s.G] by rw [← hW6, ← hn6]; exact Blk.new _ _ _)
          have K := Lib.hid (show Blk W6 26 bw #[.int .i64 E, .int .i64 P] by rw [← hW6]; exact K6.out.alloc _)
          rw [hW6] at M6
          rw [hW6, hn6]
          clear hW6 hn6 K6
          have y0 := A6.out.cell 0; have y1 := A6.out.cell 1; have y2 := A6.out.cell 2; have y3 := A6.out.cell 3; have y4 := A6.out.cell 4
          have z0 := C6.out.cell 0; have z1 := C6.out.cell 1; have z2 := C6.out.cell 2; have z3 := C6.out.cell 3; have z4 := C6.out.cell 4
          simp at y0 y1 y2 y3 y4 z0 z1 z2 z3 z4
          have TT := Lib.hid (show TP E P early (i + 1) (t) from tp_stay T.out)
          go_wp2_with fail
          go_meet
          exact ⟨rfl, t, TT.out, M6.out.less OK.out (fun k q => .inl (.inl q)), K.out⟩
        by_cases k7 : kd = 7
        · as_aux_lemma =>
          have e4 : (kd == 4) = false := by simp [k4]
          have e5 : (kd == 5) = false := by simp [k5]
          have e6 : (kd == 6) = false := by simp [k6]
          have e7 : (kd == 7) = true := by simp [k7]
          clear k4 k5 k6 k7
          have TT := Lib.hid (tp_cut T.out now)
          have TS_ := Lib.hid (tp_stay T.out)
          obtain ⟨cn, hcn⟩ : ∃ cn, cutN t now = cn := ⟨_, rfl⟩
          have CN := Lib.hid hcn
          clear hcn
          cases C with
          | true =>
            go_wp2_with fail
            refine (p10cut OK.out g r t t now M.out).mono ?_
            rintro e w4 ⟨rfl, hm, hh⟩
            rw [CN.out]
            have K := Lib.hid (hh.blk K.out (.inl rfl))
            have M4 := Lib.hid hm
            clear hm hh o0 o1 o2 o3 o4
            go_wp2_with fail
            refine (q10cut OK.out g r (cutT t now) t now M4.out GT.out).mono ?_
            rintro e w5 ⟨rfl, hm, hh⟩
            rw [CN.out]
            have K := Lib.hid (hh.blk K.out (.inl rfl))
            have M := Lib.hid hm
            clear hm hh
            go_wp2_with fail
            go_meet
            exact ⟨rfl, cutT t now, TT.out, M.out.less OK.out (fun k q => .inl q), K.out⟩
          | false =>
            go_wp2_with fail
            go_meet
            exact ⟨rfl, t, TS_.out, M.out.less OK.out (fun k q => .inl q), K.out⟩
        as_aux_lemma =>
          have e4 : (kd == 4) = false := by simp [k4]
          have e5 : (kd == 5) = false := by simp [k5]
          have e6 : (kd == 6) = false := by simp [k6]
          have e7 : (kd == 7) = false := by simp [k7]
          clear k4 k5 k6 k7
          have TT := Lib.hid (tp_arrive T.out now N)
          obtain ⟨ce, hce⟩ : ∃ cn, arriveE t now N = cn := ⟨_, rfl⟩
          have CE := Lib.hid hce
          clear hce
          have CM := Lib.hid (show t.came ≤ 100000 by have := T.out.came; omega)
          go_upto_region 18 with fail
          have M := Lib.hid (M.out.next OK.out ((Below.refl _ _).drew))
          have KEPT := Lib.hid (show ∀ w' : World, Blk w' 33 bo #[.int .i64 K_, .int .i64 N, .int .i64 A, .bool F, .bool C] → w'.cell? ⟨bo, 1, none⟩ = some (.int .i64 N) from fun _ h => h.cell 1)
          have BL := Lib.hid O.out.drew
          have K := Lib.hid K.out.drew
          clear o0 o1 o2 o3 o4
          go_region_held3 (fun w' => w'.cell? ⟨bo, 1, none⟩ = some (.int .i64 N))
            (exact KEPT.out _ BL.out)
            (first
              | (go_at_call 19; (with_reducible refine (p10arrive OK.out g r t t now N M.out CM.out).mono ?_); rintro e w4 ⟨rfl, hm, hh⟩; rw [CE.out]; have M4 := Lib.hid hm; have BL := Lib.hid (hh.blk BL.out (.inr rfl)); have K := Lib.hid (hh.blk K.out (.inl rfl)); clear hm hh)
              | (go_at_call 20; (with_reducible refine (q10arrive OK.out g r (arriveT t now N) t now N M4.out GT.out CM.out).mono ?_); rintro e w5 ⟨rfl, hm, hh⟩; rw [CE.out]; have M5 := Lib.hid hm; have BL := Lib.hid (hh.blk BL.out (.inr rfl)); have K := Lib.hid (hh.blk K.out (.inl rfl)); clear hm hh))
          all_goals
            go_wp2_with fail
            go_meet
            exact ⟨rfl, arriveT t now N, TT.out, M5.out.less OK.out (fun k q => .inl q), K.out⟩
      · have b3 : decide ((i : Int) < 60) = false := by simp; omega
        have b3n : decide (i < 60) = false := by simp; omega
        go_upto_region 42 with fail
        have M := Lib.hid (M.out.next OK.out ((Below.refl _ _).drew))
        have KEPT := Lib.hid (show ∀ w' : World, Blk w' 26 bw #[.int .i64 E, .int .i64 P] → w'.cell? ⟨bw, 0, none⟩ = some (.int .i64 E) ∧ w'.cell? ⟨bw, 1, none⟩ = some (.int .i64 P) from fun _ h => ⟨h.cell 0, h.cell 1⟩)
        have BL := Lib.hid K.out.drew
        go_region_held3 (fun w' => w'.cell? ⟨bw, 0, none⟩ = some (.int .i64 E) ∧ w'.cell? ⟨bw, 1, none⟩ = some (.int .i64 P))
          (exact KEPT.out _ BL.out)
          (first
            | (go_at_call 27; (with_reducible refine (p10weight OK.out g r t t M.out).mono ?_); rintro e w4 ⟨rfl, hm, hh⟩; rw [T.out.e, T.out.p]; have M := Lib.hid hm; have BL := Lib.hid (hh.blk BL.out rfl); clear hm hh))
        all_goals
          go_wp2
          go_ret
          exact ⟨rfl, M.out.below⟩
    · have b1 : decide (i < len) = false := by simp; omega
      have b2 : decide ((i : Int) < (len : Int)) = false := by simp; omega
      go_upto_region 42 with fail
      have M := Lib.hid (M.out.next OK.out ((Below.refl _ _).drew))
      have KEPT := Lib.hid (show ∀ w' : World, Blk w' 26 bw #[.int .i64 E, .int .i64 P] → w'.cell? ⟨bw, 0, none⟩ = some (.int .i64 E) ∧ w'.cell? ⟨bw, 1, none⟩ = some (.int .i64 P) from fun _ h => ⟨h.cell 0, h.cell 1⟩)
      have BL := Lib.hid K.out.drew
      go_region_held3 (fun w' => w'.cell? ⟨bw, 0, none⟩ = some (.int .i64 E) ∧ w'.cell? ⟨bw, 1, none⟩ = some (.int .i64 P))
        (exact KEPT.out _ BL.out)
        (first
          | (go_at_call 27; (with_reducible refine (p10weight OK.out g r t t M.out).mono ?_); rintro e w4 ⟨rfl, hm, hh⟩; rw [T.out.e, T.out.p]; have M := Lib.hid hm; have BL := Lib.hid (hh.blk BL.out rfl); clear hm hh))
      all_goals
        go_wp2
        go_ret
        exact ⟨rfl, M.out.below⟩
end
end Go.Proofs.Ythaoijmjkmgebaa
