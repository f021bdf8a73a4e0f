/-
  The walk of TaskTimely, for a package task that is as P10.1 to P10.3 say.
-/
import Derived.Test.YthaoijmjkmgebaaTl2
import Derived.BigRegion
namespace Go.Proofs.Ythaoijmjkmgebaa
open Go.RowKit

theorem ofV_at (E P i O : Int) (w : World) (hM : MayBe E P) (hi : Nth i) (o0 : 0 ≤ O) (o1 : O ≤ 2305843009213693952) (s : Sb) (hs : ofV E P i O = s) :
    Calls Try.prog 30 #[.agg #[.int .i64 E, .int .i64 P], .int .i64 i, .int .i64 O] w fun e w' => e = .returned (.tuple #[.agg #[.int .i64 s.I, .int .i64 s.R, .int .i64 s.D, .int .i64 s.B, .int .i64 s.G], .int .i64 0]) ∧ Below w.heap.size w w' := by
  subst hs
  exact r4of_yes E P i O w hM hi o0 o1 _ rfl
/-- so many have come, all in time, from slot f on -/
def rowF10 (E P f : Int) (j : Nat) : List Sb := (List.range j).map (fun i : Nat => ofV E P ((i : Int) + 1) f)
theorem rowF10_succ (E P f : Int) (j : Nat) : rowF10 E P f (j + 1) = rowF10 E P f j ++ [ofV E P ((j : Int) + 1) f] := by simp [rowF10, List.range_succ]
theorem rowF10_len (E P f : Int) (j : Nat) : (rowF10 E P f j).length = j := by simp [rowF10]
def timT (E P f : Int) (j : Nat) : TS := ⟨E, P, f, (j : Int), false, false, rowF10 E P f j, sub0, 0⟩
theorem tim_next {E P f : Int} {j : Nat} {now : Int} (h0 : 0 ≤ now) (h1 : now ≤ 1099511627776) (hj : j < 64) (hr : now ≤ wR E P ((j : Int) + 1) + f) : arriveE (timT E P f j) now 1 = 0 ∧ arriveT (timT E P f j) now 1 = timT E P f (j + 1) := by
  have e : arriveE (timT E P f j) now 1 = 0 := by
    unfold arriveE
    rw [if_neg (by simp [ArrOk]; omega), if_neg (by simp [timT]), if_neg (by show ¬ 64 < ((rowF10 E P f j).length : Int) + 1; rw [rowF10_len]; omega)]
  refine ⟨e, ?_⟩
  unfold arriveT
  rw [if_pos e]
  show come1 (timT E P f j) now = _
  have hl : lateO (timT E P f j) now = f := by
    unfold lateO
    rw [if_neg (by show ¬ wR E P ((j : Int) + 1) + f < now; omega)]
    rfl
  unfold come1
  rw [hl]
  show (⟨E, P, f, (j : Int) + 1, false, false, rowF10 E P f j ++ [ofV E P ((j : Int) + 1) f], sub0, 0⟩ : TS) = timT E P f (j + 1)
  unfold timT
  rw [rowF10_succ]
  congr 1
theorem tim_last (E P f : Int) (j : Nat) : lastS (timT E P f (j + 1)) = ofV E P ((j : Int) + 1) f ∧ lastB (timT E P f (j + 1)) = true := by
  refine ⟨?_, ?_⟩
  · unfold lastS timT
    rw [if_pos (by show 0 < (rowF10 E P f (j + 1)).length; rw [rowF10_len]; omega)]
    show (rowF10 E P f (j + 1)).getLastD sub0 = _
    rw [rowF10_succ]
    simp
  · unfold lastB timT
    simp [rowF10_len]
section
variable {Hp : World → Nat → (Nat → Prop) → TS → Prop}
set_option maxHeartbeats 8000000 in
theorem ttimely_walk (ok : TaskOk Hp) (qa qb at_ : Int) (a : Option Addr) (len cap : Nat) (zs : List Int) (w : World) (hR : Row .i64 w a len cap zs) : Calls Try.prog 5 #[.agg #[.int .i64 qa, .int .i64 qb], .int .i64 at_, .slice a len cap] w fun e w' => e = .returned (.bool true) ∧ Below w.heap.size w w' := by
  have OK := Lib.hid ok
  have A := Lib.hid hR
  have ⟨cl, cu⟩ := hR.cap_le
  clear ok hR
  obtain ⟨f, hf⟩ : ∃ n1, bits .and .i64 at_ 1073741823 = n1 := ⟨_, rfl⟩
  have mf := mask_le at_ 1073741823 (by omega) (by omega)
  rw [hf] at mf
  obtain ⟨f0, f1⟩ := mf
  have Q := Lib.hid (Blk.new w 22 #[Value.int .i64 qa, Value.int .i64 qb])
  go_enter Try.func5, Try.ntmps5
  go_wp2_with fail
  refine (l10awake OK.out _).mono ?_
  rintro e w1 ⟨rfl, hb⟩
  have B := Lib.hid (below_next (wbox _ _) hb)
  have q0 := (Q.out.below hb).cell 0; have q1 := (Q.out.below hb).cell 1
  simp at q0 q1
  clear hb Q
  go_wp2_with fail
  refine (wmade_any qa qb _).mono ?_
  rintro e w2 ⟨E, P, rfl, hM, hb⟩
  have SB := Lib.hid (below_next B.out hb).size
  have B := Lib.hid (below_next (below_next B.out hb) (wbox w2 (.cells #[.int .i64 E, .int .i64 P] 26)))
  have HM := Lib.hid hM
  have K := Lib.hid (Blk.new w2 26 #[Value.int .i64 E, Value.int .i64 P])
  clear hb hM q0 q1
  go_wp2_with fail
  refine (mnewG OK.out (w := w) (fun x => x = w2.heap.size) E P f false _ B.out (fun x q => by subst q; simp) (fun x q => by subst q; exact SB.out) HM.out f0 (by omega)).mono ?_
  rintro e w3 ⟨g, rfl, hm, hb⟩
  have K := Lib.hid (K.out.below hb)
  have M := Lib.hid (show Mine Hp w (fun x => x = w2.heap.size) g (timT E P f 0) w3 from hm)
  clear hm hb
  go_wp2_with fail
  go_loopw [11, 12] (fun v11 v12 wr => ∃ (i : Nat) (now : Int), v12 = .int .i64 (i : Int) ∧ i ≤ len ∧ i ≤ 60 ∧ v11 = .int .i64 now ∧ f ≤ now ∧ now ≤ wR E P ((i : Int) + 1) + f ∧ Mine Hp w (fun x => x = w2.heap.size) g (timT E P f i) wr ∧ Blk wr 26 w2.heap.size #[.int .i64 E, .int .i64 P]) (fun _ v12 _ => len - (intOf v12).toNat)
  case atStart => exact ⟨0, f, rfl, Nat.zero_le _, by omega, rfl, Int.le_refl _, by rw [show ((0 : Nat) : Int) + 1 = 1 by omega, first_release]; omega, M.out, K.out⟩
  case round =>
    obtain ⟨i, now, rfl, il, i60, rfl, nf, nr, hm, hk⟩ := hrel
    have M := Lib.hid hm
    have K := Lib.hid hk
    have k0 := hk.cell 0; have k1 := hk.cell 1
    simp at k0 k1
    have AW := Lib.hid (A.out.below hm.below)
    clear hm hk
    by_cases d1 : i < len
    · have t1 : decide ((i : Int) < (len : Int)) = true := by simp; omega
      by_cases d2 : i < 60
      · have t2 : decide ((i : Int) < 60) = true := by simp; omega
        have t2n : decide (i < 60) = true := by simp; omega
        have NI := Lib.hid (show Nth ((i : Int) + 1) from ⟨by omega, by omega⟩)
        have wi : IntKind.i64.wrap ((i : Int) + 1) = (i : Int) + 1 := IntWalk.i64_in _ (by omega)
        have rf := wR_fit HM.out NI.out.1 NI.out.2
        have rm := wR_mono (E := E) (P := P) (i := (i : Int) + 1) HM.out.1 (by have := HM.out.1; have := HM.out.2.1; omega)
        have rb : wR E P ((i : Int) + 1) ≤ 1099511627776 - 1073741824 := by
          have h1 := (wR_bd (E := E) (P := P) (i := (i : Int) + 1) HM.out.1).1
          rw [show (i : Int) + 1 - 1 = (i : Int) by omega] at h1
          have h2 : (i : Int) * P ≤ 60 * 1048576 := Int.mul_le_mul (by omega) HM.out.2.2 (by have := HM.out.1; have := HM.out.2.1; omega) (by omega)
          have h3 : wR E P ((i : Int) + 1) ≤ wR E P ((i : Int) + 1) * E := by
            have := Int.mul_le_mul_of_nonneg_left (show 1 ≤ E from HM.out.1) rf.1
            omega
          omega
        obtain ⟨s, hs⟩ : ∃ s, ofV E P ((i : Int) + 1) f = s := ⟨_, rfl⟩
        have HS := Lib.hid hs
        have sr : s.R = wR E P ((i : Int) + 1) + f := by rw [← hs]; rfl
        have SR := Lib.hid sr
        have RR := Lib.hid (show wR E P ((i : Int) + 1) + f ≤ wR E P (((i + 1 : Nat) : Int) + 1) + f by rw [show (((i + 1 : Nat) : Int)) = (i : Int) + 1 by omega]; omega)
        rw [← sr] at nr RR
        have s0 : 0 ≤ s.R := by omega
        have s1 : s.R ≤ 1099511627776 := by omega
        clear hs sr rf rm rb
        go_wp2_with fail
        refine (ofV_at E P ((i : Int) + 1) f _ HM.out NI.out f0 (by omega) s HS.out).mono ?_
        rintro e w4 ⟨rfl, hb⟩
        have M := Lib.hid ((M.out.next OK.out hb).own1 OK.out (.cells #[.int .i64 s.I, .int .i64 s.R, .int .i64 s.D, .int .i64 s.B, .int .i64 s.G] 35))
        have K := Lib.hid ((K.out.below hb).alloc (.cells #[.int .i64 s.I, .int .i64 s.R, .int .i64 s.D, .int .i64 s.B, .int .i64 s.G] 35))
        have S4 := Lib.hid (Blk.new w4 35 #[.int .i64 s.I, .int .i64 s.R, .int .i64 s.D, .int .i64 s.B, .int .i64 s.G])
        have AW := Lib.hid (AW.out.below (below_next hb (wbox w4 (.cells #[.int .i64 s.I, .int .i64 s.R, .int .i64 s.D, .int .i64 s.B, .int .i64 s.G] 35))))
        clear hb k0 k1
        go_upto_region 12 with fail
        obtain ⟨W4, hW4⟩ : ∃ W4, w4.alloc (.cells #[.int .i64 s.I, .int .i64 s.R, .int .i64 s.D, .int .i64 s.B, .int .i64 s.G] 35) = W4 := ⟨_, rfl⟩
        rw [hW4] at M K S4 AW
        rw [hW4]
        clear hW4
        have s1c := S4.out.cell 1
        simp at s1c
        obtain ⟨ba, oa, hab, hc⟩ := AW.out.cell d1
        subst hab
        obtain ⟨z, hz⟩ : ∃ z, zs.getD i 0 = z := ⟨_, rfl⟩
        rw [hz] at hc
        obtain ⟨z15, hz15⟩ : ∃ n1, bits .and .i64 z 15 = n1 := ⟨_, rfl⟩
        have mz := mask_le z 15 (by omega) (by omega)
        rw [hz15] at mz
        have i0 : 0 ≤ (i : Int) := by omega
        have i1 : (i : Int) < (len : Int) := by omega
        obtain ⟨co, hco⟩ : ∃ co, s.R - z15 = co := ⟨_, rfl⟩
        have wco : IntKind.i64.wrap (s.R - z15) = co := by rw [← hco]; exact IntWalk.i64_in _ (by omega)
        clear hz
        go_region
        all_goals
          have M := Lib.hid (M.out.next OK.out ((Below.refl W4.heap.size W4).drew))
          have K := Lib.hid K.out.drew
          have S4 := Lib.hid S4.out.drew
          obtain ⟨W5, hW5⟩ : ∃ W5, W4.drew = W5 := ⟨_, rfl⟩
          rw [hW5] at M K S4
          rw [hW5]
          clear hW5 s1c hc AW
          have s1c := S4.out.cell 1
          simp at s1c
          by_cases lt : now < co
          · have tn : decide (now < co) = true := by simp; omega
            have tl : decide (s.R < co) = false := by simp; omega
            have AE := Lib.hid (tim_next (E := E) (P := P) (f := f) (j := i) (now := co) (by omega) (by omega) (by omega) (by have := SR.out; omega))
            go_wp2_with fail
            refine (marrive OK.out g (timT E P f i) co 1 M.out (by show (i : Int) ≤ 100000; omega)).mono ?_
            rintro e w6 ⟨rfl, hm, hh⟩
            rw [AE.out.1]
            rw [AE.out.2] at hm
            have M := Lib.hid hm
            have K := Lib.hid (hh.blk K.out (.inl rfl))
            have S4 := Lib.hid (hh.blk S4.out (.inr rfl))
            clear hm hh s1c
            go_wp2_with fail
            refine (mlast OK.out g (timT E P f (i + 1)) M.out).mono ?_
            rintro e w7 ⟨rfl, hm, hh⟩
            have TL := tim_last E P f i
            rw [TL.1, TL.2, HS.out, show s.v = .agg #[.int .i64 s.I, .int .i64 s.R, .int .i64 s.D, .int .i64 s.B, .int .i64 s.G] from rfl]
            have K := Lib.hid ((hh.blk K.out (.inl rfl)).alloc (.cells #[.int .i64 s.I, .int .i64 s.R, .int .i64 s.D, .int .i64 s.B, .int .i64 s.G] 35))
            have S4 := Lib.hid ((hh.blk S4.out (.inr rfl)).alloc (.cells #[.int .i64 s.I, .int .i64 s.R, .int .i64 s.D, .int .i64 s.B, .int .i64 s.G] 35))
            have X := Lib.hid (Blk.new w7 35 #[.int .i64 s.I, .int .i64 s.R, .int .i64 s.D, .int .i64 s.B, .int .i64 s.G])
            have M := Lib.hid ((hm.next OK.out (wbox w7 (.cells #[.int .i64 s.I, .int .i64 s.R, .int .i64 s.D, .int .i64 s.B, .int .i64 s.G] 35))).less OK.out (G' := fun x => x = w2.heap.size) (fun k q => .inl q))
            clear hm hh TL
            go_upto_region 18 with fail
            obtain ⟨W8, hW8⟩ : ∃ W8, w7.alloc (.cells #[.int .i64 s.I, .int .i64 s.R, .int .i64 s.D, .int .i64 s.B, .int .i64 s.G] 35) = W8 := ⟨_, rfl⟩
            rw [hW8] at M K S4 X
            rw [hW8]
            clear hW8
            have y0 := S4.out.cell 0; have y1 := S4.out.cell 1; have y2 := S4.out.cell 2; have y3 := S4.out.cell 3; have y4 := S4.out.cell 4
            have x0 := X.out.cell 0; have x1 := X.out.cell 1; have x2 := X.out.cell 2; have x3 := X.out.cell 3; have x4 := X.out.cell 4
            simp at x0 x1 x2 x3 x4 y0 y1 y2 y3 y4
            go_wp2
            go_roundw
            case rel => exact ⟨i + 1, co, by go_num, by omega, by omega, rfl, by omega, Int.le_trans (by omega) RR.out, M.out, K.out⟩
            case measure => simp [intOf]; omega
          · have tn : decide (now < co) = false := by simp; omega
            have tl : decide (s.R < now) = false := by simp; omega
            have AE := Lib.hid (tim_next (E := E) (P := P) (f := f) (j := i) (now := now) (by omega) (by omega) (by omega) (by have := SR.out; omega))
            go_wp2_with fail
            refine (marrive OK.out g (timT E P f i) now 1 M.out (by show (i : Int) ≤ 100000; omega)).mono ?_
            rintro e w6 ⟨rfl, hm, hh⟩
            rw [AE.out.1]
            rw [AE.out.2] at hm
            have M := Lib.hid hm
            have K := Lib.hid (hh.blk K.out (.inl rfl))
            have S4 := Lib.hid (hh.blk S4.out (.inr rfl))
            clear hm hh s1c
            go_wp2_with fail
            refine (mlast OK.out g (timT E P f (i + 1)) M.out).mono ?_
            rintro e w7 ⟨rfl, hm, hh⟩
            have TL := tim_last E P f i
            rw [TL.1, TL.2, HS.out, show s.v = .agg #[.int .i64 s.I, .int .i64 s.R, .int .i64 s.D, .int .i64 s.B, .int .i64 s.G] from rfl]
            have K := Lib.hid ((hh.blk K.out (.inl rfl)).alloc (.cells #[.int .i64 s.I, .int .i64 s.R, .int .i64 s.D, .int .i64 s.B, .int .i64 s.G] 35))
            have S4 := Lib.hid ((hh.blk S4.out (.inr rfl)).alloc (.cells #[.int .i64 s.I, .int .i64 s.R, .int .i64 s.D, .int .i64 s.B, .int .i64 s.G] 35))
            have X := Lib.hid (Blk.new w7 35 #[.int .i64 s.I, .int .i64 s.R, .int .i64 s.D, .int .i64 s.B, .int .i64 s.G])
            have M := Lib.hid ((hm.next OK.out (wbox w7 (.cells #[.int .i64 s.I, .int .i64 s.R, .int .i64 s.D, .int .i64 s.B, .int .i64 s.G] 35))).less OK.out (G' := fun x => x = w2.heap.size) (fun k q => .inl q))
            clear hm hh TL
            go_upto_region 18 with fail
            obtain ⟨W8, hW8⟩ : ∃ W8, w7.alloc (.cells #[.int .i64 s.I, .int .i64 s.R, .int .i64 s.D, .int .i64 s.B, .int .i64 s.G] 35) = W8 := ⟨_, rfl⟩
            rw [hW8] at M K S4 X
            rw [hW8]
            clear hW8
            have y0 := S4.out.cell 0; have y1 := S4.out.cell 1; have y2 := S4.out.cell 2; have y3 := S4.out.cell 3; have y4 := S4.out.cell 4
            have x0 := X.out.cell 0; have x1 := X.out.cell 1; have x2 := X.out.cell 2; have x3 := X.out.cell 3; have x4 := X.out.cell 4
            simp at x0 x1 x2 x3 x4 y0 y1 y2 y3 y4
            go_wp2
            go_roundw
            case rel => exact ⟨i + 1, now, by go_num, by omega, by omega, rfl, by omega, Int.le_trans (by omega) RR.out, M.out, K.out⟩
            case measure => simp [intOf]; omega
      · have t2 : decide ((i : Int) < 60) = false := by simp; omega
        have t2n : decide (i < 60) = false := by simp; omega
        go_wp2
        go_ret
        exact ⟨rfl, M.out.below⟩
    · have t1 : decide ((i : Int) < (len : Int)) = false := by simp; omega
      have t1n : decide (i < len) = false := by simp; omega
      go_wp2
      go_ret
      exact ⟨rfl, M.out.below⟩
end
end Go.Proofs.Ythaoijmjkmgebaa
