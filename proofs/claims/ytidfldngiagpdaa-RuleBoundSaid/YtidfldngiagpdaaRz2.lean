/-
  Package rule as landed: Time, Wait, Free: contracts.
-/
import Derived.Test.YtidfldngiagpdaaRz1
namespace Go.Proofs.Ytidfldngiagpdaa
open Go.RowKit

def sbC (s : Sb) : Array Value := #[.int .i64 s.I, .int .i64 s.R, .int .i64 s.D, .int .i64 s.B, .int .i64 s.G]
def sbV (s : Sb) : Value := .agg #[.int .i64 s.I, .int .i64 s.R, .int .i64 s.D, .int .i64 s.B, .int .i64 s.G]
def endV (E P : Int) (s : Sb) : Int := if P ≤ 2 * E then (if s.D < s.G then s.G else s.D) else s.D + s.B
theorem timeV_end (E P : Int) (s : Sb) (at_ : Int) : timeV E P s true at_ = if at_ < endV E P s then endV E P s else at_ := by
  unfold timeV endV
  rw [if_neg (by simp)]
  (repeat' split) <;> omega
theorem overlap_any (s : Sb) (w : World) (hs : SbFit s) : Calls Try.prog 33 #[.agg #[.int .i64 s.I, .int .i64 s.R, .int .i64 s.D, .int .i64 s.B, .int .i64 s.G]] w fun e w' => e = .returned (.int .i64 s.B) ∧ Below w.heap.size w w' := by
  obtain ⟨i, r, d, b, g⟩ := s
  have hb0 : 0 ≤ b := hs.b0
  have hb1 : b ≤ 1 := hs.b1
  obtain rfl | rfl : b = 0 ∨ b = 1 := by omega
  all_goals
    clear hb0 hb1 hs
    go_enter Try.func33, Try.ntmps33
    go_wp2
    go_ret
    exact ⟨rfl, wbox _ _⟩
theorem end_any (E P : Int) (s : Sb) (w : World) (hs : SbFit s) (v : Int) (hv : endV E P s = v) : Calls Try.prog 25 #[.iface (kindT E P) (.agg #[.int .i64 E, .int .i64 P]), .agg #[.int .i64 s.I, .int .i64 s.R, .int .i64 s.D, .int .i64 s.B, .int .i64 s.G]] w fun e w' => e = .returned (.int .i64 v) ∧ Below w.heap.size w w' := by
  subst hv
  have a1 : ∀ (x : Value) (w : World), (Instr.typeAssert (.iface 61 x) 50 61 true).run Try.prog w = .ok (.tuple #[x, .bool true]) w := by intro x w; kernel_rfl
  have a2 : ∀ (x : Value) (w : World), (Instr.typeAssert (.iface 62 x) 50 61 true).run Try.prog w = .ok (.tuple #[.agg #[.int .i64 0, .int .i64 0], .bool false]) w := by intro x w; kernel_rfl
  have K := Lib.hid (Blk.new w 28 #[.int .i64 s.I, .int .i64 s.R, .int .i64 s.D, .int .i64 s.B, .int .i64 s.G])
  have c0 := K.out.cell 0
  have c1 := K.out.cell 1
  have c2 := K.out.cell 2
  have c3 := K.out.cell 3
  have c4 := K.out.cell 4
  simp at c0 c1 c2 c3 c4
  have HS := Lib.hid hs
  have z := hs.d0
  have z1 := hs.d1
  have z2 := hs.b0
  have z3 := hs.b1
  have wr : IntKind.i64.wrap (s.D + s.B) = s.D + s.B := IntWalk.i64_in _ (by omega)
  clear z z1 z2 z3
  by_cases hh : P ≤ 2 * E
  · have hk : kindT E P = 61 := if_pos hh
    have he : endV E P s = if s.D < s.G then s.G else s.D := if_pos hh
    rw [hk, he]
    obtain ⟨v, hv⟩ : ∃ v, (if s.D < s.G then s.G else s.D) = v := ⟨_, rfl⟩
    rw [hv]
    have HV := Lib.hid hv
    clear hk he hh hs hv
    go_enter Try.func25, Try.ntmps25
    go_wp2_with fail
    refine (gr_new s.D _).mono ?_
    rintro e w1 ⟨p, q, rfl, hg, hq, hb⟩
    unfold grV
    have K := Lib.hid (K.out.below hb)
    have B := Lib.hid (below_next (wbox w (.cells #[.int .i64 s.I, .int .i64 s.R, .int .i64 s.D, .int .i64 s.B, .int .i64 s.G] 28)) hb)
    have G := Lib.hid hg
    have Q := Lib.hid (show w.heap.size ≤ q by simp at hq; omega)
    clear hb hg hq c0 c1 c2 c3 c4
    have c0 := K.out.cell 0
    have c1 := K.out.cell 1
    have c2 := K.out.cell 2
    have c3 := K.out.cell 3
    have c4 := K.out.cell 4
    simp at c0 c1 c2 c3 c4
    go_wp2_with fail
    refine (gr_ask p q s.D s.G v w.heap.size w1 G.out Q.out HV.out).mono ?_
    rintro e w2 ⟨rfl, hb⟩
    go_wp2
    go_ret
    exact ⟨rfl, B.out.trans hb⟩
  · have hk : kindT E P = 62 := if_neg hh
    have he : endV E P s = s.D + s.B := if_neg hh
    rw [hk, he]
    clear hk he hh hs
    go_enter Try.func25, Try.ntmps25
    obtain ⟨W1, hW1⟩ : ∃ W1, w.alloc (.cells #[.int .i64 s.I, .int .i64 s.R, .int .i64 s.D, .int .i64 s.B, .int .i64 s.G] 28) = W1 := ⟨_, rfl⟩
    have B1 := Lib.hid (show Below w.heap.size w W1 by rw [← hW1]; exact wbox _ _)
    rw [hW1] at K
    clear c0 c1 c2 c3 c4
    have KEPT := Lib.hid (show ∀ w' : World, Below W1.heap.size W1 w' → w'.cell? ⟨w.heap.size, 0, none⟩ = some (.int .i64 s.I) ∧ w'.cell? ⟨w.heap.size, 1, none⟩ = some (.int .i64 s.R) ∧ w'.cell? ⟨w.heap.size, 2, none⟩ = some (.int .i64 s.D) ∧ w'.cell? ⟨w.heap.size, 3, none⟩ = some (.int .i64 s.B) ∧ w'.cell? ⟨w.heap.size, 4, none⟩ = some (.int .i64 s.G) from fun w' h => ⟨(K.out.below h).cell 0, (K.out.below h).cell 1, (K.out.below h).cell 2, (K.out.below h).cell 3, (K.out.below h).cell 4⟩)
    have BB := Lib.hid (show Below W1.heap.size W1 W1.drew from (Below.refl W1.heap.size W1).drew)
    go_upto_region 2 with fail
    go_region_held3 (fun w' => w'.cell? ⟨w.heap.size, 0, none⟩ = some (.int .i64 s.I) ∧ w'.cell? ⟨w.heap.size, 1, none⟩ = some (.int .i64 s.R) ∧ w'.cell? ⟨w.heap.size, 2, none⟩ = some (.int .i64 s.D) ∧ w'.cell? ⟨w.heap.size, 3, none⟩ = some (.int .i64 s.B) ∧ w'.cell? ⟨w.heap.size, 4, none⟩ = some (.int .i64 s.G))
      (with_reducible exact KEPT.out _ BB.out)
      (first
        | (go_at_call 33; (with_reducible refine (overlap_any s _ HS.out).mono ?_); rintro e w1 ⟨rfl, hb⟩; have BB := Lib.hid (below_next BB.out hb); clear hb))
    all_goals
      go_wp2
      go_ret
      exact ⟨rfl, below_next B1.out BB.out⟩

set_option maxHeartbeats 2000000 in
theorem time_any (E P : Int) (s : Sb) (some : Bool) (at_ : Int) (w : World) (hM : MayBe E P) (hs : SbFit s) : Calls Try.prog 14 #[.agg #[.int .i64 E, .int .i64 P], .agg #[.int .i64 s.I, .int .i64 s.R, .int .i64 s.D, .int .i64 s.B, .int .i64 s.G], .bool some, .int .i64 at_] w fun z w' => z = .returned (.int .i64 (timeV E P s some at_)) ∧ Below w.heap.size w w' := by
  cases some with
  | false =>
    rw [show timeV E P s false at_ = at_ from if_pos rfl]
    clear hM hs
    go_enter Try.func14, Try.ntmps14
    go_wp2
    go_ret
    exact ⟨rfl, wbox2 _ _ _⟩
  | true =>
    rw [timeV_end]
    have HM := Lib.hid hM
    have HS := Lib.hid hs
    obtain ⟨v, hv⟩ : ∃ v, endV E P s = v := ⟨_, rfl⟩
    rw [hv]
    have HV := Lib.hid hv
    obtain ⟨u, hu⟩ : ∃ u, (if at_ < v then v else at_) = u := ⟨_, rfl⟩
    rw [hu]
    have HU := Lib.hid hu
    clear hv hM hs hu
    have K1 := Lib.hid ((Blk.new w 25 #[.int .i64 E, .int .i64 P]).alloc (.cells #[.int .i64 s.I, .int .i64 s.R, .int .i64 s.D, .int .i64 s.B, .int .i64 s.G] 28))
    have K2 := Lib.hid (Blk.new2 w (.cells #[.int .i64 E, .int .i64 P] 25) 28 #[.int .i64 s.I, .int .i64 s.R, .int .i64 s.D, .int .i64 s.B, .int .i64 s.G])
    have B := Lib.hid (wbox2 w (.cells #[.int .i64 E, .int .i64 P] 25) (.cells #[.int .i64 s.I, .int .i64 s.R, .int .i64 s.D, .int .i64 s.B, .int .i64 s.G] 28))
    go_enter Try.func14, Try.ntmps14
    go_wp2_with fail
    refine (gr_new at_ _).mono ?_
    rintro e w1 ⟨p, q, rfl, hg, hq, hb⟩
    unfold grV
    have K1 := Lib.hid (K1.out.below hb)
    have K2 := Lib.hid (K2.out.below hb)
    have B := Lib.hid (below_next B.out hb)
    have G := Lib.hid hg
    have Q := Lib.hid (show w.heap.size + 2 ≤ q by simp at hq; omega)
    clear hb hg hq
    have KEPT := Lib.hid (show ∀ w' : World, Below w1.heap.size w1 w' → w'.cell? ⟨w.heap.size, 0, none⟩ = Option.some (.int .i64 E) ∧ w'.cell? ⟨w.heap.size, 1, none⟩ = Option.some (.int .i64 P) ∧ w'.cell? ⟨w.heap.size + 1, 0, none⟩ = Option.some (.int .i64 s.I) ∧ w'.cell? ⟨w.heap.size + 1, 1, none⟩ = Option.some (.int .i64 s.R) ∧ w'.cell? ⟨w.heap.size + 1, 2, none⟩ = Option.some (.int .i64 s.D) ∧ w'.cell? ⟨w.heap.size + 1, 3, none⟩ = Option.some (.int .i64 s.B) ∧ w'.cell? ⟨w.heap.size + 1, 4, none⟩ = Option.some (.int .i64 s.G) from fun w' h => ⟨(K1.out.below h).cell 0, (K1.out.below h).cell 1, (K2.out.below h).cell 0, (K2.out.below h).cell 1, (K2.out.below h).cell 2, (K2.out.below h).cell 3, (K2.out.below h).cell 4⟩)
    have KEPT2 := Lib.hid (show ∀ w' w'' : World, Below w1.heap.size w1 w' → Below (w.heap.size + 2) w' w'' → w''.cell? ⟨w.heap.size, 0, none⟩ = Option.some (.int .i64 E) ∧ w''.cell? ⟨w.heap.size, 1, none⟩ = Option.some (.int .i64 P) ∧ w''.cell? ⟨w.heap.size + 1, 0, none⟩ = Option.some (.int .i64 s.I) ∧ w''.cell? ⟨w.heap.size + 1, 1, none⟩ = Option.some (.int .i64 s.R) ∧ w''.cell? ⟨w.heap.size + 1, 2, none⟩ = Option.some (.int .i64 s.D) ∧ w''.cell? ⟨w.heap.size + 1, 3, none⟩ = Option.some (.int .i64 s.B) ∧ w''.cell? ⟨w.heap.size + 1, 4, none⟩ = Option.some (.int .i64 s.G) from fun w' w'' h h2 => by
      have L1 : Blk w'' 25 w.heap.size #[.int .i64 E, .int .i64 P] := (h2.block _ (by omega)).trans (K1.out.below h)
      have L2 : Blk w'' 28 (w.heap.size + 1) #[.int .i64 s.I, .int .i64 s.R, .int .i64 s.D, .int .i64 s.B, .int .i64 s.G] := (h2.block _ (by omega)).trans (K2.out.below h)
      exact ⟨L1.cell 0, L1.cell 1, L2.cell 0, L2.cell 1, L2.cell 2, L2.cell 3, L2.cell 4⟩)
    have GK := Lib.hid (show ∀ w' : World, Below w1.heap.size w1 w' → Gr w' p q at_ from fun w' h => G.out.below h)
    have BB := Lib.hid (show Below w1.heap.size w1 w1.drew from (Below.refl w1.heap.size w1).drew)
    go_upto_region 4 with fail
    go_region_held3 (fun w' => w'.cell? ⟨w.heap.size, 0, none⟩ = Option.some (.int .i64 E) ∧ w'.cell? ⟨w.heap.size, 1, none⟩ = Option.some (.int .i64 P) ∧ w'.cell? ⟨w.heap.size + 1, 0, none⟩ = Option.some (.int .i64 s.I) ∧ w'.cell? ⟨w.heap.size + 1, 1, none⟩ = Option.some (.int .i64 s.R) ∧ w'.cell? ⟨w.heap.size + 1, 2, none⟩ = Option.some (.int .i64 s.D) ∧ w'.cell? ⟨w.heap.size + 1, 3, none⟩ = Option.some (.int .i64 s.B) ∧ w'.cell? ⟨w.heap.size + 1, 4, none⟩ = Option.some (.int .i64 s.G))
      (first | with_reducible exact KEPT.out _ BB.out | with_reducible exact KEPT2.out _ _ BB.out HL.out)
      (first
        | (go_at_call 22; (with_reducible refine (kind_any E P _ HM.out).mono ?_); rintro e w2 ⟨rfl, hb⟩; have BB := Lib.hid (below_next BB.out hb); clear hb)
        | (go_at_call 25; (with_reducible refine (end_any E P s _ HS.out v HV.out).mono ?_); rintro e w3 ⟨rfl, hb⟩; have BB := Lib.hid (below_next BB.out hb); clear hb)
        | (go_at_call 32; (with_reducible refine (gr_ask p q at_ v u (w.heap.size + 2) _ (GK.out _ BB.out) Q.out HU.out).mono ?_); rintro e w4 ⟨rfl, hb⟩; have HL := Lib.hid hb; clear hb))
    all_goals
      go_wp2
      go_ret
      exact ⟨rfl, (below_next B.out BB.out).trans (HL.out.mono (by omega))⟩
theorem wait_any (E P : Int) (s : Sb) (some : Bool) (at_ : Int) (w : World) (hM : MayBe E P) (hs : SbFit s) (h0 : 0 ≤ at_) (h1 : at_ ≤ 4611686018427387903) : Calls Try.prog 11 #[.agg #[.int .i64 E, .int .i64 P], .agg #[.int .i64 s.I, .int .i64 s.R, .int .i64 s.D, .int .i64 s.B, .int .i64 s.G], .bool some, .int .i64 at_] w fun z w' => z = .returned (.int .i64 (timeV E P s some at_ - at_)) ∧ Below w.heap.size w w' := by
  have tb : at_ ≤ timeV E P s some at_ := (time_behind hs).1
  have tw : IntKind.i64.wrap (timeV E P s some at_ - at_) = timeV E P s some at_ - at_ := by
    refine IntWalk.i64_in _ ⟨by omega, ?_⟩
    have : timeV E P s some at_ ≤ 4611686018427387904 := by
      have := hs.d1
      have := hs.b1
      have := hs.g1
      unfold timeV
      (repeat' split) <;> omega
    omega
  clear tb
  have T := Lib.hid (show ∀ w, Calls Try.prog 14 #[.agg #[.int .i64 E, .int .i64 P], .agg #[.int .i64 s.I, .int .i64 s.R, .int .i64 s.D, .int .i64 s.B, .int .i64 s.G], .bool some, .int .i64 at_] w fun z w' => z = .returned (.int .i64 (timeV E P s some at_)) ∧ Below w.heap.size w w' from fun w => time_any E P s some at_ w hM hs)
  obtain ⟨t, ht⟩ : ∃ t, timeV E P s some at_ = t := ⟨_, rfl⟩
  rw [ht] at T tw ⊢
  clear ht hM hs
  have K1 := Lib.hid ((Blk.new w 25 #[.int .i64 E, .int .i64 P]).alloc (.cells #[.int .i64 s.I, .int .i64 s.R, .int .i64 s.D, .int .i64 s.B, .int .i64 s.G] 28))
  have K2 := Lib.hid (Blk.new2 w (.cells #[.int .i64 E, .int .i64 P] 25) 28 #[.int .i64 s.I, .int .i64 s.R, .int .i64 s.D, .int .i64 s.B, .int .i64 s.G])
  have c0 := K1.out.cell 0
  have c1 := K1.out.cell 1
  have e0 := K2.out.cell 0
  have e1 := K2.out.cell 1
  have e2 := K2.out.cell 2
  have e3 := K2.out.cell 3
  have e4 := K2.out.cell 4
  simp at c0 c1 e0 e1 e2 e3 e4
  have B := Lib.hid (wbox2 w (.cells #[.int .i64 E, .int .i64 P] 25) (.cells #[.int .i64 s.I, .int .i64 s.R, .int .i64 s.D, .int .i64 s.B, .int .i64 s.G] 28))
  go_enter Try.func11, Try.ntmps11
  go_wp2_with fail
  refine (T.out _).mono ?_
  rintro e w1 ⟨rfl, hb⟩
  have B := Lib.hid (below_next B.out hb)
  go_wp2
  go_ret
  exact ⟨rfl, B.out⟩
theorem free_any (E P : Int) (s : Sb) (some : Bool) (at_ : Int) (w : World) (hM : MayBe E P) (hs : SbFit s) : Calls Try.prog 13 #[.agg #[.int .i64 E, .int .i64 P], .agg #[.int .i64 s.I, .int .i64 s.R, .int .i64 s.D, .int .i64 s.B, .int .i64 s.G], .bool some, .int .i64 at_] w fun z w' => z = .returned (.bool (decide (timeV E P s some at_ = at_))) ∧ Below w.heap.size w w' := by
  have T := Lib.hid (show ∀ w, Calls Try.prog 14 #[.agg #[.int .i64 E, .int .i64 P], .agg #[.int .i64 s.I, .int .i64 s.R, .int .i64 s.D, .int .i64 s.B, .int .i64 s.G], .bool some, .int .i64 at_] w fun z w' => z = .returned (.int .i64 (timeV E P s some at_)) ∧ Below w.heap.size w w' from fun w => time_any E P s some at_ w hM hs)
  obtain ⟨t, ht⟩ : ∃ t, timeV E P s some at_ = t := ⟨_, rfl⟩
  rw [ht] at T ⊢
  clear ht hM hs
  have K1 := Lib.hid ((Blk.new w 25 #[.int .i64 E, .int .i64 P]).alloc (.cells #[.int .i64 s.I, .int .i64 s.R, .int .i64 s.D, .int .i64 s.B, .int .i64 s.G] 28))
  have K2 := Lib.hid (Blk.new2 w (.cells #[.int .i64 E, .int .i64 P] 25) 28 #[.int .i64 s.I, .int .i64 s.R, .int .i64 s.D, .int .i64 s.B, .int .i64 s.G])
  have c0 := K1.out.cell 0
  have c1 := K1.out.cell 1
  have e0 := K2.out.cell 0
  have e1 := K2.out.cell 1
  have e2 := K2.out.cell 2
  have e3 := K2.out.cell 3
  have e4 := K2.out.cell 4
  simp at c0 c1 e0 e1 e2 e3 e4
  have B := Lib.hid (wbox2 w (.cells #[.int .i64 E, .int .i64 P] 25) (.cells #[.int .i64 s.I, .int .i64 s.R, .int .i64 s.D, .int .i64 s.B, .int .i64 s.G] 28))
  go_enter Try.func13, Try.ntmps13
  go_wp2_with fail
  refine (T.out _).mono ?_
  rintro e w1 ⟨rfl, hb⟩
  have B := Lib.hid (below_next B.out hb)
  go_wp2
  go_ret
  refine ⟨?_, B.out⟩
  first | rfl | (apply ret_b; simp; done) | (apply ret_b; by_cases q : t = at_ <;> simp [q])
end Go.Proofs.Ytidfldngiagpdaa
