/-
  What package stepper's reach and groups give back: contracts.
-/
import Derived.Test.YthaoijmjkmgebaaSt2
namespace Go.Proofs.Ythaoijmjkmgebaa
open Go.RowKit

/-- a counter by A over B, k steps on, by value and by its cells -/
def cvC (A B k : Int) : Array Value := #[.int .i64 (k * A / B), .int .i64 (k * A % B), .int .i64 (A / B), .int .i64 (A % B), .int .i64 B]
/-- so many steps on that it is not below a slot -/
structure Goal (A B K slot : Int) : Prop where
  A0 : 0 ≤ A
  A1 : A ≤ 1048576
  B0 : 0 < B
  B1 : B ≤ 1048576
  K0 : 0 ≤ K
  K1 : K ≤ 2199023255552
  meets : slot ≤ cdv (K * A) B
  least : ∀ j, slot ≤ cdv (j * A) B → K ≤ j
theorem creach_none (slot : Int) (w : World) :
    Calls Try.prog 52 #[.agg #[.int .i64 0, .int .i64 0, .int .i64 0, .int .i64 0, .int .i64 0], .int .i64 slot] w fun e w' => e = .returned (.agg #[.int .i64 0, .int .i64 0, .int .i64 0, .int .i64 0, .int .i64 0]) ∧ Below w.heap.size w w' := by
  go_enter Try.func52, Try.ntmps52
  go_wp2
  go_step3
  go_wp2
  go_step3
  go_wp2
  obtain ⟨W0, hW0⟩ : ∃ W0, (w.alloc (Obj.cells #[Value.int .i64 0, Value.int .i64 0, Value.int .i64 0, Value.int .i64 0, Value.int .i64 0] 70)).alloc (Obj.cells #[Value.int .i64 0, Value.int .i64 0, Value.int .i64 0, Value.int .i64 0, Value.int .i64 0] 70) = W0 := ⟨_, rfl⟩
  rw [hW0]
  go_loopg [5] 0 (fun k _ wr => k = 0 ∧ W0 = wr)
  case atStart => exact ⟨rfl, rfl⟩
  case round =>
    obtain ⟨rfl, rfl⟩ := hrel
    subst hW0
    go_wp2
    try rw [Exit.noGoto_ret]
    refine bodyPost_ret (v := .agg #[.int .i64 0, .int .i64 0, .int .i64 0, .int .i64 0, .int .i64 0]) (by simp [results, Try.results52, go_sem]) rfl ⟨rfl, wbox2 _ _ _⟩
set_option maxHeartbeats 1000000 in
theorem creach_any (A B k K slot : Int) (w : World) (hG : Goal A B K slot) (k0 : 0 ≤ k) (kK : k ≤ K) :
    Calls Try.prog 52 #[.agg (cvC A B k), .int .i64 slot] w fun e w' => e = .returned (.agg (cvC A B K)) ∧ Below w.heap.size w w' := by
  have HG := Lib.hid hG
  have b0 : 0 < B := hG.B0
  clear hG
  obtain ⟨a, ha⟩ : ∃ a, k * A / B = a := ⟨_, rfl⟩
  obtain ⟨r, hr⟩ : ∃ a, k * A % B = a := ⟨_, rfl⟩
  obtain ⟨s, hs⟩ : ∃ a, A / B = a := ⟨_, rfl⟩
  obtain ⟨m, hm⟩ : ∃ a, A % B = a := ⟨_, rfl⟩
  have HS := Lib.hid hs
  have HM := Lib.hid hm
  have HV := Lib.hid (show cvC A B K = #[.int .i64 (K * A / B), .int .i64 (K * A % B), .int .i64 s, .int .i64 m, .int .i64 B] by unfold cvC; rw [hs, hm])
  have HK := Lib.hid (show 0 ≤ k ∧ k ≤ K ∧ k * A / B = a ∧ k * A % B = r from ⟨k0, kK, ha, hr⟩)
  rw [show cvC A B k = #[.int .i64 a, .int .i64 r, .int .i64 s, .int .i64 m, .int .i64 B] by unfold cvC; rw [ha, hr, hs, hm]]
  clear ha hr hs hm k0 kK
  go_enter Try.func52, Try.ntmps52
  go_wp2
  go_step3
  go_wp2
  go_step3
  go_wp2
  obtain ⟨W0, hW0⟩ : ∃ W0, (w.alloc (Obj.cells #[Value.int .i64 a, Value.int .i64 r, Value.int .i64 s, Value.int .i64 m, Value.int .i64 B] 70)).alloc (Obj.cells #[Value.int .i64 0, Value.int .i64 0, Value.int .i64 0, Value.int .i64 0, Value.int .i64 0] 70) = W0 := ⟨_, rfl⟩
  have K0 := Lib.hid (show Blk W0 70 w.heap.size #[Value.int .i64 a, Value.int .i64 r, Value.int .i64 s, Value.int .i64 m, Value.int .i64 B] by rw [← hW0]; exact (Blk.new _ _ _).alloc _)
  have L0 := Lib.hid (show Blk W0 70 (w.heap.size + 1) #[Value.int .i64 0, Value.int .i64 0, Value.int .i64 0, Value.int .i64 0, Value.int .i64 0] by rw [← hW0]; exact Blk.new2 _ _ _ _)
  have B0 := Lib.hid (show Below w.heap.size w W0 by rw [← hW0]; exact wbox2 _ _ _)
  rw [hW0]
  clear hW0
  go_loopg [5] (K - k).toNat (fun g _ wr => ∃ k a r : Int, Hid ((K - k).toNat = g ∧ 0 ≤ k ∧ k ≤ K ∧ k * A / B = a ∧ k * A % B = r) ∧ Hid (Blk wr 70 w.heap.size #[Value.int .i64 a, Value.int .i64 r, Value.int .i64 s, Value.int .i64 m, Value.int .i64 B]) ∧ Hid (Blk wr 70 (w.heap.size + 1) #[Value.int .i64 0, Value.int .i64 0, Value.int .i64 0, Value.int .i64 0, Value.int .i64 0]) ∧ Hid (Below w.heap.size w wr))
  case atStart => exact ⟨k, a, r, Lib.hid ⟨rfl, HK.out⟩, K0, L0, B0⟩
  case round =>
    clear K0 L0 B0 HK
    obtain ⟨k, a, r, HK, KK, LL, BB⟩ := hrel
    have F := ctr_fit HG.out.B0 HG.out.A0 HG.out.A1 HK.out.2.1 HK.out.2.2.1 HG.out.K1
    rw [HK.out.2.2.2.1, HK.out.2.2.2.2, HS.out, HM.out] at F
    obtain ⟨a0, a1, r0, r1, s0, s1, m0, m1⟩ := F
    have hne := ctr_ne a r s m B (by omega)
    have c0 := KK.out.cell 0; have c1 := KK.out.cell 1; have c2 := KK.out.cell 2; have c3 := KK.out.cell 3; have c4 := KK.out.cell 4
    simp at c0 c1 c2 c3 c4
    obtain ⟨t, ht⟩ : ∃ t : Int, t = if 0 < r then 1 else 0 := ⟨_, rfl⟩
    have HT := Lib.hid ht
    have HU := Lib.hid (show a + t = cdv (k * A) B by rw [ht, ← HK.out.2.2.2.1, ← HK.out.2.2.2.2]; exact ctr_up HG.out.B0)
    clear ht
    go_wp2_with fail
    refine (cup_any a r s m B t _ HT.out a0 (by omega)).mono ?_
    rintro e w1 ⟨rfl, hb⟩
    have KK := Lib.hid (KK.out.below hb)
    have LL := Lib.hid (LL.out.below hb)
    have BB := Lib.hid (below_next BB.out hb)
    clear hb c0 c1 c2 c3 c4
    have c0 := KK.out.cell 0; have c1 := KK.out.cell 1; have c2 := KK.out.cell 2; have c3 := KK.out.cell 3; have c4 := KK.out.cell 4
    have f0 := KK.out.free 0; have f1 := KK.out.free 1; have f2 := KK.out.free 2; have f3 := KK.out.free 3; have f4 := KK.out.free 4
    simp at c0 c1 c2 c3 c4
    by_cases g : slot ≤ a + t
    · have hk : k = K := by
        have h1 := HG.out.least k (by rw [← HU.out]; exact g)
        have h2 := HK.out.2.2.1
        omega
      have HE := Lib.hid (show K * A / B = a ∧ K * A % B = r by rw [← hk]; exact HK.out.2.2.2)
      have bt : decide (slot ≤ a + t) = true := by simp; omega
      clear hk g
      have d0 := LL.out.cell 0; have d1 := LL.out.cell 1; have d2 := LL.out.cell 2; have d3 := LL.out.cell 3; have d4 := LL.out.cell 4
      have e0 := LL.out.free 0; have e1 := LL.out.free 1; have e2 := LL.out.free 2; have e3 := LL.out.free 3; have e4 := LL.out.free 4
      simp at d0 d1 d2 d3 d4
      go_wp2
      try rw [Exit.noGoto_ret]
      refine bodyPost_ret (v := .agg #[.int .i64 a, .int .i64 r, .int .i64 s, .int .i64 m, .int .i64 B]) (by simp [results, Try.results52, go_sem, d0, d1, d2, d3, d4]) rfl ⟨by rw [HV.out, HE.out.1, HE.out.2], below_set5 BB.out (by omega)⟩
    · have hk : k < K := by
        have h1 := HG.out.meets
        have h2 := HK.out.2.2.1
        by_cases q : k = K
        · subst q; rw [← HU.out] at h1; omega
        · omega
      have bt : decide (slot ≤ a + t) = false := by simp; omega
      clear g
      obtain ⟨a', r', hs⟩ : ∃ a' r' : Int, ((r + m < B ∧ a' = a + s ∧ r' = r + m) ∨ (B ≤ r + m ∧ a' = a + s + 1 ∧ r' = r + m - B)) ∧ (k + 1) * A / B = a' ∧ (k + 1) * A % B = r' := by
        have h1 := ctr_step (A := A) (k := k) HG.out.B0
        rw [HK.out.2.2.2.1, HK.out.2.2.2.2, HS.out, HM.out] at h1
        exact ⟨_, _, h1, rfl, rfl⟩
      have HN := Lib.hid hs
      clear hs
      go_wp2_with fail
      refine (cnext_any a r s m B a' r' _ a0 a1 r0 r1 s0 s1 m0 m1 HG.out.B1 HN.out.1).mono ?_
      rintro e w2 ⟨rfl, hb⟩
      have KK := Lib.hid (KK.out.below hb)
      have LL := Lib.hid (LL.out.below hb)
      have BB := Lib.hid (below_next BB.out hb)
      clear hb c0 c1 c2 c3 c4 f0 f1 f2 f3 f4
      have c0 := KK.out.cell 0; have c1 := KK.out.cell 1; have c2 := KK.out.cell 2; have c3 := KK.out.cell 3; have c4 := KK.out.cell 4
      have f0 := KK.out.free 0; have f1 := KK.out.free 1; have f2 := KK.out.free 2; have f3 := KK.out.free 3; have f4 := KK.out.free 4
      simp at c0 c1 c2 c3 c4
      have HQ := Lib.hid (show (K - (k + 1)).toNat < gk ∧ 0 ≤ k + 1 ∧ k + 1 ≤ K by have := HK.out; omega)
      clear hk
      go_wp2
      go_roundg (K - (k + 1)).toNat
      case rel => exact ⟨k + 1, a', r', Lib.hid ⟨rfl, HQ.out.2.1, HQ.out.2.2, HN.out.2⟩, Lib.hid KK.out.set5, Lib.hid (LL.out.other5 (by omega)), Lib.hid (below_set5 BB.out (by omega))⟩
      case measure => exact HQ.out.1

/-- the groups' counter of a stepper that has told n subtasks -/
def GrIs (E P n ga gr gs gm gb : Int) : Prop :=
  (2 * E < P ∧ ga = 0 ∧ gr = 0 ∧ gs = 0 ∧ gm = 0 ∧ gb = 0) ∨
  (¬ 2 * E < P ∧ ga = gK E P n * P / gB E P ∧ gr = gK E P n * P % gB E P ∧ gs = P / gB E P ∧ gm = P % gB E P ∧ gb = gB E P)
theorem cgroups_any (E P s m : Int) (w : World) (hM : MayBe E P) (hs : P / E = s) (hm : P % E = m) :
    Calls Try.prog 41 #[.agg #[.int .i64 E, .int .i64 P], .agg #[.int .i64 0, .int .i64 0, .int .i64 s, .int .i64 m, .int .i64 E]] w
      fun e w' => ∃ ga gr gs gm gb, e = .returned (.agg #[.int .i64 ga, .int .i64 gr, .int .i64 gs, .int .i64 gm, .int .i64 gb]) ∧ GrIs E P 0 ga gr gs gm gb ∧ Below w.heap.size w w' := by
  have HM := Lib.hid hM
  obtain ⟨e0, e1, p1⟩ := hM
  have HS := Lib.hid hs; have HR := Lib.hid hm
  clear hs hm
  obtain ⟨W0, hW0⟩ : ∃ W0, ((w.alloc (.cells #[.int .i64 E, .int .i64 P] 26)).alloc (.cells #[.int .i64 0, .int .i64 0, .int .i64 s, .int .i64 m, .int .i64 E] 70)).alloc (.cells #[.int .i64 0, .int .i64 0, .int .i64 0, .int .i64 0, .int .i64 0] 70) = W0 := ⟨_, rfl⟩
  have K := Lib.hid (show Blk W0 26 w.heap.size #[.int .i64 E, .int .i64 P] by rw [← hW0]; exact ((Blk.new _ _ _).alloc _).alloc _)
  have C := Lib.hid (show Blk W0 70 (w.heap.size + 1) #[.int .i64 0, .int .i64 0, .int .i64 s, .int .i64 m, .int .i64 E] by rw [← hW0]; exact (Blk.new2 _ _ _ _).alloc _)
  have L := Lib.hid (show Blk W0 70 (w.heap.size + 1 + 1) #[.int .i64 0, .int .i64 0, .int .i64 0, .int .i64 0, .int .i64 0] by
    rw [← hW0, ← wsize w (.cells #[.int .i64 E, .int .i64 P] 26)]; exact Blk.new2 _ _ _ _)
  have B := Lib.hid (show Below w.heap.size w W0 by rw [← hW0]; exact wbox3 _ _ _ _)
  have HW := Lib.hid hW0
  have k0 := K.out.cell 0; have k1 := K.out.cell 1
  simp at k0 k1
  clear hW0
  by_cases g : 2 * E < P
  · have T := Lib.hid (show false = decide (P ≤ 2 * E) by symm; simp; omega)
    have HG := Lib.hid (show GrIs E P 0 0 0 0 0 0 from .inl ⟨g, rfl, rfl, rfl, rfl, rfl⟩)
    clear g
    go_enter Try.func41, Try.ntmps41
    go_wp2_with fail
    rw [HW.out]
    refine (wheavy_yes E P _ HM.out false T.out).mono ?_
    rintro e w1 ⟨rfl, hb⟩
    have L := Lib.hid (L.out.below hb)
    have B := Lib.hid (below_next B.out hb)
    clear hb k0 k1
    have d0 := L.out.cell 0; have d1 := L.out.cell 1; have d2 := L.out.cell 2; have d3 := L.out.cell 3; have d4 := L.out.cell 4
    have e0 := L.out.free 0; have e1 := L.out.free 1; have e2 := L.out.free 2; have e3 := L.out.free 3; have e4 := L.out.free 4
    simp at d0 d1 d2 d3 d4
    go_wp2
    exact bodyPost_ret (v := .agg #[.int .i64 0, .int .i64 0, .int .i64 0, .int .i64 0, .int .i64 0]) (by simp [results, Try.results41, go_sem, d0, d1, d2, d3, d4]) rfl ⟨_, _, _, _, _, rfl, HG.out, below_set5 B.out (by omega)⟩
  · have T := Lib.hid (show true = decide (P ≤ 2 * E) by symm; simp; omega)
    by_cases q : E = P
    · subst q
      have HG := Lib.hid (show GrIs E E 0 0 0 s m E from .inr ⟨g, by rw [gK_none HM.out]; simp, by rw [gK_none HM.out]; simp, by unfold gB; rw [if_pos rfl, HS.out], by unfold gB; rw [if_pos rfl, HR.out], by unfold gB; rw [if_pos rfl]⟩)
      clear g
      go_enter Try.func41, Try.ntmps41
      go_wp2_with fail
      rw [HW.out]
      refine (wheavy_yes E E _ HM.out true T.out).mono ?_
      rintro e w1 ⟨rfl, hb⟩
      have L := Lib.hid (L.out.below hb)
      have C := Lib.hid (C.out.below hb)
      have K := Lib.hid (K.out.below hb)
      have B := Lib.hid (below_next B.out hb)
      clear hb k0 k1
      have k0 := K.out.cell 0; have k1 := K.out.cell 1
      have d0 := L.out.cell 0; have d1 := L.out.cell 1; have d2 := L.out.cell 2; have d3 := L.out.cell 3; have d4 := L.out.cell 4
      have e0 := L.out.free 0; have e1 := L.out.free 1; have e2 := L.out.free 2; have e3 := L.out.free 3; have e4 := L.out.free 4
      have c0 := C.out.cell 0; have c1 := C.out.cell 1; have c2 := C.out.cell 2; have c3 := C.out.cell 3; have c4 := C.out.cell 4
      simp at d0 d1 d2 d3 d4 c0 c1 c2 c3 c4 k0 k1
      go_wp2
      exact bodyPost_ret (v := .agg #[.int .i64 0, .int .i64 0, .int .i64 s, .int .i64 m, .int .i64 E]) (by simp [results, Try.results41, go_sem, d0, d1, d2, d3, d4]) rfl ⟨_, _, _, _, _, rfl, HG.out, below_set5 B.out (by omega)⟩
    · have HG := Lib.hid (show GrIs E P 0 0 0 (P / (P - E)) (P % (P - E)) (P - E) from .inr ⟨g, by rw [gK_none HM.out]; simp, by rw [gK_none HM.out]; simp, by unfold gB; rw [if_neg q], by unfold gB; rw [if_neg q], by unfold gB; rw [if_neg q]⟩)
      have qt : (E == P) = false := by simp; omega
      have f0 : 0 < P - E := by omega
      clear g q
      go_enter Try.func41, Try.ntmps41
      go_wp2_with fail
      rw [HW.out]
      refine (wheavy_yes E P _ HM.out true T.out).mono ?_
      rintro e w1 ⟨rfl, hb⟩
      have L := Lib.hid (L.out.below hb)
      have K := Lib.hid (K.out.below hb)
      have B := Lib.hid (below_next B.out hb)
      clear hb k0 k1
      have k0 := K.out.cell 0; have k1 := K.out.cell 1
      simp at k0 k1
      go_wp2_with fail
      refine (ccount_any P (P - E) _ (by omega) (by omega) f0).mono ?_
      rintro e w2 ⟨rfl, hb⟩
      have L := Lib.hid (L.out.below hb)
      have B := Lib.hid (below_next B.out hb)
      clear hb k0 k1
      have d0 := L.out.cell 0; have d1 := L.out.cell 1; have d2 := L.out.cell 2; have d3 := L.out.cell 3; have d4 := L.out.cell 4
      have e0 := L.out.free 0; have e1 := L.out.free 1; have e2 := L.out.free 2; have e3 := L.out.free 3; have e4 := L.out.free 4
      simp at d0 d1 d2 d3 d4
      go_wp2
      exact bodyPost_ret (v := .agg #[.int .i64 0, .int .i64 0, .int .i64 (P / (P - E)), .int .i64 (P % (P - E)), .int .i64 (P - E)]) (by simp [results, Try.results41, go_sem, d0, d1, d2, d3, d4]) rfl ⟨_, _, _, _, _, rfl, HG.out, below_set5 B.out (by omega)⟩
end Go.Proofs.Ythaoijmjkmgebaa
