/-
  The document's own supertask: Missed: contract.
-/
import Derived.Test.YtnlgophgglgneaaSrB
import Derived.Test.YtnlgophgglgneaaSzC
import Derived.BigQuiet
namespace Go.Proofs.Ytnlgophgglgneaa
open Go.RowKit

set_option maxRecDepth 20000 in
set_option maxHeartbeats 4000000 in
theorem r14missed_any (r : Nat) (a : Option Addr) (len cap : Nat) (s : SS) (t : Int) (w : World) (h : RAt w r a len cap s) (hs : s.served ≤ 1000000) :
    Calls Try.prog 22 #[.pointer (some ⟨r, 0, none⟩), .int .i64 t] w fun e w' => e = .returned (.int .i64 (missedV s t)) ∧ Below w.heap.size w w' := by
  have H := Lib.hid h
  have hl := h.len
  have n8 : s.n ≤ 8 := h.good.may.few
  have n1 : 1 ≤ s.n := h.good.may.some_
  have c0 := h.box.cell 0
  simp [rboxS] at c0
  cases m : mayS s t with
  | false =>
    have V := Lib.hid (missed_no m)
    have M := Lib.hid m
    have b1 : decide (0 < len) = true := by simp; omega
    have b2 : decide (0 < (len : Int)) = true := by simp; omega
    clear h m
    go_enter Try.func22, Try.ntmps22
    go_wp2_with fail
    refine (r14slot_any H.out t false M.out).mono ?_
    rintro e w1 ⟨rfl, rfl⟩
    go_wp2
    go_loopw [6, 7] (fun u v wr => u = .int .i64 0 ∧ v = .int .i64 0 ∧ w = wr) (fun _ _ _ => 0)
    case atStart => exact ⟨rfl, rfl, rfl⟩
    case round =>
      obtain ⟨rfl, rfl, rfl⟩ := hrel
      go_wp2
      go_ret
      exact ⟨ret_one V.out.symm, Below.refl _ _⟩
  | true =>
    have V := Lib.hid (missed_sum m)
    have SB := Lib.hid (fun i (hi : i ≤ s.n) => miss_sums h.good m i hi)
    have M := Lib.hid m
    have GD := Lib.hid h.good
    have ⟨m1, m2⟩ := may_is.mp m
    have a0 := h.good.a0; have a1 := h.good.al
    have c1 := h.box.cell 1
    simp [rboxS] at c1
    obtain ⟨A, hA⟩ : ∃ A, s.A = A := ⟨_, rfl⟩
    have HA := Lib.hid hA
    rw [hA] at c1 a0 a1
    clear h m hA c0 c1
    go_enter Try.func22, Try.ntmps22
    go_wp2_with fail
    refine (r14slot_any H.out t true M.out).mono ?_
    rintro e w1 ⟨rfl, rfl⟩
    go_wp2
    go_loopw [6, 7] (fun u v wr => ∃ i : Nat, v = .int .i64 i ∧ i ≤ len ∧ u = .int .i64 (sumN i (missI s t)) ∧ Below w.heap.size w wr) (fun _ v _ => len - (intOf v).toNat)
    case atStart => exact ⟨0, rfl, by omega, rfl, Below.refl _ _⟩
    case round =>
      obtain ⟨i, rfl, i1, rfl, hB⟩ := hrel
      have B := Lib.hid hB
      have HR := Lib.hid (H.out.below hB)
      clear hB
      have c0 := HR.out.box.cell 0
      have c1 := HR.out.box.cell 1
      simp [rboxS] at c0 c1
      rw [HA.out] at c1
      by_cases go : i < len
      · have b1 : decide (i < len) = true := by simp; omega
        have b2 : decide ((i : Int) < (len : Int)) = true := by simp; omega
        have i0 : 0 ≤ (i : Int) := by omega
        have i2 : (i : Int) < (len : Int) := by omega
        have i3 : (i : Int) < 8 := by omega
        have hi : i < s.n := by omega
        have i8 : i < 8 := by omega
        obtain ⟨ba, oa, rfl, hx, hy⟩ := HR.out.part hi
        have dc : wr.cell? ⟨r, 3 + i, none⟩ = some (.int .i64 (s.D i)) := by rw [HR.out.box.cell]; exact rbox_done i8
        have ⟨y1, y2, y3⟩ := GD.out.mb hi
        have d0 := GD.out.d0 i
        have d1 := GD.out.d1 i
        have MB := Lib.hid (miss_bd GD.out hi (t := t) (by rw [HA.out]; omega) m2)
        have SI := SB.out i (by omega)
        have SS1 := Lib.hid (sumN_succ i (missI s t))
        have MD := Lib.hid (show missI s t i = max 0 ((t - s.A) / s.P i * s.E i - s.D i) from rfl)
        obtain ⟨E, hE⟩ : ∃ E, s.E i = E := ⟨_, rfl⟩
        obtain ⟨P, hP⟩ : ∃ P, s.P i = P := ⟨_, rfl⟩
        obtain ⟨D, hD⟩ : ∃ D, s.D i = D := ⟨_, rfl⟩
        rw [hE, hP, hD, HA.out] at MD
        rw [hE] at hx y1 y2
        rw [hP] at hy y2 y3
        rw [hD] at dc d0 d1
        obtain ⟨Sm, hSm⟩ : ∃ Sm, sumN i (missI s t) = Sm := ⟨_, rfl⟩
        obtain ⟨Mi, hMi⟩ : ∃ Mi, missI s t i = Mi := ⟨_, rfl⟩
        rw [hSm, hMi] at SS1
        rw [hMi] at MD MB
        rw [hSm] at SI ⊢
        have q0 : 0 ≤ (t - A) / P := Int.ediv_nonneg (by omega) (by omega)
        have q1 : P * ((t - A) / P) ≤ t - A := Int.mul_ediv_self_le (by omega)
        have q4 := Int.ediv_le_self P (show 0 ≤ t - A by omega)
        have q2 : (t - A).tdiv P = (t - A) / P := Int.tdiv_eq_ediv_of_nonneg (by omega)
        have q3 : ¬ P = 0 := by omega
        obtain ⟨T, hT⟩ : ∃ T, (t - A) / P = T := ⟨_, rfl⟩
        rw [hT] at q0 q1 q2 q4 MD
        have p0 : 0 ≤ T * E := Int.mul_nonneg q0 (by omega)
        have p1 : T * E ≤ T * P := Int.mul_le_mul_of_nonneg_left y2 q0
        have p2 : T * P = P * T := Int.mul_comm _ _
        have w1 : IntKind.i64.wrap (t - A) = t - A := IntWalk.i64_in _ (by omega)
        have w2 : IntKind.i64.wrap T = T := IntWalk.i64_in _ (by omega)
        have w3 : IntKind.i64.wrap (T * E) = T * E := IntWalk.i64_in _ (by omega)
        obtain ⟨U, hU⟩ : ∃ U, T * E = U := ⟨_, rfl⟩
        rw [hU] at p0 p1 w3 MD
        clear hE hP hD hSm hMi hT
        go_upto_region 6 with fail
        go_quiet (fail)
        all_goals
          clear w1 w2 w3 q2
          have SQ : ∀ o, (wr.drewN nq).cell? ⟨r, o, none⟩ = wr.cell? ⟨r, o, none⟩ := fun _ => rfl
          have dc' : (wr.drewN nq).cell? ⟨r, 3 + i, none⟩ = some (.int .i64 D) := dc
          have BQ := Lib.hid (below_drews B.out nq)
          by_cases gt : D < U
          · have b3 : decide (U > D) = true := by simp; omega
            have w5 : IntKind.i64.wrap (Sm + U) = Sm + U := IntWalk.i64_in _ (by omega)
            have w6 : IntKind.i64.wrap (Sm + U - D) = Sm + Mi := by have h1 := MD.out; have h2 := MB.out; rw [IntWalk.i64_in _ (by omega)]; omega
            go_wp2
            go_roundw
            case rel => exact ⟨i + 1, by go_num, by omega, by rw [SS1.out], BQ.out⟩
            case measure => simp [intOf]; omega
          · have b3 : decide (U > D) = false := by simp; omega
            have MZ := Lib.hid (show Mi = 0 by have h1 := MD.out; omega)
            go_wp2
            go_roundw
            case rel => exact ⟨i + 1, by go_num, by omega, by rw [SS1.out, MZ.out, Int.add_zero], BQ.out⟩
            case measure => simp [intOf]; omega
      · have b1 : decide (i < len) = false := by simp; omega
        have b2 : decide ((i : Int) < (len : Int)) = false := by simp; omega
        have EQ := Lib.hid (show sumN i (missI s t) = missedV s t by rw [V.out, show s.n = i by omega])
        go_wp2
        go_ret
        exact ⟨ret_one EQ.out, B.out⟩
end Go.Proofs.Ytnlgophgglgneaa
