/-
  The walk of the law PlaceLeast.
-/
import Derived.Test.YtokmkfoofgiddaaPb4
import Derived.Test.YtokmkfoofgiddaaPb5
namespace Go.Proofs.Ytokmkfoofgiddaa
open Go.RowKit

theorem and3_bd (x : Int) : 0 ≤ bits .and .i64 x 3 ∧ bits .and .i64 x 3 ≤ 3 := by
  have h : (BitVec.ofInt 64 x &&& BitVec.ofInt 64 3).toNat ≤ 3 := by
    rw [BitVec.toNat_and]
    exact Nat.and_le_right
  have e : bits .and .i64 x 3 = ((BitVec.ofInt 64 x &&& BitVec.ofInt 64 3).toNat : Int) := by
    show IntKind.i64.wrap ((BitVec.ofInt 64 x &&& BitVec.ofInt 64 3).toNat : Int) = _
    exact IntWalk.i64_in _ (by omega)
  omega
theorem holds_asg {l : List Rn} {n : Nat} (h : MayR l n) : holdsB l (asgL l n) n = true := by
  rw [(asg_yes h).1]
  exact holdsB_yes (mayB_yes h) (assign_on h)
set_option maxRecDepth 20000 in
set_option maxHeartbeats 4000000 in
theorem pleast_walk (a : Option Addr) (len cap : Nat) (ps : List (Int × Int)) (m : Int) (w : World) (h : RowQ w a len cap ps) :
    Calls Try.prog 4 #[.slice a len cap, .int .i64 m] w fun e w' => e = .returned (.bool true) ∧ Below w.heap.size w w' := by
  have H := Lib.hid h
  clear h
  obtain ⟨t0, t1⟩ := and3_bd m
  obtain ⟨K, hK⟩ : ∃ K, bits .and .i64 m 3 = K := ⟨_, rfl⟩
  rw [hK] at t0 t1
  obtain ⟨n, hN⟩ : ∃ n : Nat, 1 + K = (n : Int) := ⟨(1 + K).toNat, by omega⟩
  have n1 : 1 ≤ n := by omega
  have n4 : n ≤ 4 := by omega
  go_enter Try.func4, Try.ntmps4
  go_wp2_with fail
  refine (awake15_any _).mono ?_
  rintro e w1 ⟨rfl, hb⟩
  have B1 := Lib.hid hb
  clear hb
  go_wp2_with fail
  refine (made15_any a len cap ps n w1 (H.out.below B1.out) (by omega) (by omega)).mono ?_
  rintro e w2 ⟨am, lm, cm, rs, rfl, hr, hmay, hb⟩
  have R := Lib.hid hr
  have MY := Lib.hid hmay
  have B := Lib.hid (below_next B1.out hb)
  have LR := Lib.hid hr.len
  have l4 : lm ≤ 4 := by have h1 := hmay.few; rw [hr.len] at h1; omega
  have HA := Lib.hid (holds_asg hmay)
  have AY := Lib.hid (asg_yes hmay)
  have BI := Lib.hid (best_is hmay (by rw [hr.len]; omega))
  rw [LR.out] at BI
  clear hr hmay hb hK hN t0 t1
  go_wp2_with fail
  refine (passign_any am lm cm rs n w2 R.out).mono ?_
  rintro e w3 ⟨ao, lo, co, rfl, hr, hb⟩
  rw [AY.out.2]
  have O := Lib.hid hr
  have B := Lib.hid (below_next B.out hb)
  have R := Lib.hid (R.out.below hb)
  clear hr hb
  go_wp2_with fail
  refine (r15holds_any am lm cm rs ao lo co _ n w3 R.out O.out).mono ?_
  rintro e w4 ⟨rfl, hb⟩
  rw [HA.out]
  have O := Lib.hid (O.out.below hb)
  have B := Lib.hid (below_next B.out hb)
  have R := Lib.hid (R.out.below hb)
  clear hb
  go_wp2_with fail
  refine (pholds_any am lm cm rs ao lo co _ n w4 R.out O.out).mono ?_
  rintro e w5 ⟨rfl, hb⟩
  rw [HA.out]
  have O := Lib.hid (O.out.below hb)
  have B := Lib.hid (below_next B.out hb)
  have R := Lib.hid (R.out.below hb)
  clear hb
  go_wp2_with fail
  refine (pmoves_any am lm cm rs ao lo co _ w5 R.out O.out (by omega)).mono ?_
  rintro e w6 ⟨rfl, hb⟩
  have O := Lib.hid (O.out.below hb)
  have B := Lib.hid (below_next B.out hb)
  have R := Lib.hid (R.out.below hb)
  clear hb
  go_wp2_with fail
  refine (r15best_any am lm cm rs n (by omega) (by omega) lm [] none 0 0 w6 R.out Row.nil (by omega)).mono ?_
  rintro e w7 ⟨rfl, hb⟩
  rw [BI.out, AY.out.1]
  have O := Lib.hid (O.out.below hb)
  have B := Lib.hid (below_next B.out hb)
  have R := Lib.hid (R.out.below hb)
  clear hb
  rw [AY.out.1] at O
  go_wp2_with fail
  refine (pleast_any am lm cm rs n w7 R.out).mono ?_
  rintro e w8 ⟨rfl, hb⟩
  rw [AY.out.1]
  have O := Lib.hid (O.out.below hb)
  have B := Lib.hid (below_next B.out hb)
  have R := Lib.hid (R.out.below hb)
  clear hb
  go_wp2_with fail
  refine (pmoves_any am lm cm rs ao lo co _ w8 R.out O.out (by omega)).mono ?_
  rintro e w9 ⟨rfl, hb⟩
  have B := Lib.hid (below_next B.out hb)
  clear hb
  go_wp2
  go_ret
  exact ⟨rfl, B.out⟩
end Go.Proofs.Ytokmkfoofgiddaa
