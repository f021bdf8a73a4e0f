/-
  Package rule as landed: what is greatest, what kind a weight is, where its last subtask ends: contracts.
-/
import Derived.Test.YtidfldngiagpdaaRu0
import Derived.BigQuiet
import Derived.StillTailTactics
import Derived.KernelRfl
namespace Go.Proofs.Ytidfldngiagpdaa
open Go.RowKit

/-! ### the greatest number -/
/-- a closure that has found m so far, whose blocks are p and q -/
structure Gr (W : World) (p q : Nat) (m : Int) : Prop where
  f : Blk W 55 p #[.func (.func 24) #[] #[]]
  m : Blk W 2 q #[.int .i64 m]
def grV (p q : Nat) : Value := .func (.func 32) #[] #[.pointer (some ⟨p, 0, none⟩), .pointer (some ⟨q, 0, none⟩)]
theorem Gr.below {W W' : World} {p q : Nat} {m : Int} (h : Gr W p q m) (hb : Below W.heap.size W W') : Gr W' p q m := ⟨h.f.below hb, h.m.below hb⟩
theorem above_any (a b : Int) (w : World) : Calls Try.prog 24 #[.int .i64 a, .int .i64 b] w fun e w' => e = .returned (.bool (decide (b < a))) ∧ w = w' := by
  go_enter Try.func24, Try.ntmps24
  go_wp2
  go_ret
  exact ⟨rfl, rfl⟩
theorem gr_new (m : Int) (w : World) : Calls Try.prog 23 #[.int .i64 m, .func (.func 24) #[] #[]] w fun e w' => ∃ p q, e = .returned (grV p q) ∧ Gr w' p q m ∧ w.heap.size ≤ q ∧ Below w.heap.size w w' := by
  have hmf : ∀ (fn : Fn) (first cap : Array Value) (w : World), (Instr.makeFunc fn first cap).run Try.prog w = .ok (.func fn first cap) w := fun _ _ _ _ => rfl
  go_enter Try.func23, Try.ntmps23
  go_wp2
  go_ret
  refine ⟨_, _, rfl, ⟨(Blk.new w _ _).alloc _, Blk.new2 w _ _ _⟩, by omega, wbox2 _ _ _⟩
theorem gr_ask (p q : Nat) (m n v : Int) (n0 : Nat) (w : World) (h : Gr w p q m) (hq : n0 ≤ q) (hv : (if m < n then n else m) = v) : Calls Try.prog 32 #[.int .i64 n, .pointer (some ⟨p, 0, none⟩), .pointer (some ⟨q, 0, none⟩)] w fun e w' => e = .returned (.int .i64 v) ∧ Below n0 w w' := by
  have c1 := h.f.cell 0
  have c2 := h.m.cell 0
  have c3 := h.m.free 0
  simp at c1 c2
  subst hv
  by_cases hm : m < n
  · have d : decide (m < n) = true := decide_eq_true hm
    rw [if_pos hm]
    clear hm
    go_enter Try.func32, Try.ntmps32
    go_wp2_with fail
    refine (above_any n m _).mono ?_
    rintro e w' ⟨rfl, rfl⟩
    go_wp2
    go_ret
    refine ⟨rfl, ?_⟩
    exact (Below.refl _ _).setCell hq _
  · have d : decide (m < n) = false := decide_eq_false hm
    rw [if_neg hm]
    clear hm
    go_enter Try.func32, Try.ntmps32
    go_wp2_with fail
    refine (above_any n m _).mono ?_
    rintro e w' ⟨rfl, rfl⟩
    go_wp2
    go_ret
    exact ⟨rfl, Below.refl _ _⟩

/-! ### kinds of weights -/
def kindT (E P : Int) : TypeId := if P ≤ 2 * E then 61 else 62
theorem kind_any (E P : Int) (w : World) (hM : MayBe E P) : Calls Try.prog 22 #[.agg #[.int .i64 E, .int .i64 P]] w fun e w' => e = .returned (.iface (kindT E P) (.agg #[.int .i64 E, .int .i64 P])) ∧ Below w.heap.size w w' := by
  have HM := Lib.hid hM
  have K := Lib.hid (Blk.new w 25 #[.int .i64 E, .int .i64 P])
  have k0 := K.out.cell 0
  have k1 := K.out.cell 1
  simp at k0 k1
  by_cases hh : P ≤ 2 * E
  · have d : decide (P ≤ 2 * E) = true := decide_eq_true hh
    unfold kindT
    rw [if_pos hh]
    clear hh hM
    go_enter Try.func22, Try.ntmps22
    go_wp2_with fail
    refine (wheavy_yes E P _ HM.out true d.symm).mono ?_
    rintro e w1 ⟨rfl, hb⟩
    have K := Lib.hid (K.out.below hb)
    have B := Lib.hid (below_next (wbox _ _) hb)
    clear hb k0 k1
    have k0 := K.out.cell 0
    have k1 := K.out.cell 1
    simp at k0 k1
    go_wp2
    go_ret
    exact ⟨rfl, B.out⟩
  · have d : decide (P ≤ 2 * E) = false := decide_eq_false hh
    unfold kindT
    rw [if_neg hh]
    clear hh hM
    go_enter Try.func22, Try.ntmps22
    go_wp2_with fail
    refine (wheavy_yes E P _ HM.out false d.symm).mono ?_
    rintro e w1 ⟨rfl, hb⟩
    have K := Lib.hid (K.out.below hb)
    have B := Lib.hid (below_next (wbox _ _) hb)
    clear hb k0 k1
    have k0 := K.out.cell 0
    have k1 := K.out.cell 1
    simp at k0 k1
    go_wp2_with fail
    refine (wcheck_yes E P _ HM.out).mono ?_
    rintro e w2 ⟨rfl, hb⟩
    have K := Lib.hid (K.out.below hb)
    have B := Lib.hid (below_next B.out hb)
    clear hb k0 k1
    have k0 := K.out.cell 0
    have k1 := K.out.cell 1
    simp at k0 k1
    go_wp2
    go_ret
    exact ⟨rfl, B.out⟩
theorem heavy_period (E P : Int) (w : World) : Calls Try.prog 52 #[.agg #[.int .i64 E, .int .i64 P]] w fun e w' => e = .returned (.int .i64 P) ∧ Below w.heap.size w w' := by
  go_enter Try.func52, Try.ntmps52
  go_wp2
  go_ret
  exact ⟨rfl, wbox _ _⟩
theorem light_period (E P : Int) (w : World) : Calls Try.prog 53 #[.agg #[.int .i64 E, .int .i64 P]] w fun e w' => e = .returned (.int .i64 P) ∧ Below w.heap.size w w' := by
  go_enter Try.func53, Try.ntmps53
  go_wp2
  go_ret
  exact ⟨rfl, wbox _ _⟩
theorem bound_any (E P : Int) (w : World) (hM : MayBe E P) : Calls Try.prog 12 #[.agg #[.int .i64 E, .int .i64 P]] w fun z w' => z = .returned (.int .i64 P) ∧ Below w.heap.size w w' := by
  have i1 : ∀ (x : Value) (w : World), (invoke (.fn (.method "regatta/rule.period") #[]) #[.iface 61 x]).run Try.prog w = .ok (.enter 52 #[x]) w := by intro x w; kernel_rfl
  have i2 : ∀ (x : Value) (w : World), (invoke (.fn (.method "regatta/rule.period") #[]) #[.iface 62 x]).run Try.prog w = .ok (.enter 53 #[x]) w := by intro x w; kernel_rfl
  have HM := Lib.hid hM
  have K := Lib.hid (kind_any E P (w.alloc (.cells #[.int .i64 E, .int .i64 P] 25)) hM)
  clear hM
  obtain ⟨k, hk⟩ : ∃ k, kindT E P = k := ⟨_, rfl⟩
  have HK := Lib.hid (show k = 61 ∨ k = 62 by rw [← hk]; unfold kindT; split; exact .inl rfl; exact .inr rfl)
  rw [hk] at K
  clear hk
  go_enter Try.func12, Try.ntmps12
  go_wp2_with fail
  refine K.out.mono ?_
  rintro e w1 ⟨rfl, hb⟩
  have B := Lib.hid (below_next (wbox _ _) hb)
  clear hb
  rcases HK.out with rfl | rfl
  · go_wp2_with fail
    refine (heavy_period E P _).mono ?_
    rintro e w2 ⟨rfl, hb⟩
    have B := Lib.hid (below_next B.out hb)
    clear hb
    go_wp2
    go_ret
    exact ⟨rfl, B.out⟩
  · go_wp2_with fail
    refine (light_period E P _).mono ?_
    rintro e w2 ⟨rfl, hb⟩
    have B := Lib.hid (below_next B.out hb)
    clear hb
    go_wp2
    go_ret
    exact ⟨rfl, B.out⟩
end Go.Proofs.Ytidfldngiagpdaa
