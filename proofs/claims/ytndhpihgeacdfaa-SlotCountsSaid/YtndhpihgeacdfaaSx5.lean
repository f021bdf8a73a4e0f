/-
  The walk of the law SlotCounts.
-/
import Derived.Test.YtndhpihgeacdfaaSx4
namespace Go.Proofs.Ytndhpihgeacdfaa
open Go.RowKit

theorem all_few {l : List Sk} (h : l.length ≤ 12) (g : ∀ s ∈ l, s.runs.length ≤ 8) : (allR l).length ≤ 96 := by
  have : ∀ l : List Sk, (∀ s ∈ l, s.runs.length ≤ 8) → (allR l).length ≤ 8 * l.length := by
    intro l
    induction l with
    | nil => simp [allR]
    | cons s l ih =>
      intro g
      have e : allR (s :: l) = s.runs ++ allR l := by unfold allR; simp
      have h1 := g s List.mem_cons_self
      have h2 := ih fun x hx => g x (List.mem_cons_of_mem _ hx)
      rw [e, List.length_append, List.length_cons]
      omega
  have := this l g
  omega
theorem made_few (f : Int) (l : List (List Int)) : (allR (madeV f l)).length ≤ 96 := by
  refine all_few (made_small f l).2 fun s hs => ?_
  obtain ⟨j, hj, rfl⟩ := List.getElem_of_mem hs
  obtain ⟨_, zs, he⟩ := made_at (List.getElem?_eq_getElem hj)
  rw [he]
  show (runsM 0 (-1) _).length ≤ 8
  rw [runsM_len, List.length_take]; omega
theorem sumQ_le (l : List Ru) : ∀ n : Nat, sumQ l n ≤ n * l.length
  | 0 => by simp [sumQ]
  | n + 1 => by
    have h1 := sumQ_le l n
    have h2 := qu_le l (n : Int)
    rw [sumQ, Nat.add_mul, Nat.one_mul]
    omega
set_option maxRecDepth 20000 in
set_option maxHeartbeats 4000000 in
theorem scounts_walk (at_ : Int) (b : Option Addr) (lb cb : Nat) (zs : List (List Int)) (m : Int) (w : World) (g : RowN w b lb cb zs) (hw : ∀ z ∈ zs, ∀ x ∈ z, (Lit.int .i64 x).wf = true) :
    Calls Try.prog 6 #[.int .i64 at_, .slice b lb cb, .int .i64 m] w fun e w' => e = .returned (.bool true) ∧ Below w.heap.size w w' := by
  have G := Lib.hid g
  have WF := Lib.hid hw
  clear g hw
  have ⟨n0, n1⟩ := and_low m 15 (by omega) (by omega)
  obtain ⟨v, hv⟩ : ∃ v, bits .and .i64 m 15 = v := ⟨_, rfl⟩
  rw [hv] at n0 n1
  have wn : IntKind.i64.wrap (64 + v) = 64 + v := IntWalk.i64_in _ (by omega)
  have ⟨f0, f1⟩ := and_low at_ 1073741823 (by omega) (by omega)
  go_enter Try.func6, Try.ntmps6
  go_wp2_with fail
  refine (awake16_any w).mono ?_
  rintro e w0 ⟨rfl, hb⟩
  have B0 := Lib.hid hb
  clear hb
  go_wp2_with fail
  refine (made16_any at_ b lb cb zs _ (G.out.below B0.out) WF.out).mono ?_
  rintro e w1 ⟨⟨ba, na, ca, rfl, hr, -⟩, hb⟩
  have B1 := Lib.hid (below_next B0.out hb)
  have R1 := Lib.hid hr
  have MR := Lib.hid (fun (m : Int) (m0 : 64 ≤ m) (m1 : m ≤ 1024) => made_row (l := zs) f0 f1 m0 m1)
  have MI := Lib.hid (made_ids (f := bits .and .i64 at_ 1073741823) (l := zs))
  have MF := made_few (bits .and .i64 at_ 1073741823) zs
  have ⟨ms, ml⟩ := made_small (bits .and .i64 at_ 1073741823) zs
  have MS := Lib.hid ms
  obtain ⟨R, hR⟩ : ∃ R, madeV (bits .and .i64 at_ 1073741823) zs = R := ⟨_, rfl⟩
  rw [hR] at R1 MR MI MF MS ml
  have LN := Lib.hid R1.out.len
  clear hb hr hR ms f0 f1
  go_wp2_with fail
  try rw [hv]
  clear hv
  refine (pempty_any ba na ca R (64 + v) w1 R1.out MS.out).mono ?_
  rintro e w2 ⟨rfl, hb⟩
  have B2 := Lib.hid (below_next B1.out hb)
  have R2 := Lib.hid (R1.out.below hb)
  have EV := Lib.hid (show emV R (64 + v) = emS R (64 + v) by unfold emV; rw [rowB_yes (MR.out (64 + v) (by omega) (by omega)), if_pos rfl])
  have EA := em_all R (64 + v)
  have EL : (64 + v) * (R.length : Int) ≤ 79 * 12 ∧ 0 ≤ (64 + v) * (R.length : Int) := by
    constructor
    · exact Int.le_trans (Int.mul_le_mul_of_nonneg_right (by omega) (by omega)) (Int.mul_le_mul_of_nonneg_left (by omega) (by omega))
    · exact Int.mul_nonneg (by omega) (by omega)
  obtain ⟨T, hT⟩ : ∃ T, (64 + v) * (R.length : Int) = T := ⟨_, rfl⟩
  rw [hT] at EA EL
  rw [LN.out] at hT
  have HT := Lib.hid hT
  rw [EV.out]
  obtain ⟨E, hE⟩ : ∃ E, emS R (64 + v) = E := ⟨_, rfl⟩
  rw [hE] at EA ⊢
  obtain ⟨Q, hQ⟩ : ∃ Q, allR R = Q := ⟨_, rfl⟩
  have SA := Lib.hid (sumQ_all Q 256 (fun r hr => by have := MI.out r (by rw [hQ]; exact hr); omega))
  rw [hQ] at EA MF
  have HQ := Lib.hid hQ
  clear hb hT hE hQ
  go_wp2
  go_loopw [10, 11] (fun s u wr => ∃ i : Nat, u = .int .i64 i ∧ i ≤ 256 ∧ s = .int .i64 (E + (sumQ Q i : Nat)) ∧ Below w2.heap.size w2 wr) (fun _ u _ => 256 - (intOf u).toNat)
  case atStart => exact ⟨0, rfl, by omega, by simp [sumQ], Below.refl _ _⟩
  case round =>
    obtain ⟨i, rfl, i1, rfl, hb⟩ := hrel
    have B3 := Lib.hid hb
    clear hb
    have SL := sumQ_le Q i
    have SL2 : i * Q.length ≤ 256 * 96 := Nat.mul_le_mul i1 MF
    by_cases go : i < 256
    · have b1 : decide ((i : Int) < 256) = true := by simp; omega
      have b1' : decide (i < 256) = true := by simp; omega
      have QL := qu_le Q (i : Int)
      have ML := mv_lt Q (i : Int)
      have SN := Lib.hid (show sumQ Q (i + 1) = sumQ Q i + quU Q (i : Int) from rfl)
      go_wp2_with fail
      refine (pquanta_any ba na ca R i wr (R2.out.below B3.out) MS.out).mono ?_
      rintro e w4 ⟨rfl, hb⟩
      have B4 := Lib.hid (below_next B3.out hb)
      clear hb
      go_wp2_with fail
      refine (pmoves_any ba na ca R i w4 (R2.out.below B4.out) MS.out).mono ?_
      rintro e w5 ⟨rfl, hb⟩
      have B5 := Lib.hid (below_next B4.out hb)
      clear hb
      rw [HQ.out]
      obtain ⟨q, hq⟩ : ∃ q, quU Q (i : Int) = q := ⟨_, rfl⟩
      obtain ⟨k, hk⟩ : ∃ k, (mvU Q (i : Int)).1 = k := ⟨_, rfl⟩
      rw [hq] at QL SN ML ⊢
      rw [hk] at ML ⊢
      obtain ⟨S, hS⟩ : ∃ S, sumQ Q i = S := ⟨_, rfl⟩
      rw [hS] at SL SN ⊢
      clear hq hk hS
      have v1 : IntKind.i64.wrap (E + (S : Int) + (q : Int)) = E + (S : Int) + (q : Int) := IntWalk.i64_in _ (by omega)
      have d1 : decide ((k : Int) < 0) = false := by simp
      by_cases z : q = 0
      · have d2 : ((q : Int) == 0) = true := by simp [z]
        have k0 : k = 0 := by omega
        have d3 : ((k : Int) != 0) = false := by simp [k0]
        have d4 : decide (0 < (q : Int)) = false := by simp; omega
        have d4' : decide (0 < q) = false := by simp; omega
        clear z k0 ML
        go_wp2
        go_roundw
        case rel => exact ⟨i + 1, by go_num, by omega, by rw [SN.out, Int.natCast_add, Int.add_assoc], B5.out⟩
        case measure => simp [intOf]; omega
      · have d2 : ((q : Int) == 0) = false := by simp; omega
        have d4 : decide (0 < (q : Int)) = true := by simp; omega
        have d4' : decide (0 < q) = true := by simp; omega
        have v2 : IntKind.i64.wrap ((q : Int) - 1) = (q : Int) - 1 := IntWalk.i64_in _ (by omega)
        have d5 : decide ((q : Int) - 1 < (k : Int)) = false := by simp; omega
        clear ML
        go_wp2
        go_roundw
        case rel => exact ⟨i + 1, by go_num, by omega, by rw [SN.out, Int.natCast_add, Int.add_assoc], B5.out⟩
        case measure => simp [intOf]; omega
    · have b1 : decide ((i : Int) < 256) = false := by simp; omega
      have b1' : decide (i < 256) = false := by simp; omega
      obtain rfl : i = 256 := by omega
      have BF := Lib.hid (below_next B2.out B3.out)
      rw [SA.out] at SL ⊢
      have wm : IntKind.i64.wrap ((64 + v) * (na : Int)) = T := by rw [HT.out]; exact IntWalk.i64_in _ (by omega)
      have d1 : (E + (Q.length : Int) == T) = true := by simp; omega
      go_wp2
      go_ret
      exact ⟨rfl, BF.out⟩
end Go.Proofs.Ytndhpihgeacdfaa
