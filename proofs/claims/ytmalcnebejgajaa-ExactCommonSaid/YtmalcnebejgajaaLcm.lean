/-
  What Lcm gives back, of exact and of the document's answer: contracts.
-/
import Derived.Test.YtmalcnebejgajaaGcd
namespace Go.Proofs.Ytmalcnebejgajaa
open Go.RowKit

theorem drop_at {zs : List Int} {k : Nat} (h : k < zs.length) : zs.drop k = zs.getD k 0 :: zs.drop (k + 1) := by
  rw [List.drop_eq_getElem_cons h, List.getD_eq_getElem?_getD, List.getElem?_eq_getElem h]; rfl
theorem fits_at {zs : List Int} (hz : ∀ z ∈ zs, Fits z) (k : Nat) : Fits (zs.getD k 0) := by
  by_cases h : k < zs.length
  · rw [List.getD_eq_getElem?_getD, List.getElem?_eq_getElem h]; exact hz _ (List.getElem_mem h)
  · rw [List.getD_eq_getElem?_getD, List.getElem?_eq_none (by omega)]; decide

theorem lcm_row (zs : List Int) (b off cap : Nat) (w : World) (hz : ∀ z ∈ zs, Fits z) (hl : zs.length ≤ 9223372036854775807)
    (hc : ∀ i, i < zs.length → w.cell? ⟨b, off + i, none⟩ = some (.int .i64 (zs.getD i 0))) :
    Calls Try.prog 22 #[.slice (some ⟨b, off, none⟩) zs.length cap] w fun e w' => e = .returned (.tuple #[.int .i64 (rowL 1 zs).1, .int .i64 (rowL 1 zs).2]) ∧ ∃ n, w' = w.drewN n := by
  obtain ⟨len, hlen⟩ : ∃ len, zs.length = len := ⟨_, rfl⟩
  rw [hlen] at hl hc ⊢
  have HZ := Lib.hid hz
  have HC := Lib.hid hc
  have HL := Lib.hid hlen
  clear hz hc hlen
  go_enter Try.func22, Try.ntmps22
  go_wp2
  go_step3
  go_wp2
  go_step3
  go_wp2
  go_loopw [4, 5, 10] (fun u v i wr => ∃ A : Int, ∃ k n : Nat, 0 < A ∧ A ≤ 9223372036854775807 ∧ k ≤ len ∧ rowL A (zs.drop k) = rowL 1 zs ∧ u = .int .i64 A ∧ v = .int .i64 0 ∧ i = .int .i64 k ∧ wr = w.drewN n) (fun _ _ i _ => len - (intOf i).toNat)
  case atStart => exact ⟨1, 0, 0, by omega, by omega, by omega, rfl, rfl, rfl, rfl, rfl⟩
  case round =>
    obtain ⟨A, k, n, hA, hA', hk, hr, rfl, rfl, rfl, rfl⟩ := hrel
    by_cases h : k < len
    · have hd := drop_at (zs := zs) (k := k) (by rw [HL.out]; exact h)
      have hz := fits_at HZ.out k
      have hcell := HC.out k h
      obtain ⟨z, hz0⟩ : ∃ z, zs.getD k 0 = z := ⟨_, rfl⟩
      rw [hz0] at hd hz hcell
      rw [hd] at hr
      clear hz0 hd
      by_cases g : le A z = 0
      · have ⟨g1, g2⟩ := (le_zero hA g).2.2.2
        rw [rowL_step g] at hr
        have HR := Lib.hid hr
        have G := Lib.hid g
        have g3 : (le A z != 0) = false := by simp [g]
        clear hr g
        go_wp2_with (go_at_call 26; refine (multiple_any _ _ _ (by omega) (by omega) hz).mono ?_; rintro e w' ⟨rfl, m, rfl⟩)
        go_roundw
        case rel => exact ⟨lv A z, k + 1, _, by omega, g2, by omega, HR.out, rfl, by rw [G.out], by go_num, rfl⟩
        case measure => simp [intOf]; omega
      · rw [rowL_stop g] at hr
        have HR := Lib.hid hr
        have G := Lib.hid (le_not g)
        have g3 : (le A z != 0) = true := by simp [g]
        clear hr g
        go_wp2_with (go_at_call 26; refine (multiple_any _ _ _ (by omega) (by omega) hz).mono ?_; rintro e w' ⟨rfl, m, rfl⟩)
        try rw [Exit.noGoto_ret]
        go_ret2
        exact ⟨ret_two (by rw [← HR.out]; exact G.out) (by rw [← HR.out]), _, rfl⟩
    · obtain rfl : k = len := by omega
      rw [List.drop_eq_nil_of_le (by rw [HL.out]; omega)] at hr
      have HR := Lib.hid hr
      clear hr
      go_wp2
      try rw [Exit.noGoto_ret]
      go_ret2
      exact ⟨ret_two (by rw [← HR.out]; rfl) (by rw [← HR.out]; rfl), _, rfl⟩

theorem lcm_none (a : Option Addr) (cap : Nat) (w : World) :
    Calls Try.prog 22 #[.slice a 0 cap] w fun e w' => e = .returned (.tuple #[.int .i64 1, .int .i64 0]) ∧ ∃ n, w' = w.drewN n := by
  go_enter Try.func22, Try.ntmps22
  go_wp2
  go_step3
  go_wp2
  go_step3
  go_wp2
  go_loopw [4, 5, 10] (fun u v i wr => u = .int .i64 1 ∧ v = .int .i64 0 ∧ i = .int .i64 0 ∧ wr = w) (fun _ _ _ _ => 0)
  case atStart => exact ⟨rfl, rfl, rfl, rfl⟩
  case round =>
    obtain ⟨rfl, rfl, rfl, rfl⟩ := hrel
    go_wp2
    try rw [Exit.noGoto_ret]
    go_ret2
    exact ⟨rfl, 0, rfl⟩

theorem ref_lcm_none (a : Option Addr) (cap : Nat) (w : World) :
    Calls Try.prog 23 #[.slice a 0 cap] w fun e w' => e = .returned (.tuple #[.int .i64 1, .int .i64 0]) ∧ ∃ n, w' = w.drewN n := by
  go_enter Try.func23, Try.ntmps23
  go_wp2
  go_loopw [4, 5] (fun u i wr => u = .int .i64 1 ∧ i = .int .i64 0 ∧ wr = w) (fun _ _ _ => 0)
  case atStart => exact ⟨rfl, rfl, rfl⟩
  case round =>
    obtain ⟨rfl, rfl, rfl⟩ := hrel
    go_wp2
    go_ret2
    exact ⟨rfl, 0, rfl⟩

theorem quiet_left {P : Program} {f : FuncId} {args : Array Value} {w : World} {n : Nat} {v : Value}
    (h : Calls P f args (w.drewN n) fun e w' => e = .returned v ∧ w.drewN n = w') : Calls P f args (w.drewN n) fun e w'' => e = .returned v ∧ ∃ m, w'' = w.drewN m :=
  h.mono fun _ _ ⟨he, hm⟩ => ⟨he, n, hm.symm⟩
theorem quiet_add_left {P : Program} {f : FuncId} {args : Array Value} {w : World} {a n : Nat} {v : Value}
    (h : Calls P f args (w.drewN (a + n)) fun e w' => e = .returned v ∧ w.drewN (a + n) = w') :
    Calls P f args (w.drewN (a + n)) fun e w'' => e = .returned v ∧ ∃ m, w'' = w.drewN (a + m) :=
  h.mono fun _ _ ⟨he, hm⟩ => ⟨he, n, hm.symm⟩

theorem ref_lcm_row (zs : List Int) (b off cap : Nat) (w : World) (hz : ∀ z ∈ zs, Fits z) (hl : zs.length ≤ 9223372036854775807)
    (hc : ∀ i, i < zs.length → w.cell? ⟨b, off + i, none⟩ = some (.int .i64 (zs.getD i 0))) :
    Calls Try.prog 23 #[.slice (some ⟨b, off, none⟩) zs.length cap] w fun e w' => e = .returned (.tuple #[.int .i64 (rowL 1 zs).1, .int .i64 (rowL 1 zs).2]) ∧ ∃ n, w' = w.drewN n := by
  obtain ⟨len, hlen⟩ : ∃ len, zs.length = len := ⟨_, rfl⟩
  rw [hlen] at hl hc ⊢
  have HZ := Lib.hid hz
  have HC := Lib.hid hc
  have HL := Lib.hid hlen
  clear hz hc hlen
  go_enter Try.func23, Try.ntmps23
  go_wp2
  go_loopw [4, 5] (fun u i wr => ∃ A : Int, ∃ k n : Nat, 0 < A ∧ A ≤ 9223372036854775807 ∧ k ≤ len ∧ rowL A (zs.drop k) = rowL 1 zs ∧ u = .int .i64 A ∧ i = .int .i64 k ∧ wr = w.drewN n) (fun _ i _ => len - (intOf i).toNat)
  case atStart => exact ⟨1, 0, 0, by omega, by omega, by omega, rfl, rfl, rfl, rfl⟩
  case round =>
    obtain ⟨A, k, n, hA, hA', hk, hr, rfl, rfl, rfl⟩ := hrel
    by_cases h : k < len
    · have hd := drop_at (zs := zs) (k := k) (by rw [HL.out]; exact h)
      have hz := fits_at HZ.out k
      have hcell := HC.out k h
      obtain ⟨z, hz0⟩ : ∃ z, zs.getD k 0 = z := ⟨_, rfl⟩
      rw [hz0] at hd hz hcell
      rw [hd] at hr
      have ⟨z1, z2⟩ := hz
      clear hz0 hd
      by_cases hz1 : z < 1
      · rw [rowL_stop (by rw [le_no hz1]; omega), le_no hz1] at hr
        have HR := Lib.hid hr
        clear hr hz
        go_wp2
        go_ret2
        exact ⟨ret_two (by rw [← HR.out]) (by rw [← HR.out]), _, rfl⟩
      · have e1 := Lib.hid (lv_up (a := A) (show 1 ≤ z by omega))
        have e2 := Lib.hid (le_up (a := A) (show 1 ≤ z by omega))
        have e3 : Hid (ge A z = 0) := Lib.hid (show ge A z = 0 from if_neg (by omega))
        have e4 : Hid (gv A z = gc A z) := Lib.hid (show gv A z = gc A z from if_neg (by omega))
        have hg := gc_pos (b := z) hA
        have ⟨q1, q2⟩ := quo_bd hA hg gc_dvd
        by_cases g : le A z = 0
        · have ⟨g1, g2⟩ := (le_zero hA g).2.2.2
          rw [rowL_step g] at hr
          have HR := Lib.hid hr
          rw [e2.out] at g
          have g3 : (te (A / gc A z * z) != 0) = false := by simp only [lc] at g; simp [g]
          clear hr g hz
          go_wp2_with (go_at_call 21; refine (ref_gcd _ _ _ (by unfold Fits; omega) (by unfold Fits; omega)).mono ?_; rintro e w' ⟨rfl, rfl⟩; rw [e4.out])
          have d1 : ¬ gc A z = 0 := by omega
          have d2 : (gc A z == 0) = false := by simp; omega
          have d3 : A.tdiv (gc A z) = A / gc A z := Int.tdiv_eq_ediv_of_nonneg (by omega)
          have d4 : IntKind.i64.wrap (A / gc A z) = A / gc A z := IntWalk.i64_in _ (by omega)
          go_quiet ((go_at_call 15; exact quiet_add_left (ref_mul _ _ _ (by unfold Fits; omega) (by unfold Fits; omega))))
          all_goals
            go_wp2
            go_roundw
            case rel => exact ⟨lv A z, k + 1, _, by omega, g2, by omega, HR.out, by rw [e1.out]; rfl, by go_num, rfl⟩
            case measure => simp [intOf]; omega
        · rw [rowL_stop g] at hr
          have HR := Lib.hid hr
          rw [e2.out] at g
          have g3 : (te (A / gc A z * z) != 0) = true := by simp only [lc] at g; simp [g]
          clear hr g hz
          go_wp2_with (go_at_call 21; refine (ref_gcd _ _ _ (by unfold Fits; omega) (by unfold Fits; omega)).mono ?_; rintro e w' ⟨rfl, rfl⟩; rw [e4.out])
          have d1 : ¬ gc A z = 0 := by omega
          have d2 : (gc A z == 0) = false := by simp; omega
          have d3 : A.tdiv (gc A z) = A / gc A z := Int.tdiv_eq_ediv_of_nonneg (by omega)
          have d4 : IntKind.i64.wrap (A / gc A z) = A / gc A z := IntWalk.i64_in _ (by omega)
          go_quiet ((go_at_call 15; exact quiet_add_left (ref_mul _ _ _ (by unfold Fits; omega) (by unfold Fits; omega))))
          all_goals
            go_wp2
            go_ret2
            exact ⟨ret_two (by rw [← HR.out]) (by rw [← HR.out, e2.out]; rfl), _, rfl⟩
    · obtain rfl : k = len := by omega
      rw [List.drop_eq_nil_of_le (by rw [HL.out]; omega)] at hr
      have HR := Lib.hid hr
      clear hr
      go_wp2
      go_ret2
      exact ⟨ret_two (by rw [← HR.out]; rfl) (by rw [← HR.out]; rfl), _, rfl⟩
end Go.Proofs.Ytmalcnebejgajaa
