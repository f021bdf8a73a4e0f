/-
  What the document's own Runs and Follows (regattaref09) give back: contracts.
-/
import Derived.Test.YtnmiiebfpeoafaaFl3
import Derived.Test.YtnmiiebfpeoafaaFl9
namespace Go.Proofs.Ytnmiiebfpeoafaa
open Go.RowKit

set_option maxHeartbeats 1000000 in
theorem r9runs_any (a : Option Addr) (len cap : Nat) (bs : List Bool) (hlen : len ≤ 4611686018427387904) (w : World) (hR : RowB w a len cap bs) (v : Int) (hv : runsI bs = v) :
    Calls Try.prog 26 #[.slice a len cap] w fun e w' => e = .returned (.int .i64 v) ∧ w = w' := by
  subst hv
  have R := Lib.hid hR
  clear hR
  go_enter Try.func26, Try.ntmps26
  go_wp2
  go_loopw [3, 4] (fun n i wr => ∃ k : Nat, k ≤ len ∧ i = .int .i64 (k : Int) ∧ n = .int .i64 (runsI (bs.take k)) ∧ w = wr) (fun _ i _ => len - (intOf i).toNat)
  case atStart => exact ⟨0, Nat.zero_le _, rfl, rfl, rfl⟩
  case round =>
    obtain ⟨k, hk, rfl, rfl, rfl⟩ := hrel
    obtain ⟨r0, r1⟩ := runs_take_bd bs k
    by_cases hlt : k < len
    · have d : decide ((k : Int) < (len : Int)) = true := by simp; omega
      obtain ⟨b, off, hab, hc⟩ := R.out.cell hlt
      subst hab
      have hkl : k < bs.length := by rw [R.out.len]; exact hlt
      have wk : IntKind.i64.wrap ((k : Int) + 1) = (k : Int) + 1 := IntWalk.i64_in _ (by omega)
      have wr1 : IntKind.i64.wrap (runsI (bs.take k) + 1) = runsI (bs.take k) + 1 := IntWalk.i64_in _ (by omega)
      cases hv : bs.getD k false
      · rw [hv] at hc
        have Rn := Lib.hid (runs_no hkl hv)
        go_wp2
        go_roundw
        case rel => exact ⟨k + 1, by omega, by simp, by rw [Rn.out], trivial⟩
        case measure => simp [intOf]; omega
      · rw [hv] at hc
        have Rn := Lib.hid (runs_yes hkl hv)
        go_wp2
        go_roundw
        case rel => exact ⟨k + 1, by omega, by simp, by rw [Rn.out], trivial⟩
        case measure => simp [intOf]; omega
    · have d : decide ((k : Int) < (len : Int)) = false := by simp; omega
      obtain rfl : k = len := by omega
      have hl : runsI (bs.take k) = runsI bs := by rw [← R.out.len, List.take_length]
      go_wp2
      go_ret
      exact ⟨ret_one hl, rfl⟩

theorem fair_may {E P t q : Int} (h : fairB E P t q = true) : MayBe E P := by
  unfold fairB at h
  exact (of_decide_eq_true h).1.1
theorem followsB_may {E P : Int} {bs : List Bool} (h : ∀ j, j < bs.length + 1 → fairB E P (partF bs j).1 (partF bs j).2 = true) : MayBe E P := fair_may (h 0 (by omega))
set_option maxHeartbeats 2000000 in
theorem r9follows_any (E P : Int) (a : Option Addr) (len cap : Nat) (bs : List Bool) (hlen : len ≤ 1000000) (w : World) (hR : RowB w a len cap bs) (t : Bool) (ht : followsB E P bs = t) :
    Calls Try.prog 27 #[.agg #[.int .i64 E, .int .i64 P], .slice a len cap] w fun e w' => e = .returned (.bool t) ∧ Below w.heap.size w w' := by
  have R := Lib.hid hR
  have ⟨cl, cu⟩ := hR.cap_le
  have HT := Lib.hid ht
  have hl := hR.len
  clear hR ht
  obtain ⟨m, hm⟩ : ∃ m : Bool, m = true ↔ MayBe E P := ⟨decide (MayBe E P), by simp⟩
  have HM := Lib.hid hm
  clear hm
  have K := Lib.hid (Blk.new w 24 #[Value.int .i64 E, Value.int .i64 P])
  go_enter Try.func27, Try.ntmps27
  go_wp2_with fail
  refine (r4check_any E P _ m HM.out).mono ?_
  rintro e w1 ⟨rfl, hb⟩
  have B := Lib.hid (below_next (wbox _ _) hb)
  have K := Lib.hid (K.out.below hb)
  clear hb
  go_wp2
  go_loopw [6] (fun i wr => ∃ k : Nat, k ≤ len + 1 ∧ i = .int .i64 (k : Int) ∧ (∀ j, j < k → fairB E P (partF bs j).1 (partF bs j).2 = true) ∧ Below w1.heap.size w1 wr) (fun i _ => len + 1 - (intOf i).toNat)
  case atStart => exact ⟨0, Nat.zero_le _, rfl, fun j hj => by omega, Below.refl _ _⟩
  case round =>
    obtain ⟨k, hk, rfl, hf, hb⟩ := hrel
    have BJ := Lib.hid hb
    have HF := Lib.hid hf
    have RJ := Lib.hid (R.out.below (below_next B.out hb))
    have KJ := Lib.hid (K.out.below hb)
    clear hb hf
    by_cases hlt : k ≤ len
    · have d : decide ((k : Int) ≤ (len : Int)) = true := by simp; omega
      have wk : IntKind.i64.wrap ((k : Int) + 1) = (k : Int) + 1 := IntWalk.i64_in _ (by omega)
      have dc : (k : Int) ≤ (cap : Int) := by omega
      have RK := Lib.hid (RJ.out.take hlt)
      have BB := Lib.hid ((Below.refl wr.heap.size wr).drew)
      have KEPT := Lib.hid (show ∀ w' : World, Below wr.heap.size wr w' → w'.cell? ⟨w.heap.size, 0, none⟩ = some (.int .i64 E) ∧ w'.cell? ⟨w.heap.size, 1, none⟩ = some (.int .i64 P) from fun w' h => ⟨(KJ.out.below h).cell 0, (KJ.out.below h).cell 1⟩)
      obtain ⟨q, hq⟩ : ∃ q, runsI (bs.take k) = q := ⟨_, rfl⟩
      have HQ := Lib.hid hq
      cases hx : fairB E P (k : Int) q
      · have HX := Lib.hid hx
        have HN := Lib.hid (show followsB E P bs = false from followsB_no (by rw [hl]; exact hlt) (show fairB E P (k : Int) (runsI (bs.take k)) = false by rw [hq]; exact hx))
        clear hx hq
        go_upto_region 5 with fail
        go_region_held3 (fun w' => w'.cell? ⟨w.heap.size, 0, none⟩ = some (.int .i64 E) ∧ w'.cell? ⟨w.heap.size, 1, none⟩ = some (.int .i64 P)) (exact KEPT.out _ BB.out)
          (first
            | (go_at_call 26; (with_reducible refine (r9runs_any _ k cap (bs.take k) (by omega) _ (RK.out.below BB.out) q HQ.out).mono ?_); rintro e w2 ⟨rfl, rfl⟩)
            | (go_at_call 24; (with_reducible refine (r9fair_any E P k q _ false HX.out).mono ?_); rintro e w3 ⟨rfl, hb⟩; have BB := Lib.hid (below_next BB.out hb); clear hb))
        all_goals
          obtain rfl : false = t := HN.out.symm.trans HT.out
          go_wp2
          go_ret
          exact ⟨rfl, below_next B.out (below_next BJ.out BB.out)⟩
      · have HX := Lib.hid hx
        have HN := Lib.hid (show ∀ j, j < k + 1 → fairB E P (partF bs j).1 (partF bs j).2 = true from fun j hj => by
          rcases Nat.lt_or_ge j k with g | g
          · exact HF.out j g
          · obtain rfl : j = k := by omega
            show fairB E P (j : Int) (runsI (bs.take j)) = true
            rw [hq]; exact hx)
        clear hx hq
        go_upto_region 5 with fail
        go_region_held3 (fun w' => w'.cell? ⟨w.heap.size, 0, none⟩ = some (.int .i64 E) ∧ w'.cell? ⟨w.heap.size, 1, none⟩ = some (.int .i64 P)) (exact KEPT.out _ BB.out)
          (first
            | (go_at_call 26; (with_reducible refine (r9runs_any _ k cap (bs.take k) (by omega) _ (RK.out.below BB.out) q HQ.out).mono ?_); rintro e w2 ⟨rfl, rfl⟩)
            | (go_at_call 24; (with_reducible refine (r9fair_any E P k q _ true HX.out).mono ?_); rintro e w3 ⟨rfl, hb⟩; have BB := Lib.hid (below_next BB.out hb); clear hb))
        all_goals
          go_wp2
          go_roundw
          case rel => exact ⟨k + 1, by omega, by simp, HN.out, below_next BJ.out BB.out⟩
          case measure => simp [intOf]; omega
    · have d : decide ((k : Int) ≤ (len : Int)) = false := by simp; omega
      obtain rfl : m = t := by
        have hM := followsB_may (E := E) (P := P) (bs := bs) (fun j hj => HF.out j (by omega))
        rw [← HT.out, HM.out.mpr hM]
        exact (followsB_yes (fun x hx => by
          simp only [upto, List.mem_map, List.mem_range] at hx
          obtain ⟨j, hj, rfl⟩ := hx
          exact HF.out j (by omega))).symm
      go_wp2
      go_ret
      exact ⟨rfl, below_next B.out BJ.out⟩
end Go.Proofs.Ytnmiiebfpeoafaa
