/-
  What the laws' own awake gives back; slices that came in.
-/
import Derived.Test.YthelebgalihngaaNat13
namespace Go.Proofs.Ythelebgalihngaa
open Go.RowKit

def ddAwake : List Int := [6, 1, 6, 1, 5, 5, 9, 0, 7, 3, 7, 0, 4, 4, 7, 6, 4, 4, 8, 1]
theorem is_awake : Is 10 ddAwake 18446744073709551616 := ⟨by unfold ddAwake Digs; decide, by unfold ddAwake Top; decide, by unfold ddAwake; simp [val]⟩
theorem text_awake : textL ddAwake = [49, 56, 52, 52, 54, 55, 52, 52, 48, 55, 51, 55, 48, 57, 53, 53, 49, 54, 49, 54] := by decide +kernel

theorem awake_any (w : World) : Calls Try.prog 9 #[] w fun e w' => e = .returned (.bool true) ∧ Below w.heap.size w w' := by
  obtain ⟨a5, c5, hv5, hrow5, _⟩ := row_of_owns (k := .u32) (zs := [0, 1]) (World.ownsRow_lit (base := w.heap.size) (e := 23) (size := 1) w #[.int .u32 0, .int .u32 1] 2 (Nat.le_refl _) (by unfold maxLen; omega) rfl)
  simp only [Value.slice.injEq] at hv5
  obtain ⟨rfl, _, rfl⟩ := hv5
  have HR := Lib.hid hrow5
  clear hrow5
  have HD := Lib.hid (show Digs 4294967296 [0, 1] from fun z hz => by simp at hz; rcases hz with rfl | rfl <;> omega)
  have HB0 := Lib.hid ((Below.refl w.heap.size w).alloc (Nat.le_refl _) (Obj.cells #[.int .u32 0, .int .u32 1] 23))
  have HV := Lib.hid (show val 4294967296 [0, 1] * val 4294967296 [0, 1] = 18446744073709551616 by simp [val])
  have TX := Lib.hid text_awake
  go_enter Try.func9, Try.ntmps9
  go_wp2_with fail
  refine (nMul_any _ _ _ [0, 1] _ _ _ [0, 1] _ HR.out HD.out HR.out HD.out (by omega) (by omega)).mono ?_
  rintro e w1 ⟨a1, l1, k1, z1, rfl, hr1, hi1, hb1, _⟩
  rw [HV.out] at hi1
  have L1 : l1 ≤ 50 := by
    have := hi1.len_le (L := 3) (by omega) (by decide +kernel)
    rw [hr1.len] at this; omega
  have HR1 := Lib.hid hr1
  have HI1 := Lib.hid hi1
  have HB1 := Lib.hid hb1
  clear hr1 hi1 hb1
  go_wp2_with fail
  refine (nText_any _ _ _ z1 _ ddAwake _ HR1.out HI1.out L1 is_awake).mono ?_
  rintro e w2 ⟨rfl, hb2⟩
  rw [TX.out]
  have HB2 := Lib.hid hb2
  clear hb2
  go_wp2_with fail
  refine (nCheck_any _ _ _ [0, 1] _ true ((HR.out.below HB1.out).below HB2.out) ⟨fun _ => by unfold Top; decide, fun _ => rfl⟩).mono ?_
  rintro e w3 ⟨rfl, rfl⟩
  go_wp2
  go_ret
  exact ⟨rfl, below_next (below_next HB0.out HB1.out) HB2.out⟩

theorem row_came {w : World} {x : Addr} {len cap : Nat} {zs : List Int} (hl : len ≤ cap) (hm : cap ≤ maxLen) (hz : zs.length = cap) (hc : ∀ i, i < zs.length → w.cell? (x.add i) = some (.int .u32 (zs.getD i 0))) :
    Row .u32 w (some x) len cap (zs.take len) := by
  refine ⟨by rw [List.length_take, hz]; omega, hl, by unfold maxLen at hm; omega, (fun e => by cases e), fun i hi => ?_⟩
  obtain ⟨b, off, rfl, hc'⟩ := ints_at hc (by omega)
  refine ⟨b, off, rfl, ?_⟩
  rw [hc' i (by omega), List.getD_eq_getElem?_getD, List.getD_eq_getElem?_getD, List.getElem?_take_of_lt hi]
theorem digs_came {zs : List Int} {len : Nat} (h : ∀ n ∈ zs, (Lit.int .u32 n).wf = true) : Digs 4294967296 (zs.take len) := fun z hz => by
  have := bounds_u32 (h z (List.mem_of_mem_take hz))
  omega
end Go.Proofs.Ythelebgalihngaa
