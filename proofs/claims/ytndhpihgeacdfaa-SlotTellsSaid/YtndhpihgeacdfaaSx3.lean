/-
  The walk of the law SlotTells.
-/
import Derived.Test.YtndhpihgeacdfaaSx2
namespace Go.Proofs.Ytndhpihgeacdfaa
open Go.RowKit

theorem few_small (l : List Sk) : SmallK (fewV (l.take 6)) := by
  refine ⟨by unfold fewV; rw [List.length_map, List.length_take]; omega, fun s hs => ?_⟩
  unfold fewV at hs
  rw [List.mem_map] at hs
  obtain ⟨x, _, rfl⟩ := hs
  show (x.runs.take 6).length ≤ 4096
  rw [List.length_take]; omega
theorem made_small (f : Int) (l : List (List Int)) : SmallK (madeV f l) ∧ (madeV f l).length ≤ 12 := by
  have h1 : (madeV f l).length ≤ 12 := by unfold madeV; rw [List.length_mapIdx, List.length_take]; omega
  refine ⟨⟨by omega, fun s hs => ?_⟩, h1⟩
  unfold madeV at hs
  rw [List.mem_mapIdx] at hs
  obtain ⟨i, hi, rfl⟩ := hs
  show (runsM 0 (-1) _).length ≤ 4096
  rw [runsM_len, List.length_take]; omega
set_option maxRecDepth 20000 in
set_option maxHeartbeats 4000000 in
theorem stells_walk (a : Option Addr) (len cap : Nat) (l : List Sk) (at_ : Int) (b : Option Addr) (lb cb : Nat) (zs : List (List Int)) (w : World) (h : RowK w a len cap l) (g : RowN w b lb cb zs) (hw : ∀ z ∈ zs, ∀ x ∈ z, (Lit.int .i64 x).wf = true) :
    Calls Try.prog 3 #[.slice a len cap, .int .i64 at_, .slice b lb cb] w fun e w' => e = .returned (.bool true) ∧ Below w.heap.size w w' := by
  have H := Lib.hid h
  have G := Lib.hid g
  have WF := Lib.hid hw
  clear h g hw
  go_enter Try.func3, Try.ntmps3
  go_wp2_with fail
  refine (awake16_any w).mono ?_
  rintro e w0 ⟨rfl, hb⟩
  have B := Lib.hid hb
  clear hb
  go_wp2_with fail
  refine (few16_any a len cap l _ (H.out.below B.out)).mono ?_
  rintro e w1a ⟨⟨ba1, na1, ca1, rfl, hr⟩, hb⟩
  have B := Lib.hid (below_next B.out hb)
  have R := Lib.hid hr
  clear hb hr
  go_wp2_with fail
  refine (tells16_any ba1 na1 ca1 _ _ _ _ R.out (few_small l)).mono ?_
  rintro e w1b ⟨rfl, hb⟩
  have B := Lib.hid (below_next B.out hb)
  clear hb R
  go_wp2_with fail
  refine (few16_any a len cap l _ (H.out.below B.out)).mono ?_
  rintro e w2a ⟨⟨ba2, na2, ca2, rfl, hr⟩, hb⟩
  have B := Lib.hid (below_next B.out hb)
  have R := Lib.hid hr
  clear hb hr
  go_wp2_with fail
  refine (tells16_any ba2 na2 ca2 _ _ _ _ R.out (few_small l)).mono ?_
  rintro e w2b ⟨rfl, hb⟩
  have B := Lib.hid (below_next B.out hb)
  clear hb R
  go_wp2_with fail
  refine (made16_any at_ b lb cb zs _ (G.out.below B.out) WF.out).mono ?_
  rintro e w3a ⟨⟨ba3, na3, ca3, rfl, hr, -⟩, hb⟩
  have B := Lib.hid (below_next B.out hb)
  have R := Lib.hid hr
  clear hb hr
  go_wp2_with fail
  refine (tells16_any ba3 na3 ca3 _ _ _ _ R.out (made_small _ _).1).mono ?_
  rintro e w3b ⟨rfl, hb⟩
  have B := Lib.hid (below_next B.out hb)
  clear hb R
  go_wp2_with fail
  refine (made16_any at_ b lb cb zs _ (G.out.below B.out) WF.out).mono ?_
  rintro e w4a ⟨⟨ba4, na4, ca4, rfl, hr, -⟩, hb⟩
  have B := Lib.hid (below_next B.out hb)
  have R := Lib.hid hr
  clear hb hr
  go_wp2_with fail
  refine (tells16_any ba4 na4 ca4 _ _ _ _ R.out (made_small _ _).1).mono ?_
  rintro e w4b ⟨rfl, hb⟩
  have B := Lib.hid (below_next B.out hb)
  clear hb R
  go_wp2_with fail
  refine (few16_any a len cap l _ (H.out.below B.out)).mono ?_
  rintro e w5a ⟨⟨ba5, na5, ca5, rfl, hr⟩, hb⟩
  have B := Lib.hid (below_next B.out hb)
  have R := Lib.hid hr
  clear hb hr
  go_wp2_with fail
  refine (tells16_any ba5 na5 ca5 _ _ _ _ R.out (few_small l)).mono ?_
  rintro e w5b ⟨rfl, hb⟩
  have B := Lib.hid (below_next B.out hb)
  clear hb R
  go_wp2
  go_ret
  exact ⟨rfl, B.out⟩
end Go.Proofs.Ytndhpihgeacdfaa
