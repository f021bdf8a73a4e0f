/-
  Package slot's Empty: contract.
-/
import Derived.Test.YtndhpihgeacdfaaSw1
namespace Go.Proofs.Ytndhpihgeacdfaa
open Go.RowKit

set_option maxRecDepth 20000 in
set_option maxHeartbeats 4000000 in
theorem pempty_any (a : Option Addr) (len cap : Nat) (l : List Sk) (m : Int) (w : World) (h : RowK w a len cap l) (hs : SmallK l) :
    Calls Try.prog 18 #[.slice a len cap, .int .i64 m] w fun e w' => e = .returned (.int .i64 (emV l m)) ∧ Below w.heap.size w w' := by
  have H := Lib.hid h
  have LN := Lib.hid h.len
  have HS := Lib.hid hs
  have len4 : len ≤ 4096 := by rw [← h.len]; exact hs.a
  clear h hs
  go_enter Try.func18, Try.ntmps18
  go_wp2_with fail
  refine (prow_any a len cap l m w H.out).mono ?_
  rintro e w1 ⟨rfl, hb⟩
  have B := Lib.hid hb
  have H1 := Lib.hid (H.out.below hb)
  clear hb
  cases hr : rowB l m with
  | false =>
    have V := Lib.hid (show emV l m = 0 by unfold emV; rw [hr]; rfl)
    clear hr
    go_wp2
    go_ret
    exact ⟨by rw [V.out]; rfl, B.out⟩
  | true =>
    have V := Lib.hid (show emV l m = emS l m by unfold emV; rw [hr]; rfl)
    have RT := Lib.hid (rowB_true.mp hr)
    clear hr
    go_wp2
    go_loopw [5, 14] (fun v u wr => ∃ i : Nat, u = .int .i64 i ∧ i ≤ len ∧ v = .int .i64 (emS (l.take i) m) ∧ Below w1.heap.size w1 wr) (fun _ u _ => len - (intOf u).toNat)
    case atStart => exact ⟨0, rfl, by omega, by simp [emS], Below.refl _ _⟩
    case round =>
      obtain ⟨i, rfl, i1, rfl, hb⟩ := hrel
      have BB := Lib.hid hb
      clear hb
      by_cases go : i < len
      · have b1 : decide ((i : Int) < (len : Int)) = true := by simp; omega
        have b1' : decide (i < len) = true := by simp; omega
        obtain ⟨s, hs, hts⟩ := get_of (l := l) (i := i) (by rw [LN.out]; exact go)
        have MS := RT.out i s (by rw [LN.out]; exact go) hs
        have m1 := MS.1.m1
        have m2 := MS.1.m2
        have EN := Lib.hid (show emS (l.take (i + 1)) m = emS (l.take i) m + (m - s.runs.length) by rw [hts, em_snoc])
        have RL := HS.out.b s (List.mem_of_getElem? hs)
        have bd := em_bd (l.take i) m m1 m2 fun x hx => HS.out.b x (List.mem_of_mem_take hx)
        rw [List.length_take] at bd
        obtain ⟨ba, oa, ao, lo, co, rfl, x0, x1, hu⟩ := H1.out.at hs
        rw [hu.len] at RL EN
        have i3 : (i : Int) < (len : Int) := by omega
        have i0 : 0 ≤ (i : Int) := by omega
        have x0 := cell_on BB.out x0
        have x1 := cell_on BB.out x1
        obtain ⟨tm, rs⟩ := s
        replace x0 : wr.cell? ⟨ba, oa + i * 2, none⟩ = some (.int .i64 tm) := x0
        obtain ⟨q, hq⟩ : ∃ q, emS (l.take i) m = q := ⟨_, rfl⟩
        rw [hq] at EN bd ⊢
        have q0 : -16777216 ≤ q := by omega
        have q1 : q ≤ 16777216 := by omega
        obtain ⟨W2, hW2⟩ : ∃ W2, wr.alloc (.cells #[.int .i64 tm, .slice ao lo co] 47) = W2 := ⟨_, rfl⟩
        have B2 := Lib.hid (show Below w1.heap.size w1 W2 by rw [← hW2]; exact below_next BB.out (wbox _ _))
        have R2 := Lib.hid (show Blk W2 47 wr.heap.size #[.int .i64 tm, .slice ao lo co] by rw [← hW2]; exact Blk.new _ _ _)
        have y0 := R2.out.cell 0; have y1 := R2.out.cell 1
        simp at y0 y1
        have v1 : IntKind.i64.wrap (m - (lo : Int)) = m - (lo : Int) := IntWalk.i64_in _ (by omega)
        have v2 : IntKind.i64.wrap (q + (m - (lo : Int))) = q + (m - (lo : Int)) := IntWalk.i64_in _ (by omega)
        clear hs hts MS hu hq bd
        go_wp2
        go_roundw
        case rel => exact ⟨i + 1, by go_num, by omega, by rw [EN.out], B2.out⟩
        case measure => simp [intOf]; omega
      · have b1 : decide ((i : Int) < (len : Int)) = false := by simp; omega
        have b1' : decide (i < len) = false := by simp; omega
        have e : l.take i = l := List.take_of_length_le (by rw [LN.out]; omega)
        rw [e]
        clear e
        go_wp2
        go_ret
        exact ⟨by rw [V.out]; rfl, below_next B.out BB.out⟩
end Go.Proofs.Ytndhpihgeacdfaa
