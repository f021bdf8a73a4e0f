/-
  Package wire's Same, of commands that are the same: contract; plain facts on commands that may be.
-/
import Derived.Test.YtlcagjmppmajeaaWq4
namespace Go.Proofs.Ytlcagjmppmajeaa
open Go.RowKit

structure MayF (c : Cm) : Prop where
  s0 : -1 ≤ c.sv
  s1 : c.sv ≤ 1073741824
  p8 : c.parts.length ≤ 8
  vs : ∃ vs, FitC c.k vs ∧ c = commandV c.k vs ∧ fieldsV c = (List.range (cntC c.k vs)).map vs ∧ cntC c.k vs ≤ 19
theorem cnt_le {k : Int} {vs : Nat → Int} (h : FitC k vs) : cntC k vs ≤ 19 := by
  unfold FitC cntC at *
  by_cases h1 : k = 1
  · simp [h1]
  · by_cases h2 : k = 2 ∨ k = 7
    · rw [if_neg h1, if_pos h2]; omega
    · by_cases h3 : k = 3
      · simp [h3]
      · by_cases h4 : k = 4
        · simp [h4]
        · by_cases h5 : k = 5
          · simp [h5]
          · by_cases h6 : k = 6
            · subst h6
              simp at h ⊢
              have := h 2 (by omega)
              unfold mostC at this
              simp at this
              omega
            · simp [h1, h2, h3, h4, h5, h6]
theorem MayC.facts {c : Cm} (h : MayC c) : MayF c := by
  obtain ⟨lo, hi, vs, hf, hc⟩ := h
  have hk : c.k = 1 ∨ c.k = 2 ∨ c.k = 3 ∨ c.k = 4 ∨ c.k = 5 ∨ c.k = 6 ∨ c.k = 7 := by omega
  have hl : fieldsV c = (List.range (cntC c.k vs)).map vs := by
    conv => lhs; rw [hc]
    exact command_fields hf
  refine ⟨?_, ?_, ?_, vs, hf, hc, hl, cnt_le hf⟩
  · rw [hc]
    rcases hk with e | e | e | e | e | e | e <;> rw [e] at hf ⊢ <;> unfold commandV <;> simp
    · have := (hf 0 (by simp [cntC])).1; omega
    · have := (hf 0 (by simp [cntC]; omega)).1; omega
  · rw [hc]
    rcases hk with e | e | e | e | e | e | e <;> rw [e] at hf ⊢ <;> unfold commandV <;> simp
    · have := (hf 0 (by simp [cntC])).2; have := mostC_le 1 0; omega
    · have := (hf 0 (by simp [cntC]; omega)).2; have := mostC_le 6 0; omega
  · rw [hc]
    rcases hk with e | e | e | e | e | e | e <;> rw [e] at hf ⊢ <;> unfold commandV <;> simp
    have := (hf 2 (by simp [cntC]; omega)).2
    unfold partsN
    unfold mostC at this
    simp at this ⊢
    omega

set_option maxRecDepth 20000 in
set_option maxHeartbeats 4000000 in
theorem wequal_yes (a b : Option Addr) (len ca cb : Nat) (ps : List (Int × Int)) (w : World) (ha : RowT w a len ca ps) (hb : RowT w b len cb ps) :
    Calls Try.prog 32 #[.slice a len ca, .slice b len cb] w fun e w' => e = .returned (.bool true) ∧ Below w.heap.size w w' := by
  have A := Lib.hid ha
  have B := Lib.hid hb
  have LN := Lib.hid ha.len
  have l9 : len ≤ 9223372036854775807 := Nat.le_trans (RowF.cap_le ha.1).1 (RowF.cap_le ha.1).2
  clear ha hb
  have e0 : ((len : Int) != (len : Int)) = false := by simp
  go_enter Try.func32, Try.ntmps32
  go_wp2
  go_loopw [13] (fun u wr => ∃ i : Nat, u = .int .i64 i ∧ i ≤ len ∧ Below w.heap.size w wr) (fun u _ => len - (intOf u).toNat)
  case atStart => exact ⟨0, rfl, by omega, Below.refl _ _⟩
  case round =>
    obtain ⟨i, rfl, i1, hbl⟩ := hrel
    have BL := Lib.hid hbl
    clear hbl
    by_cases go : i < len
    · have b1 : decide ((i : Int) < (len : Int)) = true := by simp; omega
      have b1' : decide (i < len) = true := by simp; omega
      obtain ⟨r, hr, -⟩ := get_of (l := ps) (i := i) (by rw [LN.out]; exact go)
      obtain ⟨b1_, o1, rfl, x0, x1⟩ := A.out.at hr
      obtain ⟨b2_, o2, rfl, y0, y1⟩ := B.out.at hr
      have x0 := cell_on BL.out x0
      have x1 := cell_on BL.out x1
      have y0 := cell_on BL.out y0
      have y1 := cell_on BL.out y1
      obtain ⟨E, P⟩ := r
      replace x0 : wr.cell? ⟨b1_, o1 + i * 2, none⟩ = some (.int .i64 E) := x0
      replace x1 : wr.cell? ⟨b1_, o1 + i * 2 + 1, none⟩ = some (.int .i64 P) := x1
      replace y0 : wr.cell? ⟨b2_, o2 + i * 2, none⟩ = some (.int .i64 E) := y0
      replace y1 : wr.cell? ⟨b2_, o2 + i * 2 + 1, none⟩ = some (.int .i64 P) := y1
      have i3 : (i : Int) < (len : Int) := by omega
      have i0 : 0 ≤ (i : Int) := by omega
      clear hr
      go_upto_region 6 with fail
      go_quiet (fail)
      go_wp2
      go_roundw
      case rel => exact ⟨i + 1, by go_num, by omega, bdN BL.out _⟩
      case measure => simp [intOf]; omega
    · have b1 : decide ((i : Int) < (len : Int)) = false := by simp; omega
      have b1' : decide (i < len) = false := by simp; omega
      go_wp2
      go_ret
      exact ⟨rfl, BL.out⟩
set_option maxRecDepth 20000 in
set_option maxHeartbeats 4000000 in
theorem wsame_yes (c : Cm) (v1 v2 : Value) (w : World) (h1 : PartsAt w v1 c.parts) (h2 : PartsAt w v2 c.parts) :
    Calls Try.prog 23 #[cmV c v1, cmV c v2] w fun e w' => e = .returned (.bool true) ∧ Below w.heap.size w w' := by
  obtain ⟨a, ca, rfl, ha⟩ := h1
  obtain ⟨b, cb, rfl, hb⟩ := h2
  obtain ⟨k, id, sv, m, co, e, p, early, parts⟩ := c
  obtain ⟨len, hlen⟩ : ∃ len, parts.length = len := ⟨_, rfl⟩
  simp only at ha hb ⊢
  rw [hlen] at ha hb ⊢
  obtain ⟨W2, hW2⟩ : ∃ W2, (w.alloc (.cells #[.int .i64 k, .int .i64 id, .int .i64 sv, .int .i64 m, .int .i64 co, .int .i64 e, .int .i64 p, .bool early, .slice a len ca] 37)).alloc (.cells #[.int .i64 k, .int .i64 id, .int .i64 sv, .int .i64 m, .int .i64 co, .int .i64 e, .int .i64 p, .bool early, .slice b len cb] 37) = W2 := ⟨_, rfl⟩
  have B2 := Lib.hid (show Below w.heap.size w W2 by rw [← hW2]; exact wbox2 _ _ _)
  have A := Lib.hid (ha.below B2.out)
  have B := Lib.hid (hb.below B2.out)
  have X := Lib.hid (show Blk W2 37 w.heap.size #[.int .i64 k, .int .i64 id, .int .i64 sv, .int .i64 m, .int .i64 co, .int .i64 e, .int .i64 p, .bool early, .slice a len ca] by rw [← hW2]; exact (Blk.new _ _ _).alloc _)
  have Y := Lib.hid (show Blk W2 37 (w.heap.size + 1) #[.int .i64 k, .int .i64 id, .int .i64 sv, .int .i64 m, .int .i64 co, .int .i64 e, .int .i64 p, .bool early, .slice b len cb] by rw [← hW2]; exact Blk.new2 _ _ _ _)
  have x0 := X.out.cell 0; have y0 := Y.out.cell 0; have x1 := X.out.cell 1; have y1 := Y.out.cell 1; have x2 := X.out.cell 2; have y2 := Y.out.cell 2; have x3 := X.out.cell 3; have y3 := Y.out.cell 3; have x4 := X.out.cell 4; have y4 := Y.out.cell 4; have x5 := X.out.cell 5; have y5 := Y.out.cell 5; have x6 := X.out.cell 6; have y6 := Y.out.cell 6; have x7 := X.out.cell 7; have y7 := Y.out.cell 7; have x8 := X.out.cell 8; have y8 := Y.out.cell 8
  simp at x0 y0 x1 y1 x2 y2 x3 y3 x4 y4 x5 y5 x6 y6 x7 y7 x8 y8
  clear ha hb hlen
  go_enter Try.func23, Try.ntmps23
  go_wp2_with fail
  try rw [hW2]
  refine (wequal_yes a b len ca cb parts W2 A.out B.out).mono ?_
  rintro e w3 ⟨rfl, hbl⟩
  have BL := Lib.hid (below_next B2.out hbl)
  clear hbl
  go_wp2
  go_ret
  exact ⟨rfl, BL.out⟩
end Go.Proofs.Ytlcagjmppmajeaa
