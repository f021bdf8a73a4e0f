/-
  The laws' len2 (regattalaw08): the walk.
-/
import Derived.Test.YtfeemdljlikpbaaCi4
namespace Go.Proofs.Ytfeemdljlikpbaa
open Go.RowKit

set_option maxRecDepth 20000 in
set_option maxHeartbeats 4000000 in
theorem l8len2_any (a : Option Addr) (len cap : Nat) (l : List Ev) (w : World) (h : RowV w a len cap l) : Calls Try.prog 22 #[.slice a len cap] w fun e w' => e = .returned (.int .i64 ((putsV l (min len 30)).length : Nat)) ∧ Below w.heap.size w w' := by
  have Z := Lib.hid h
  have LN := Lib.hid h.len
  have zc := h.cap_le
  clear h
  go_enter Try.func22, Try.ntmps22
  go_wp2
  go_loopw [4, 5] (fun v u wr => ∃ i : Nat, u = .int .i64 i ∧ i ≤ len ∧ i ≤ 30 ∧ v = .int .i64 ((putsV l i).length : Nat) ∧ Blk wr 66 w.heap.size (seenV (putsV l i)) ∧ Below w.heap.size w wr) (fun _ u _ => len - (intOf u).toNat)
  case atStart => exact ⟨0, rfl, by omega, by omega, rfl, Blk.new w _ _, wbox _ _⟩
  case round =>
    obtain ⟨i, rfl, il, i30, rfl, hblk, hbel⟩ := hrel
    have BB := Lib.hid hblk
    have B := Lib.hid hbel
    clear hblk hbel
    by_cases d1 : i < len ∧ i < 30
    · have d2 : i < 30 := d1.2
      have d3 : i < len := d1.1
      have b1 : decide (i < len) = true := by simp; omega
      have b2 : decide ((i : Int) < (len : Int)) = true := by simp; omega
      have b3 : decide ((i : Int) < 30) = true := by simp; omega
      have b3n : decide (i < 30) = true := by simp; omega
      obtain ⟨x, hx⟩ := getV (es := l) (i := i) (by rw [LN.out]; omega)
      have PN := Lib.hid (putsV_next hx)
      have pl := putsV_len l i
      obtain ⟨es, hes⟩ : ∃ es, putsV l i = es := ⟨_, rfl⟩
      rw [hes] at PN BB pl ⊢
      obtain ⟨bl, ol, rfl, hat⟩ := (Z.out.below B.out).at hx
      have x0 := hat.c0; have x1 := hat.c1; have x2 := hat.c2
      have i1 : (i : Int) < (len : Int) := by omega
      have i2 : 0 ≤ (i : Int) := by omega
      have EV := Lib.hid (fun w => l8event_any 0 true x w)
      have yb := near_bd x
      obtain ⟨y, hy⟩ : ∃ y, nearE x = y := ⟨_, rfl⟩
      simp only [if_true, hy] at EV
      rw [hy] at yb PN
      obtain ⟨yd, yi, yk⟩ := y
      obtain ⟨ii, hii⟩ : ∃ n : Nat, yi = (n : Int) := ⟨yi.toNat, by have := yb.2.1.1; simp only at this; omega⟩
      obtain ⟨kk, hkk⟩ : ∃ n : Nat, yk = (n : Int) := ⟨yk.toNat, by have := yb.2.2.1; simp only at this; omega⟩
      subst hii hkk
      have i7 : ii ≤ 7 := by have := yb.2.1.2; simp only at this; omega
      have k3 : kk ≤ 3 := by have := yb.2.2.2; simp only at this; omega
      have ii1 : (ii : Int) < 8 := by omega
      have ii2 : 0 ≤ (ii : Int) := by omega
      have kk1 : (kk : Int) < 4 := by omega
      have kk2 : 0 ≤ (kk : Int) := by omega
      have ii3 : ii < 8 := by omega
      have kk3 : kk < 4 := by omega
      clear hx hat hy d1 hes yb
      simp only at EV
      go_wp2_with fail
      refine (EV.out _).mono ?_
      rintro e w3 ⟨rfl, hb⟩
      have BX := Lib.hid (below_next (wbox _ _) hb)
      obtain ⟨W4, hW4⟩ : ∃ W4, w3.alloc (.cells #[.int .i64 yd, .int .i64 (ii : Int), .int .i64 (kk : Int)] 31) = W4 := ⟨_, rfl⟩
      have BX4 := Lib.hid (show Below wr.heap.size wr W4 by rw [← hW4]; exact below_next BX.out (wbox _ _))
      have E4 := Lib.hid (show Blk W4 31 w3.heap.size #[.int .i64 yd, .int .i64 (ii : Int), .int .i64 (kk : Int)] by rw [← hW4]; exact Blk.new w3 _ _)
      have A4 := Lib.hid (BB.out.below BX4.out)
      clear hb x0 x1 x2
      go_upto_region 8 with fail
      obtain ⟨f, hf⟩ : ∃ f, hasV es ii kk = f := ⟨_, rfl⟩
      have HF := Lib.hid hf
      have KEPT := Lib.hid (show ∀ w' : World, Below W4.heap.size W4 w' → w'.cell? ⟨w3.heap.size, 1, none⟩ = some (.int .i64 (ii : Int)) ∧ w'.cell? ⟨w3.heap.size, 2, none⟩ = some (.int .i64 (kk : Int)) ∧ w'.cell? ⟨w.heap.size, ii * 4 + kk, none⟩ = some (.bool f) from fun w' h => ⟨(E4.out.below h).cell 1, (E4.out.below h).cell 2, by rw [(A4.out.below h).cell (ii * 4 + kk), seenV_at es i7 k3, hf]⟩)
      have BL := Lib.hid ((Below.refl W4.heap.size W4).drew)
      clear hf
      go_region_held3 (fun w' => w'.cell? ⟨w3.heap.size, 1, none⟩ = some (.int .i64 (ii : Int)) ∧ w'.cell? ⟨w3.heap.size, 2, none⟩ = some (.int .i64 (kk : Int)) ∧ w'.cell? ⟨w.heap.size, ii * 4 + kk, none⟩ = some (.bool f))
        (exact KEPT.out _ BL.out)
        (fail)
      all_goals
        have A5 := Lib.hid (A4.out.below BL.out)
        have E5 := Lib.hid (E4.out.below BL.out)
        have B5 := Lib.hid (below_next (below_next B.out BX4.out) BL.out)
        cases f with
        | true =>
          have PT := Lib.hid (show putsV l (i + 1) = es by
            rw [PN.out]
            unfold putV
            have hh := HF.out
            unfold hasV at hh
            have := of_decide_eq_true hh
            rw [if_neg (by simp only; omega)])
          go_wp2
          go_roundw
          case rel => exact ⟨i + 1, by go_num, by omega, by omega, by rw [PT.out], by rw [PT.out]; exact A5.out, B5.out⟩
          case measure => simp [intOf]; omega
        | false =>
          have PT := Lib.hid (show putsV l (i + 1) = insV ⟨yd, (ii : Int), (kk : Int)⟩ es by
            rw [PN.out]
            unfold putV
            have hh := HF.out
            unfold hasV at hh
            have h0 := of_decide_eq_false hh
            have pb := placeV_bound es (ii : Int) (kk : Int)
            rw [if_pos (by simp only; omega)])
          have y1 := E5.out.cell 1
          have y2 := E5.out.cell 2
          have y3 := (A5.out.cell (ii * 4 + kk)).trans (seenV_at es i7 k3)
          have y4 := A5.out.free (ii * 4 + kk)
          simp at y1 y2
          go_upto_region 9 with fail
          go_region
          all_goals
            go_wp2
            go_roundw
            case rel => exact ⟨i + 1, by go_num, by omega, by omega, by rw [PT.out, insV_len]; simp, by rw [PT.out, ← seenV_put es ⟨yd, (ii : Int), (kk : Int)⟩ i7 k3 rfl rfl]; exact A5.out.drew.setBE (ii * 4 + kk) (.bool true), (B5.out.drew.setCell (by simp) _)⟩
            case measure => simp [intOf]; omega
    · have hend : (decide (i < len) = false ∧ decide ((i : Int) < (len : Int)) = false) ∨ (decide (i < len) = true ∧ decide ((i : Int) < (len : Int)) = true ∧ decide (i < 30) = false ∧ decide ((i : Int) < 30) = false) := by
        rcases Nat.lt_or_ge i len with q | q
        · exact .inr ⟨by simp; omega, by simp; omega, by simp; omega, by simp; omega⟩
        · exact .inl ⟨by simp; omega, by simp; omega⟩
      have MI := Lib.hid (show min len 30 = i by omega)
      clear d1
      rcases hend with ⟨b1, b2⟩ | ⟨b1, b2, b3, b4⟩
      all_goals
        go_wp2
        go_ret
        exact ⟨by rw [MI.out]; rfl, B.out⟩
end Go.Proofs.Ytfeemdljlikpbaa
