/-
  A number that is read; the document's ReadNumber (regattaref16): contract.
-/
import Derived.Test.YtndhpihgeacdfaaSs4
import Derived.Laws.DeepStrings4
namespace Go.Proofs.Ytndhpihgeacdfaa
open Go.RowKit

def valN : List UInt8 → Nat
  | [] => 0
  | b :: l => b.toNat % 128 + 128 * valN l
theorem valN_snoc : ∀ (x : List UInt8) (b : UInt8), valN (x ++ [b]) = valN x + 128 ^ x.length * (b.toNat % 128)
  | [], b => by simp [valN]
  | y :: x, b => by
    rw [List.cons_append, valN, valN_snoc x b, valN, List.length_cons, Nat.pow_succ, Nat.mul_add, Nat.mul_comm (128 ^ x.length) 128, Nat.mul_assoc]
    omega
theorem valN_lt : ∀ x : List UInt8, valN x < 128 ^ x.length
  | [] => by simp [valN]
  | y :: x => by
    have := valN_lt x
    have h : y.toNat % 128 < 128 := Nat.mod_lt _ (by omega)
    rw [valN, List.length_cons, Nat.pow_succ]
    omega
/-- the number that these bytes begin with, and how many they are -/
def rdV (l : List UInt8) : Option (Nat × Nat) :=
  match (l.take 6).findIdx? (fun b => decide (b.toNat < 128)) with
  | none => none
  | some j => if num (valN (l.take (j + 1))) = l.take (j + 1) then some (valN (l.take (j + 1)), j + 1) else none
theorem rd_stop {l : List UInt8} {j : Nat} {b : UInt8} (hj : j < 6) (hb : l[j]? = some b) (h : b.toNat < 128) (hp : ∀ q, q < j → ∀ c, l[q]? = some c → 128 ≤ c.toNat) :
    rdV l = if num (valN (l.take (j + 1))) = l.take (j + 1) then some (valN (l.take (j + 1)), j + 1) else none := by
  have hl := lt_of_get hb
  have e : (l.take 6).findIdx? (fun b => decide (b.toNat < 128)) = some j := by
    rw [List.findIdx?_eq_some_iff_getElem]
    refine ⟨by rw [List.length_take]; omega, ?_, fun q hq => ?_⟩
    · rw [List.getElem?_eq_getElem hl] at hb
      simp at hb
      simpa [hb] using h
    · have := hp q hq l[q] (List.getElem?_eq_getElem (by omega))
      simp
      omega
  unfold rdV
  rw [e]
theorem rd_none {l : List UInt8} {j : Nat} (hj : j = 6 ∨ l.length ≤ j) (hp : ∀ q, q < j → ∀ c, l[q]? = some c → 128 ≤ c.toNat) : rdV l = none := by
  have e : (l.take 6).findIdx? (fun b => decide (b.toNat < 128)) = none := by
    rw [List.findIdx?_eq_none_iff]
    intro x hx
    obtain ⟨q, hq, rfl⟩ := List.getElem_of_mem hx
    rw [List.length_take] at hq
    have := hp q (by omega) l[q] (List.getElem?_eq_getElem (by omega))
    simp
    omega
  unfold rdV
  rw [e]
def gotE (p : Nat) : Option (Nat × Nat) → Nat
  | some (_, k) => p + k
  | none => 0
def gotN : Option (Nat × Nat) → Nat
  | some (n, _) => n
  | none => 0
theorem pow6 {j : Nat} (h : j ≤ 6) : 128 ^ j ≤ 4398046511104 := by
  have := Nat.pow_le_pow_right (show 0 < 128 by omega) h
  exact this
theorem got_cells {W : World} {g : Nat} {x y a b : Value} (X : Blk W 67 g #[x, y]) : ((W.setCell ⟨g, 0, none⟩ a).setCell ⟨g, 1, none⟩ b).cell? ⟨g, 0, none⟩ = some a ∧ ((W.setCell ⟨g, 0, none⟩ a).setCell ⟨g, 1, none⟩ b).cell? ⟨g, 1, none⟩ = some b ∧ (W.setCell ⟨g, 0, none⟩ a).cell? ⟨g, 0, none⟩ = some a := by
  have Y := heap_setCell_same _ g 1 _ _ b (heap_setCell_same W g 0 _ _ a X)
  have y0 := Blk.cell (show Blk _ 67 g _ from Y) 0
  have y1 := Blk.cell (show Blk _ 67 g _ from Y) 1
  have z0 := Blk.cell (show Blk _ 67 g _ from heap_setCell_same W g 0 _ _ a X) 0
  exact ⟨by simpa using y0, by simpa using y1, by simpa using z0⟩
theorem BS_inj {a b : List UInt8} : BS a = BS b ↔ a = b := ⟨fun h => by unfold BS at h; simpa using h, fun h => by rw [h]⟩
theorem BS_list (x : List UInt8) : (BS x).toList = x := by
  unfold BS; simp
theorem ext_take (s : ByteArray) (p k : Nat) : s.extract p (p + k) = BS ((s.data.toList.drop p).take k) := by
  apply ByteArray.ext
  rw [ByteArray.data_extract]
  apply Array.ext'
  rw [Array.toList_extract, List.extract_eq_take_drop]
  simp [BS]
set_option maxRecDepth 20000 in
set_option maxHeartbeats 4000000 in
theorem r16read_any (s : ByteArray) (p : Nat) (w : World) (hp : p ≤ s.size) (hs : s.size ≤ 1000000000) :
    Calls Try.prog 37 #[.string s, .int .i64 p] w fun e w' => e = .returned (.agg #[.int .i64 (gotN (rdV (s.data.toList.drop p))), .int .i64 (gotE p (rdV (s.data.toList.drop p)))]) ∧ Below w.heap.size w w' := by
  obtain ⟨l, hl⟩ : ∃ l, s.data.toList.drop p = l := ⟨_, rfl⟩
  rw [hl]
  go_enter Try.func37, Try.ntmps37
  go_wp2
  obtain ⟨W1, hW1⟩ : ∃ W1, w.alloc (.cells #[.int .i64 0, .int .i64 0] 67) = W1 := ⟨_, rfl⟩
  have B1 := Lib.hid (show Below w.heap.size w W1 by rw [← hW1]; exact wbox _ _)
  have X1 := Lib.hid (show Blk W1 67 w.heap.size #[.int .i64 0, .int .i64 0] by rw [← hW1]; exact Blk.new _ _ _)
  rw [hW1]
  clear hW1
  go_loopw [5, 6, 7] (fun v u i' wr => ∃ j : Nat, i' = .int .i64 (p + j : Nat) ∧ j ≤ 6 ∧ p + j ≤ s.size ∧ v = .int .i64 (valN (l.take j) : Nat) ∧ u = .int .i64 (128 ^ j : Nat) ∧ (∀ q, q < j → ∀ c, l[q]? = some c → 128 ≤ c.toNat) ∧ Below W1.heap.size W1 wr) (fun _ _ i' _ => p + 6 - (intOf i').toNat)
  case atStart => exact ⟨0, rfl, by omega, by omega, by simp [valN], rfl, fun q h => by omega, Below.refl _ _⟩
  case round =>
    obtain ⟨j, rfl, j6, js, rfl, rfl, hq, hb⟩ := hrel
    have Q := Lib.hid hq
    have B := Lib.hid hb
    clear hq hb
    by_cases go : p + j < s.size
    · have lj : l[j]? = some s[p + j] := by
        rw [← hl, List.getElem?_drop]
        exact List.getElem?_eq_getElem (by simpa using go)
      have TK := Lib.hid (show l.take (j + 1) = l.take j ++ [s[p + j]] by rw [List.take_add_one, lj]; rfl)
      have LJ := Lib.hid lj
      have g1 : decide ((p : Int) + (j : Int) < (s.size : Int)) = true := by simp; omega
      have g1' : decide (p + j < s.size) = true := by simp; omega
      by_cases go6 : j < 6
      · have g2 : decide ((p : Int) + (j : Int) < (p : Int) + 6) = true := by simp; omega
        have g2' : decide (p + j < p + 6) = true := by simp; omega
        have F5 : 128 ^ j ≤ 34359738368 := Nat.pow_le_pow_right (show 0 < 128 by omega) (show j ≤ 5 by omega)
        have NV := valN_lt (l.take j)
        have jl := lt_of_get lj
        rw [List.length_take, Nat.min_eq_left (by omega)] at NV
        have VN := Lib.hid (show valN (l.take (j + 1)) = valN (l.take j) + 128 ^ j * (s[p + j].toNat % 128) by rw [TK.out, valN_snoc, List.length_take, Nat.min_eq_left (by omega)])
        have FN := Lib.hid (show 128 ^ (j + 1) = 128 ^ j * 128 from Nat.pow_succ ..)
        obtain ⟨F, hF⟩ : ∃ F, 128 ^ j = F := ⟨_, rfl⟩
        obtain ⟨N, hN⟩ : ∃ N, valN (l.take j) = N := ⟨_, rfl⟩
        rw [hF] at NV VN FN F5 ⊢
        rw [hN] at NV VN ⊢
        have xd : s[p + j].toNat % 128 ≤ 127 := by omega
        have fd : F * (s[p + j].toNat % 128) ≤ 34359738368 * 127 := Nat.mul_le_mul F5 xd
        have v1 : IntKind.i64.wrap ((F : Int) * ((s[p + j].toNat : Int) % 128)) = (F : Int) * ((s[p + j].toNat : Int) % 128) := IntWalk.i64_in _ (by
          have : ((F * (s[p + j].toNat % 128) : Nat) : Int) = (F : Int) * ((s[p + j].toNat : Int) % 128) := by push_cast; rfl
          omega)
        have v2 : IntKind.i64.wrap ((N : Int) + (F : Int) * ((s[p + j].toNat : Int) % 128)) = ((N + F * (s[p + j].toNat % 128) : Nat) : Int) := by
          have : ((F * (s[p + j].toNat % 128) : Nat) : Int) = (F : Int) * ((s[p + j].toNat : Int) % 128) := by push_cast; rfl
          rw [← this, ← Int.natCast_add]
          exact IntWalk.i64_in _ (by omega)
        have v3 : IntKind.i64.wrap ((F : Int) * 128) = (F : Int) * 128 := IntWalk.i64_in _ (by omega)
        obtain ⟨V, hV⟩ : ∃ V, N + F * (s[p + j].toNat % 128) = V := ⟨_, rfl⟩
        rw [hV] at v2 VN
        have V6 : V ≤ 9223372036854775807 := by omega
        clear hN hF lj
        have c1 : 0 ≤ (p : Int) + (j : Int) + 1 ∧ (p : Int) + (j : Int) + 1 ≤ (s.size : Int) := by omega
        have c2 : (p : Int) ≤ (p : Int) + (j : Int) + 1 := by omega
        have tn : ((p : Int) + (j : Int) + 1).toNat = p + j + 1 := by omega
        have w1 : IntKind.i64.wrap ((p : Int) + (j : Int) + 1) = (p : Int) + (j : Int) + 1 := IntWalk.i64_in _ (by omega)
        by_cases x : s[p + j].toNat < 128
        · have x1 : decide ((s[p + j].toNat : Int) < 128) = true := by simp; omega
          have x1' : decide (s[p + j].toNat < 128) = true := by simp; omega
          have XT := Lib.hid (show s.extract p (p + j + 1) = BS (l.take (j + 1)) by rw [← hl]; exact ext_take s p (j + 1))
          have ST := Lib.hid (rd_stop go6 LJ.out x Q.out)
          go_upto_region 9 with fail
          clear g1 g1' g2 g2' v1 v2 v3 xd fd NV
          have BL := Lib.hid (bdN B.out 1)
          refine wp_region_noPanic ?_
          refine wp_region_held_drew (S := fun w' => True) (by kernel_rfl) (trivial) (fun hHeld => ?_)
          refine' takeY (i := 0) (oi := _) (v := _) ?him1 (by kernel_rfl) (by kernel_rfl) (by kernel_rfl) (fun _ _ _ h => h) ?hwm1 ?hym1 hHeld ?restm1
          case him1 => (simp only [List.getElem?_toArray, List.getElem?_cons_zero]; rfl)
          case hwm1 => rfl
          case hym1 => (intro w hSw; (try dsimp only at hSw); go_simp; try with_reducible rfl)
          try simp only [Act.put, List.setIfInBounds_toArray, List.set_cons_zero, List.set_cons_succ]
          refine' takeY (i := 2) (oi := _) (v := _) ?him2 (by kernel_rfl) (by kernel_rfl) (by kernel_rfl) (fun _ _ _ h => h) ?hwm2 ?hym2 hHeld ?restm2
          case him2 => (simp only [List.getElem?_toArray, List.getElem?_cons_succ, List.getElem?_cons_zero]; rfl)
          case hwm2 => rfl
          case hym2 => (intro w hSw; (try dsimp only at hSw); go_simp; try with_reducible rfl)
          try simp only [Act.put, List.setIfInBounds_toArray, List.set_cons_zero, List.set_cons_succ]
          refine' takeY (i := 3) (oi := _) (v := _) ?him3 (by kernel_rfl) (by kernel_rfl) (by kernel_rfl) (fun _ _ _ h => h) ?hwm3 ?hym3 hHeld ?restm3
          case him3 => (simp only [List.getElem?_toArray, List.getElem?_cons_succ, List.getElem?_cons_zero]; rfl)
          case hwm3 => rfl
          case hym3 => (intro w hSw; (try dsimp only at hSw); go_simp; try with_reducible rfl)
          try simp only [Act.put, List.setIfInBounds_toArray, List.set_cons_zero, List.set_cons_succ]
          refine' takeY (i := 4) (oi := _) (v := _) ?him4 (by kernel_rfl) (by kernel_rfl) (by kernel_rfl) (fun _ _ _ h => h) ?hwm4 ?hym4 hHeld ?restm4
          case him4 => (simp only [List.getElem?_toArray, List.getElem?_cons_succ, List.getElem?_cons_zero]; rfl)
          case hwm4 => rfl
          case hym4 => (intro w hSw; (try dsimp only at hSw); go_simp; try with_reducible rfl)
          try simp only [Act.put, List.setIfInBounds_toArray, List.set_cons_zero, List.set_cons_succ]
          refine' takeY (i := 5) (oi := _) (v := _) ?him5 (by kernel_rfl) (by kernel_rfl) (by kernel_rfl) (fun _ _ _ h => h) ?hwm5 ?hym5 hHeld ?restm5
          case him5 => (simp only [List.getElem?_toArray, List.getElem?_cons_succ, List.getElem?_cons_zero]; rfl)
          case hwm5 => rfl
          case hym5 => (intro w hSw; (try dsimp only at hSw); go_simp; try with_reducible rfl)
          try simp only [Act.put, List.setIfInBounds_toArray, List.set_cons_zero, List.set_cons_succ]
          refine' takeY (i := 6) (oi := _) (v := _) ?him6 (by kernel_rfl) (by kernel_rfl) (by kernel_rfl) (fun _ _ _ h => h) ?hwm6 ?hym6 hHeld ?restm6
          case him6 => (simp only [List.getElem?_toArray, List.getElem?_cons_succ, List.getElem?_cons_zero]; rfl)
          case hwm6 => rfl
          case hym6 => (intro w hSw; (try dsimp only at hSw); go_simp; try with_reducible rfl)
          try simp only [Act.put, List.setIfInBounds_toArray, List.set_cons_zero, List.set_cons_succ]
          refine wpAnyH_ready (rs := [1]) (by kernel_rfl) (by simp) ?_
          refine' AllReadyH.cons (o := _) ?him7 (fun K hK => ?stepm7) (AllReadyH.nil)
          case him7 => (simp only [List.getElem?_toArray, List.getElem?_cons_succ, List.getElem?_cons_zero]; rfl)
          case stepm7 =>
            go_simp
            (go_at_call 27; ((with_reducible refine (r16number_any V _ (by omega)).mono ?_)); rintro e w6 ⟨rfl, hb⟩; have BL := Lib.hid (below_next BL.out hb); clear hb)
            go_wp2_with fail
            clear hHeld
            refine hK.out _ _ (trivial) (fun hHeld => ?_)
            clear hK K
            try simp only [Act.put, List.setIfInBounds_toArray, List.set_cons_zero, List.set_cons_succ]
            refine' takeY (i := 7) (oi := _) (v := _) ?him8 (by kernel_rfl) (by kernel_rfl) (by kernel_rfl) (fun _ _ _ h => h) ?hwm8 ?hym8 hHeld ?restm8
            case him8 => (simp only [List.getElem?_toArray, List.getElem?_cons_succ, List.getElem?_cons_zero]; rfl)
            case hwm8 => rfl
            case hym8 => (intro w hSw; (try dsimp only at hSw); go_simp; try with_reducible rfl)
            try simp only [Act.put, List.setIfInBounds_toArray, List.set_cons_zero, List.set_cons_succ]
            refine wpAnyH_done (by kernel_rfl) ?_ _
            refine NoPanic.normal ?_
            have X2 := Lib.hid (X1.out.below BL.out)
            have r0 := X2.out.cell 0; have r1 := X2.out.cell 1
            have f0 := X2.out.free 0; have f1 := X2.out.free 1
            simp at r0 r1
            by_cases e : num V = l.take (j + 1)
            · have R := Lib.hid (show rdV l = some (V, j + 1) by rw [ST.out, VN.out, if_pos e])
              go_wp2
              · rename_i hh
                exfalso
                rw [XT.out, BS_list] at hh
                simp [e] at hh
              have ⟨y0, y1, _⟩ := got_cells (a := .int .i64 V) (b := .int .i64 ((p : Int) + (j : Int) + 1)) X2.out
              exact bodyPost_ret (v := .agg #[.int .i64 V, .int .i64 ((p : Int) + (j : Int) + 1)]) (by simp [results, Try.results37, go_sem, y0, y1]) rfl ⟨by rw [R.out]; simp [gotN, gotE] <;> omega, ((below_next B1.out BL.out).setCell (Nat.le_refl _) _).setCell (Nat.le_refl _) _⟩
            · have R := Lib.hid (show rdV l = none by rw [ST.out, VN.out, if_neg e])
              go_wp2
              · skip
                have ⟨y0, y1, _⟩ := got_cells (a := .int .i64 0) (b := .int .i64 0) X2.out
                exact bodyPost_ret (v := .agg #[.int .i64 0, .int .i64 0]) (by simp [results, Try.results37, go_sem, y0, y1]) rfl ⟨by rw [R.out]; simp [gotN, gotE] <;> omega, ((below_next B1.out BL.out).setCell (Nat.le_refl _) _).setCell (Nat.le_refl _) _⟩
              · rename_i hh
                exfalso
                rw [XT.out, BS_list] at hh
                simp at hh
                exact e hh
        · have x1 : decide ((s[p + j].toNat : Int) < 128) = false := by simp; omega
          have x1' : decide (s[p + j].toNat < 128) = false := by simp; omega
          have QN := Lib.hid (show ∀ q, q < j + 1 → ∀ c, l[q]? = some c → 128 ≤ c.toNat from fun q hq c hc => by
            rcases Nat.lt_or_ge q j with h | h
            · exact Q.out q h c hc
            · obtain rfl : q = j := by omega
              rw [LJ.out] at hc
              cases hc
              omega)
          go_wp2
          go_roundw
          case rel => exact ⟨j + 1, by go_num, by omega, by omega, by rw [VN.out], by rw [FN.out]; go_num, QN.out, B.out⟩
          case measure => simp [intOf]; omega
      · have g2 : decide ((p : Int) + (j : Int) < (p : Int) + 6) = false := by simp; omega
        have g2' : decide (p + j < p + 6) = false := by simp; omega
        have R := Lib.hid (rd_none (l := l) (.inl (show j = 6 by omega)) Q.out)
        have X2 := Lib.hid (X1.out.below B.out)
        have r0 := X2.out.cell 0; have r1 := X2.out.cell 1
        have f0 := X2.out.free 0; have f1 := X2.out.free 1
        simp at r0 r1
        go_wp2
        have ⟨y0, y1, _⟩ := got_cells (a := .int .i64 0) (b := .int .i64 0) X2.out
        exact bodyPost_ret (v := .agg #[.int .i64 0, .int .i64 0]) (by simp [results, Try.results37, go_sem, y0, y1]) rfl ⟨by rw [R.out]; simp [gotN, gotE] <;> omega, ((below_next B1.out B.out).setCell (Nat.le_refl _) _).setCell (Nat.le_refl _) _⟩
    · have g1 : decide ((p : Int) + (j : Int) < (s.size : Int)) = false := by simp; omega
      have g1' : decide (p + j < s.size) = false := by simp; omega
      have R := Lib.hid (rd_none (l := l) (j := j) (.inr (by rw [← hl, List.length_drop]; simp; omega)) Q.out)
      have X2 := Lib.hid (X1.out.below B.out)
      have r0 := X2.out.cell 0; have r1 := X2.out.cell 1
      have f0 := X2.out.free 0; have f1 := X2.out.free 1
      simp at r0 r1
      go_wp2
      have ⟨y0, y1, _⟩ := got_cells (a := .int .i64 0) (b := .int .i64 0) X2.out
      exact bodyPost_ret (v := .agg #[.int .i64 0, .int .i64 0]) (by simp [results, Try.results37, go_sem, y0, y1]) rfl ⟨by rw [R.out]; simp [gotN, gotE] <;> omega, ((below_next B1.out B.out).setCell (Nat.le_refl _) _).setCell (Nat.le_refl _) _⟩
end Go.Proofs.Ytndhpihgeacdfaa
