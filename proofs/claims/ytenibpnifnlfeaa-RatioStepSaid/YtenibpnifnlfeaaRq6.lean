/-
  What package ratio's Text gives back: contract.
  What the laws' own awake gives back: contract.
  Words for the laws of ratios: boxes of two cells.
-/
import Derived.Test.YtenibpnifnlfeaaRq5
import Derived.Test.YtenibpnifnlfeaaNat19
import Derived.Test.YtenibpnifnlfeaaOpenP
namespace Go.Proofs.Ytenibpnifnlfeaa
open Go.RowKit

/-- a ratio's text, by its numbers' decimal digits -/
def texR (dn dd : List Int) (d : Int) : List UInt8 := if d = 1 then textL dn else textL dn ++ [47] ++ textL dd
theorem ret_str {a b : ByteArray} (h : a = b) : Ending.returned (.string a) = .returned (.string b) := by rw [h]
theorem text_cat (x y : List UInt8) : (⟨(x ++ [47] ++ y).toArray⟩ : ByteArray) = (⟨x.toArray⟩ : ByteArray) ++ (⟨#[47]⟩ : ByteArray) ++ (⟨y.toArray⟩ : ByteArray) := by
  apply ByteArray.ext
  simp [ByteArray.data_append]
theorem one_kept {w w' : World} {b o : Nat} {v : Value} (hb : Below w.heap.size w w') (h : w.cell? ⟨b, o, none⟩ = some v) (hz : b < w.heap.size) : w'.cell? ⟨b, o, none⟩ = some v := (hb.cell (p := ⟨b, o, none⟩) hz).trans h
theorem qtext_any (v : Value) (n d : Int) (b L : Nat) (w : World) (dn dd : List Int) (h : Rat w b L v n d) (hd : 0 < d) (hL : L ≤ 6) (hn : Is 10 dn (n / gc n d)) (hdd : Is 10 dd (d / gc n d)) :
    Calls Try.prog 24 #[v] w fun e w' => e = .returned (.string ⟨(texR dn dd (d / gc n d)).toArray⟩) ∧ Below w.heap.size w w' := by
  obtain ⟨a1, l1, c1, z1, a2, l2, c2, z2, rfl, r1, i1, r2, i2, hl1, hl2, _, _⟩ := h
  have B0 := Lib.hid (below_box w (.cells #[.slice a1 l1 c1, .slice a2 l2 c2] 26))
  have n0 := i1.nonneg (by omega)
  have LE := Lib.hid (lo_least n0 hd)
  have LS := Lib.hid (least_any (.agg #[.slice a1 l1 c1, .slice a2 l2 c2]) n d 0 L (w.alloc (.cells #[.slice a1 l1 c1, .slice a2 l2 c2] 26)) ⟨a1, l1, c1, z1, a2, l2, c2, z2, rfl, r1.below B0.out, i1, r2.below B0.out, i2, hl1, hl2, fresh0 _, fresh0 _⟩ hd (by omega))
  have A0 := Lib.hid (show (w.alloc (.cells #[.slice a1 l1 c1, .slice a2 l2 c2] 26)).heap[w.heap.size]? = some (.cells #[.slice a1 l1 c1, .slice a2 l2 c2] 26 (0, 0)) from heap_alloc_new _ _)
  obtain ⟨N, hN⟩ : ∃ N, n / gc n d = N := ⟨_, rfl⟩
  obtain ⟨D, hD⟩ : ∃ D, d / gc n d = D := ⟨_, rfl⟩
  rw [hN, hD] at LS LE
  rw [hN] at hn
  rw [hD] at hdd
  rw [hD]
  have D0 : 0 < D := LE.out.1.2.1
  have DN := Lib.hid hn; have DD := Lib.hid hdd
  clear r1 r2 i1 i2 hN hD hn hdd
  go_enter Try.func24, Try.ntmps24
  go_wp2_with fail
  refine LS.out.mono ?_
  rintro e w1 ⟨_, rfl, ⟨e1, f1, g1, y1, e2, f2, g2, y2, rfl, s1, s2, s3, s4, s5, s6, _, _⟩, hb⟩
  have NB := Lib.hid (show N < 4294967296 ^ 6 from (is_lt s2 (p := 6) (by rw [s1.len]; omega)).2)
  have DB := Lib.hid (show D < 4294967296 ^ 6 from (is_lt s4 (p := 6) (by rw [s3.len]; omega)).2)
  have T1 := Lib.hid (text_short DN.out NB.out)
  have T2 := Lib.hid (text_short DD.out DB.out)
  have S1 := Lib.hid s1; have S2 := Lib.hid s2; have S3 := Lib.hid s3; have S4 := Lib.hid s4
  have A1 := Lib.hid ((hb.block _ (lt_of_block A0.out)).trans A0.out)
  have B1 := Lib.hid (below_next B0.out hb)
  clear s1 s2 s3 s4 hb LS
  have k0 : w1.cell? ⟨w.heap.size, 0, none⟩ = some (.slice a1 l1 c1) := block_cell A1.out
  have k1 : w1.cell? ⟨w.heap.size, 1, none⟩ = some (.slice a2 l2 c2) := block_cell A1.out
  have k2 : w1.frozen? ⟨w.heap.size, 0, none⟩ = false := block_free A1.out
  have k3 : w1.frozen? ⟨w.heap.size, 1, none⟩ = false := block_free A1.out
  go_wp2
  obtain ⟨W2, hW2⟩ : ∃ W2, (w1.setCell ⟨w.heap.size, 0, none⟩ (.slice e1 f1 g1)).setCell ⟨w.heap.size, 1, none⟩ (.slice e2 f2 g2) = W2 := ⟨_, rfl⟩
  have A2 := Lib.hid (show W2.drew.heap[w.heap.size]? = some (.cells #[.slice e1 f1 g1, .slice e2 f2 g2] 26 (0, 0)) by rw [← hW2]; exact two_set A1.out)
  have R1 := Lib.hid (show Row .u32 W2.drew e1 f1 g1 y1 by rw [← hW2]; exact S1.out.box A1.out _ _)
  have R2 := Lib.hid (show Row .u32 W2.drew e2 f2 g2 y2 by rw [← hW2]; exact S3.out.box A1.out _ _)
  have B2 := Lib.hid (show Below w.heap.size w W2.drew by rw [← hW2]; exact ((B1.out.setCell (Nat.le_refl _) _).setCell (Nat.le_refl _) _).drew)
  rw [hW2]
  clear hW2 k0 k1 k2 k3 A1 S1 S3 B1 A0
  have K1 := Lib.hid (show W2.drew.cell? ⟨w.heap.size, 1, none⟩ = some (.slice e2 f2 g2) from block_cell A2.out)
  have sz := lt_of_block A2.out
  have k1 := K1.out
  have w0 : (0 : Int) ≤ 1 := by omega
  have w9 : (1 : Int) ≤ 18446744073709551615 := by omega
  rcases Int.lt_or_le 1 D with g | g
  · have CK := Lib.hid (cmpI_gt g)
    have TX := Lib.hid (show texR dn dd D = textL dn ++ [47] ++ textL dd from if_neg (by omega))
    go_region_held3 (fun w' => w'.cell? ⟨w.heap.size, 1, none⟩ = some (.slice e2 f2 g2))
      (first | exact K1.out | exact one_kept HB4.out (one_kept HB3.out K1.out sz) Z3 | exact one_kept HB3.out K1.out sz)
      (first
        | (go_at_call 44; ((with_reducible refine (nOf_is 1 W2.drew w0 w9).mono ?_)); rintro e w3 ⟨x3, m3, q3, y3, rfl, hr, hi, _, hb⟩; have HR3 := Lib.hid hr; have HI3 := Lib.hid hi; have HB3 := Lib.hid hb; have Z3 := Nat.lt_of_lt_of_le sz hb.size; clear hr hi hb)
        | (go_at_call 34; ((with_reducible refine (nCmp_is e2 f2 g2 y2 D x3 m3 q3 y3 1 w3 (R2.out.below HB3.out) S4.out HR3.out HI3.out 1 CK.out).mono ?_)); rintro e w4 ⟨rfl, hb⟩; have HB4 := Lib.hid hb; clear hb))
    all_goals
      have B4 := Lib.hid (show Below W2.drew.heap.size W2.drew w4.drew from (below_next HB3.out HB4.out).drew)
      have A4 := Lib.hid ((B4.out.block _ sz).trans A2.out)
      have J0 := Lib.hid (show w4.drew.cell? ⟨w.heap.size, 0, none⟩ = some (.slice e1 f1 g1) from block_cell A4.out)
      have J1 := Lib.hid (show w4.drew.cell? ⟨w.heap.size, 1, none⟩ = some (.slice e2 f2 g2) from block_cell A4.out)
      have j0 := J0.out
      have j1 := J1.out
      have sz4 := lt_of_block A4.out
      obtain ⟨SN, hSN⟩ : ∃ S : ByteArray, (⟨(textL dn).toArray⟩ : ByteArray) = S := ⟨_, rfl⟩
      obtain ⟨SD, hSD⟩ : ∃ S : ByteArray, (⟨(textL dd).toArray⟩ : ByteArray) = S := ⟨_, rfl⟩
      have t1 : SN.size ≤ 100 := by rw [← hSN]; exact T1.out
      have t2 : SD.size ≤ 100 := by rw [← hSD]; exact T2.out
      obtain ⟨S1, hS1⟩ : ∃ S : ByteArray, SN ++ (⟨#[47]⟩ : ByteArray) = S := ⟨_, rfl⟩
      obtain ⟨S2', hS2⟩ : ∃ S : ByteArray, S1 ++ SD = S := ⟨_, rfl⟩
      have t0 : (⟨#[47]⟩ : ByteArray).size = 1 := rfl
      have t3 : S1.size ≤ 101 := by rw [← hS1, ByteArray.size_append]; omega
      have p1 : ∀ W : World, (Op.stringOp .add SN ⟨#[47]⟩).run Try.prog W = .ok (.string S1) W := fun W => by rw [← hS1]; exact run_string_add_sum _ _ _ (by omega)
      have p2 : ∀ W : World, (Op.stringOp .add S1 SD).run Try.prog W = .ok (.string S2') W := fun W => by rw [← hS2]; exact run_string_add_sum _ _ _ (by omega)
      have TT := Lib.hid (show (⟨(texR dn dd D).toArray⟩ : ByteArray) = S2' by rw [TX.out, ← hS2, ← hS1, ← hSN, ← hSD]; exact text_cat _ _)
      have HSN := Lib.hid hSN; have HSD := Lib.hid hSD
      clear hSN hSD hS1 hS2 t0
      have o1 : f1 ≤ 50 := by omega
      have o2 : f2 ≤ 50 := by omega
      go_wp2
      go_region_held3 (fun w' => w'.cell? ⟨w.heap.size, 0, none⟩ = some (.slice e1 f1 g1) ∧ w'.cell? ⟨w.heap.size, 1, none⟩ = some (.slice e2 f2 g2))
        (first | exact ⟨J0.out, J1.out⟩ | exact pair_kept HB6.out (pair_kept HB5.out ⟨J0.out, J1.out⟩ sz4) Z5 | exact pair_kept HB5.out ⟨J0.out, J1.out⟩ sz4)
        (first
          | (go_at_call 45; ((with_reducible refine (nText_any e1 f1 g1 y1 N dn w4.drew (R1.out.below B4.out) S2.out o1 DN.out).mono ?_)); rintro e w5 ⟨rfl, hb⟩; rw [HSN.out]; have HB5 := Lib.hid hb; have Z5 := Nat.lt_of_lt_of_le sz4 hb.size; clear hb)
          | (go_at_call 45; ((with_reducible refine (nText_any e2 f2 g2 y2 D dd w5 ((R2.out.below B4.out).below HB5.out) S4.out o2 DD.out).mono ?_)); rintro e w6 ⟨rfl, hb⟩; rw [HSD.out]; have HB6 := Lib.hid hb; clear hb))
      all_goals
        go_wp2
        go_ret
        exact ⟨ret_str TT.out.symm, below_next (below_next (below_next B2.out B4.out) HB5.out) HB6.out⟩
  · obtain rfl : D = 1 := by omega
    have CK := Lib.hid (cmpI_eq (m := 1) (n := 1) rfl)
    have TX := Lib.hid (show texR dn dd 1 = textL dn from if_pos rfl)
    go_region_held3 (fun w' => w'.cell? ⟨w.heap.size, 1, none⟩ = some (.slice e2 f2 g2))
      (first | exact K1.out | exact one_kept HB4.out (one_kept HB3.out K1.out sz) Z3 | exact one_kept HB3.out K1.out sz)
      (first
        | (go_at_call 44; ((with_reducible refine (nOf_is 1 W2.drew w0 w9).mono ?_)); rintro e w3 ⟨x3, m3, q3, y3, rfl, hr, hi, _, hb⟩; have HR3 := Lib.hid hr; have HI3 := Lib.hid hi; have HB3 := Lib.hid hb; have Z3 := Nat.lt_of_lt_of_le sz hb.size; clear hr hi hb)
        | (go_at_call 34; ((with_reducible refine (nCmp_is e2 f2 g2 y2 1 x3 m3 q3 y3 1 w3 (R2.out.below HB3.out) S4.out HR3.out HI3.out 0 CK.out).mono ?_)); rintro e w4 ⟨rfl, hb⟩; have HB4 := Lib.hid hb; clear hb))
    all_goals
      have B4 := Lib.hid (below_next HB3.out HB4.out)
      have A4 := Lib.hid ((B4.out.block _ sz).trans A2.out)
      have j0 : w4.cell? ⟨w.heap.size, 0, none⟩ = some (.slice e1 f1 g1) := block_cell A4.out
      go_wp2_with fail
      refine (nText_any e1 f1 g1 y1 N dn w4 (R1.out.below B4.out) S2.out (by omega) DN.out).mono ?_
      rintro e w5 ⟨rfl, hb⟩
      have HB5 := Lib.hid hb
      clear hb
      go_wp2
      go_ret
      exact ⟨ret_str (show (⟨(textL dn).toArray⟩ : ByteArray) = ⟨(texR dn dd 1).toArray⟩ by rw [TX.out]), below_next (below_next B2.out B4.out) HB5.out⟩
end Go.Proofs.Ytenibpnifnlfeaa
namespace Go.Proofs.Ytenibpnifnlfeaa
open Go.RowKit

theorem lo_half : Lo 1 2 := ⟨by omega, by omega, by decide⟩
theorem awake_text1 : texR [1] [2] 2 = [49, 47, 50] := by decide +kernel
theorem awake_text2 : texR [7] [1] 1 = [55] := by decide +kernel
theorem is_dig {x : Int} (h0 : 0 < x) (h1 : x < 10) : Is 10 [x] x := ⟨fun z hz => by simp at hz; subst hz; omega, by simp [Top]; omega, by simp [val]⟩

theorem qawake_any (w : World) : Calls Try.prog 9 #[] w fun e w' => e = .returned (.bool true) ∧ Below w.heap.size w w' := by
  have B0 := Lib.hid (below_box w (.cells #[.int .i64 1, .int .i64 3, .int .i64 1, .int .i64 6] 51))
  have C0 := Lib.hid (show ∀ j, (w.alloc (.cells #[.int .i64 1, .int .i64 3, .int .i64 1, .int .i64 6] 51)).cell? ⟨w.heap.size, j, none⟩ = #[Value.int .i64 1, Value.int .i64 3, Value.int .i64 1, Value.int .i64 6][j]? from fun j => World.cell?_alloc_at _ _ _ _ rfl)
  have RP := Lib.hid (show RowP (w.alloc (.cells #[.int .i64 1, .int .i64 3, .int .i64 1, .int .i64 6] 51)) (some ⟨w.heap.size, 0, none⟩) 2 2 [(1, 3), (1, 6)] by
    refine ⟨rfl, Nat.le_refl _, by omega, (fun e => by cases e), fun i hi => ?_⟩
    match i, hi with
    | 0, _ => exact ⟨w.heap.size, 0, rfl, C0.out 0, C0.out 1⟩
    | 1, _ => exact ⟨w.heap.size, 0, rfl, C0.out 2, C0.out 3⟩)
  have SM := Lib.hid (qsum_any _ 2 2 [(1, 3), (1, 6)] _ RP.out (by intro p hp; simp at hp; rcases hp with rfl | rfl <;> (unfold FitW; omega)) (by omega))
  have ES := Lib.hid (show sumR [(1, 3), (1, 6)] = (9, 18) by rw [sumR_two]; rfl)
  have T1 := Lib.hid awake_text1
  have T2 := Lib.hid awake_text2
  clear RP C0
  go_enter Try.func9, Try.ntmps9
  go_wp2_with fail
  refine SM.out.mono ?_
  rintro e w1 ⟨v1, n, d, rfl, hr, hlo, heq, hb⟩
  rw [ES.out] at heq
  obtain ⟨rfl, rfl⟩ := lo_unique hlo lo_half (show n * 2 = 1 * d by simp at heq; omega)
  have R1 := Lib.hid hr; have B1 := Lib.hid (below_next B0.out hb)
  clear hr hlo heq hb SM
  go_wp2_with fail
  refine (qtext_any v1 1 2 0 _ w1 [1] [2] R1.out (by omega) (by omega) (is_dig (by decide) (by decide)) (is_dig (by decide) (by decide))).mono ?_
  rintro e w2 ⟨rfl, hb⟩
  rw [show (2 : Int) / gc 1 2 = 2 by decide, T1.out]
  have B2 := Lib.hid (below_next B1.out hb)
  clear hb
  go_wp2_with fail
  refine (whole_any 7 w2 (by omega) (by omega)).mono ?_
  rintro e w3 ⟨v3, rfl, hr, hb⟩
  have R3 := Lib.hid hr; have B3 := Lib.hid (below_next B2.out hb)
  clear hr hb
  go_wp2_with fail
  refine (qtext_any v3 7 1 0 _ w3 [7] [1] R3.out (by omega) (by omega) (is_dig (by decide) (by decide)) (is_dig (by decide) (by decide))).mono ?_
  rintro e w4 ⟨rfl, hb⟩
  rw [show (1 : Int) / gc 7 1 = 1 by decide, T2.out]
  have B4 := Lib.hid (below_next B3.out hb)
  clear hb
  go_wp2_with fail
  refine (whole_any 0 w4 (by omega) (by omega)).mono ?_
  rintro e w5 ⟨v5, rfl, hr, hb⟩
  have R5 := Lib.hid hr; have B5 := Lib.hid (below_next B4.out hb)
  clear hr hb
  go_wp2_with fail
  refine (qcheck_yes v5 0 1 _ 0 w5 R5.out (by omega)).mono ?_
  rintro e w6 ⟨rfl, hb⟩
  have B6 := Lib.hid (below_next B5.out hb)
  clear hb
  go_wp2
  go_ret
  exact ⟨rfl, B6.out⟩
end Go.Proofs.Ytenibpnifnlfeaa
namespace Go.Proofs.Ytenibpnifnlfeaa
open Go.RowKit

/-- block g holds just the two values -/
def Box (W : World) (T : TypeId) (g : Nat) (x y : Value) : Prop := W.heap[g]? = some (.cells #[x, y] T (0, 0))
theorem Box.below {W W' : World} {T : TypeId} {g : Nat} {x y : Value} (h : Box W T g x y) (hb : Below W.heap.size W W') : Box W' T g x y := (hb.block g (lt_of_block h)).trans h
theorem Box.c0 {W : World} {T : TypeId} {g : Nat} {x y : Value} (h : Box W T g x y) : W.cell? ⟨g, 0, none⟩ = some x := block_cell h
theorem Box.c1 {W : World} {T : TypeId} {g : Nat} {x y : Value} (h : Box W T g x y) : W.cell? ⟨g, 1, none⟩ = some y := block_cell h
theorem Box.drew {W : World} {T : TypeId} {g : Nat} {x y : Value} (h : Box W T g x y) : Box W.drew T g x y := h
theorem Box.new (W : World) (T : TypeId) (x y : Value) : Box (W.alloc (.cells #[x, y] T)) T W.heap.size x y := heap_alloc_new _ _
theorem Rat.drew {W : World} {base L : Nat} {v : Value} {n d : Int} (h : Rat W base L v n d) : Rat W.drew base L v n d := h
theorem RowP.drew {W : World} {a : Option Addr} {len cap : Nat} {ps : List (Int × Int)} (h : RowP W a len cap ps) : RowP W.drew a len cap ps := h
/-- a slice of one pair, as it is built -/
theorem rowP_one (W : World) (x y : Int) (T : TypeId) : RowP (W.alloc (.cells #[.int .i64 x, .int .i64 y] T)) (some ⟨W.heap.size, 0, none⟩) 1 1 [(x, y)] := by
  refine ⟨rfl, Nat.le_refl _, by omega, (fun e => by cases e), fun i hi => ?_⟩
  obtain rfl : i = 0 := by omega
  exact ⟨W.heap.size, 0, rfl, World.cell?_alloc_at _ _ _ _ rfl, World.cell?_alloc_at _ _ _ _ rfl⟩
theorem fit_mk (p : Int × Int) : FitW (mkW p) ∧ (mkW p).1 ≤ 1048575 ∧ (mkW p).2 ≤ 1048576 := by
  have h1 := and_bd p.1
  have h2 := and_bd p.2
  unfold mkW FitW
  refine ⟨⟨h1.1, ?_, ?_, ?_⟩, ?_, ?_⟩ <;> simp only <;> omega
theorem fit_ok {p : Int × Int} (h : FitW p) : OkW p := ⟨h.1, h.2.1, by have := h.2.2.1; omega, h.2.2.2⟩
theorem fits_mk (ps : List (Int × Int)) : ∀ p ∈ (ps.take 8).map mkW, FitW p := by
  intro p hp
  obtain ⟨q, _, rfl⟩ := List.mem_map.mp hp
  exact (fit_mk q).1
theorem oks_mk (ps : List (Int × Int)) : ∀ p ∈ (ps.take 8).map mkW, OkW p := fun p hp => fit_ok (fits_mk ps p hp)
/-- a ratio of fewer limbs, by its numbers -/
theorem Rat.shrink {W : World} {base L : Nat} {v : Value} {n d : Int} (h : Rat W base L v n d) {L' : Nat} (hn : n < 4294967296 ^ L') (hd : d < 4294967296 ^ L') : Rat W base L' v n d := by
  obtain ⟨an, ln, cn, zn, ad, ld, cd, zd, rfl, h1, h2, h3, h4, h5, h6, h7⟩ := h
  exact ⟨an, ln, cn, zn, ad, ld, cd, zd, rfl, h1, h2, h3, h4, by rw [← h1.len]; exact h2.len_le (by omega) hn, by rw [← h3.len]; exact h4.len_le (by omega) hd, h7⟩
theorem Rat.nonneg {W : World} {base L : Nat} {v : Value} {n d : Int} (h : Rat W base L v n d) : 0 ≤ n ∧ 0 ≤ d := by
  obtain ⟨an, ln, cn, zn, ad, ld, cd, zd, rfl, h1, h2, h3, h4, _⟩ := h
  exact ⟨h2.nonneg (by omega), h4.nonneg (by omega)⟩
end Go.Proofs.Ytenibpnifnlfeaa
