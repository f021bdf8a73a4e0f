/-
  Package hold as landed: Held, Left, Len, Of: contracts.
-/
import Derived.Test.YtphlkpkbdnddlaaHz6
namespace Go.Proofs.Ytphlkpkbdnddlaa
open Go.RowKit

theorem owns_nil (w : World) (base : Nat) (T : TypeId) (k : Nat) : w.ownsRow base T k (.slice none 0 0) 0 [] := ⟨by simp, .inl ⟨rfl, rfl⟩⟩
theorem keeps_none {w w' : World} {a : Option Addr} (ha : a = none) {len cap : Nat} (k : Keeps (fun k => (Value.slice a len cap).ownBlock = some k) w w') : Below w.heap.size w w' := by
  subst ha
  exact ⟨k.os, k.tape, k.output, k.size, fun x hx => k.block x hx (fun e => by cases e)⟩
theorem hsum0 {w : World} {g m : Nat} {A : Nat → Prop} {an : Option Addr} {ln cn : Nat} {ad : Option Addr} {ld cd : Nat} {N D : Int} {hs : List Hd} (h : LH w g m A an ln cn ad ld cd N D hs) (gd : GoodL N D hs) (hl : hs.length ≤ 21) :
    Calls Try.prog 42 #[.pointer (some ⟨g, 0, none⟩), .slice none 0 0] w (GivesLo w 43 (sumH hs).1 (sumH hs).2) :=
  (hsum_any h gd none 0 0 [] (owns_nil w 0 _ 2) (fun _ q => by cases q) (by simpa using hl)).mono fun _ _ ⟨v, n, d, h1, h2, h3, h4, h5⟩ => ⟨v, n, d, h1, h2, h3, h4, keeps_none rfl h5⟩
theorem hheld43 {w : World} {g m : Nat} {A : Nat → Prop} {an : Option Addr} {ln cn : Nat} {ad : Option Addr} {ld cd : Nat} {N D : Int} {hs : List Hd} (h : LH w g m A an ln cn ad ld cd N D hs) (gd : GoodL N D hs) (hl : hs.length ≤ 21) :
    Calls Try.prog 26 #[.pointer (some ⟨g, 0, none⟩)] w (GivesLo w 43 (sumH hs).1 (sumH hs).2) := by
  have H := Lib.hid h
  have GD := Lib.hid gd
  have HL := Lib.hid hl
  have X0 := Lib.hid (Box.new w 27 (.slice none 0 0) (.slice none 0 0))
  have B0 := Lib.hid (wbox w (.cells #[.slice none 0 0, .slice none 0 0] 27))
  clear h gd hl
  go_enter Try.func26, Try.ntmps26
  go_wp2_with fail
  refine (hsum0 (H.out.below B0.out) GD.out HL.out).mono ?_
  rintro e w2 ⟨_, n, d, rfl, hr, hlo, he, hb⟩
  obtain ⟨p1, p2, p3, z1, q1, q2, q3, z2, rfl, _⟩ := id hr
  have X2 := Lib.hid (X0.out.below hb)
  have B2 := Lib.hid (below_next B0.out hb)
  have R1 := Lib.hid (box_set X2.out hr).2
  have LO := Lib.hid hlo
  have EQ := Lib.hid he
  have x0 := X2.out.c0; have x1 := X2.out.c1
  have f0 := Blk.free X2.out 0; have f1 := Blk.free X2.out 1
  clear hr hb hlo he
  go_wp2
  exact bodyPost_ret (v := .agg #[.slice p1 p2 p3, .slice q1 q2 q3]) (by simp [results, Try.results26, go_sem, x0, x1]) rfl ⟨_, n, d, rfl, R1.out, LO.out, EQ.out, (B2.out.setCell (Nat.le_refl _) _).setCell (Nat.le_refl _) _⟩
theorem hheld_nil (w : World) : Calls Try.prog 26 #[.pointer none] w (GivesQ w 2 0 1) := by
  have X0 := Lib.hid (Box.new w 27 (.slice none 0 0) (.slice none 0 0))
  have B0 := Lib.hid (wbox w (.cells #[.slice none 0 0, .slice none 0 0] 27))
  go_enter Try.func26, Try.ntmps26
  go_wp2_with fail
  refine (whole_any 0 _ (by omega) (by omega)).mono ?_
  rintro e w2 ⟨_, rfl, hr, hb⟩
  obtain ⟨p1, p2, p3, z1, q1, q2, q3, z2, rfl, _⟩ := id hr
  have X2 := Lib.hid (X0.out.below hb)
  have B2 := Lib.hid (below_next B0.out hb)
  have R1 := Lib.hid (box_set X2.out hr).2
  have x0 := X2.out.c0; have x1 := X2.out.c1
  have f0 := Blk.free X2.out 0; have f1 := Blk.free X2.out 1
  clear hr hb
  go_wp2
  exact bodyPost_ret (v := .agg #[.slice p1 p2 p3, .slice q1 q2 q3]) (by simp [results, Try.results26, go_sem, x0, x1]) rfl ⟨_, rfl, R1.out, (B2.out.setCell (Nat.le_refl _) _).setCell (Nat.le_refl _) _⟩
theorem hlen_nil' (w : World) : Calls Try.prog 30 #[.pointer none] w fun z w' => z = .returned (.int .i64 0) ∧ Below w.heap.size w w' := by
  go_enter Try.func30, Try.ntmps30
  go_wp2
  go_ret
  exact ⟨rfl, Below.refl _ _⟩
theorem len_map_run {w : World} {m : Nat} {es : Array MapEntry} {clock : Nat} (ty : TypeId) (h : w.heap[m]? = some (.map es clock)) : (Builtin.len_ #[66] ty #[.map (some m)]).run Try.prog w = .ok (.int .i64 es.size) w := by
  simp [Builtin.len_, run_underlying Try.underlying66, MapKept.run_getObj_map h, Result.andThen, goInt]
theorem hlen_any' {w : World} {g m : Nat} {A : Nat → Prop} {an : Option Addr} {ln cn : Nat} {ad : Option Addr} {ld cd : Nat} {N D : Int} {hs : List Hd} (h : LH w g m A an ln cn ad ld cd N D hs) :
    Calls Try.prog 30 #[.pointer (some ⟨g, 0, none⟩)] w fun z w' => z = .returned (.int .i64 (hs.length : Int)) ∧ Below w.heap.size w w' := by
  have H := Lib.hid h
  have c2 := H.out.blk.cell 2
  obtain ⟨es, clock, hm⟩ := H.out.map
  have hz := MapH.len hm
  have hlen := fun ty => len_map_run ty hm.blk
  rw [hz] at hlen
  simp at c2
  clear h hz hm
  go_enter Try.func30, Try.ntmps30
  go_wp2
  go_ret
  exact ⟨rfl, Below.refl _ _⟩
theorem lo_zero {n d : Int} (h : Lo n d) (h0 : n * 1 = 0 * d) : n = 0 ∧ d = 1 := by
  have hn : n = 0 := by omega
  subst hn
  obtain ⟨x, y, e1, e2, hy, hg⟩ := h.nat
  have : x = 0 := by omega
  subst this
  rw [Nat.gcd_zero_left] at hg
  subst hg
  exact ⟨rfl, e2⟩
theorem hleft_any' {w : World} {g m : Nat} {A : Nat → Prop} {an : Option Addr} {ln cn : Nat} {ad : Option Addr} {ld cd : Nat} {N D : Int} {hs : List Hd} (h : LH w g m A an ln cn ad ld cd N D hs) (gd : GoodL N D hs) (hl : hs.length ≤ 21) :
    Calls Try.prog 29 #[.pointer (some ⟨g, 0, none⟩)] w (GivesLo w 86 (N * (sumH hs).2 - (sumH hs).1 * D) (D * (sumH hs).2)) := by
  have H := Lib.hid h
  have GD := Lib.hid gd
  have HL := Lib.hid hl
  have X0 := Lib.hid (Box.new w 27 (.slice none 0 0) (.slice none 0 0))
  have B0 := Lib.hid (wbox w (.cells #[.slice none 0 0, .slice none 0 0] 27))
  clear h gd hl
  go_enter Try.func29, Try.ntmps29
  go_wp2_with fail
  refine (hroom_any (H.out.below B0.out) GD.out.d0).mono ?_
  rintro e w2 ⟨v2, rfl, hr, hb⟩
  have X2 := Lib.hid (X0.out.below hb)
  have B2 := Lib.hid (below_next B0.out hb)
  have R2 := Lib.hid hr
  clear hr hb
  go_wp2_with fail
  refine (hheld43 (H.out.below B2.out) GD.out HL.out).mono ?_
  rintro e w3 ⟨v3, n, d, rfl, hr, hlo, he, hb⟩
  have X3 := Lib.hid (X2.out.below hb)
  have B3 := Lib.hid (below_next B2.out hb)
  have R2 := Lib.hid (R2.out.below hb)
  have R3 := Lib.hid hr
  have LO := Lib.hid hlo
  have EQ := Lib.hid he
  clear hr hb hlo he
  go_wp2_with fail
  refine (qsub_any _ _ N D n d _ _ 43 _ (R2.out.mono (Nat.le_refl _) (by omega)) R3.out GD.out.d0 LO.out.2.1 GD.out.n0 LO.out.1 (by omega)).mono ?_
  rintro e w4 ⟨v4, er, rfl, hb, hq⟩
  have hle : n * D ≤ N * d := by
    have hf := fit_le.mp GD.out.fit
    have hs2 := (sumH_frac GD.out.each).2
    refine Int.le_of_mul_le_mul_right ?_ hs2
    have e1 : n * D * (sumH hs).2 = (sumH hs).1 * D * d := by have := EQ.out; grind
    have e2 := Int.mul_le_mul_of_nonneg_right hf (show 0 ≤ d by have := LO.out.2.1; omega)
    have e3 : N * (sumH hs).2 * d = N * d * (sumH hs).2 := by grind
    omega
  rcases hq with ⟨h1, _, _⟩ | ⟨_, rfl, n2, d2, hr, hlo, he⟩
  · omega
  have hN : n2 * (D * (sumH hs).2) = (N * (sumH hs).2 - (sumH hs).1 * D) * d2 := by
    have hd := LO.out.2.1
    have hq := EQ.out
    refine Int.eq_of_mul_eq_mul_right (show d ≠ 0 by omega) ?_
    grind
  have X4 := Lib.hid (X3.out.below hb)
  have B4 := Lib.hid (below_next B3.out hb)
  have LO2 := Lib.hid hlo
  have EQ2 := Lib.hid hN
  obtain ⟨p1, p2, p3, z1, q1, q2, q3, z2, rfl, _⟩ := id hr
  obtain ⟨w5, hw5⟩ : ∃ w5, w4.alloc (.cells #[.slice p1 p2 p3, .slice q1 q2 q3] 27) = w5 := ⟨_, rfl⟩
  have KB := Lib.hid (show Box w5 27 w4.heap.size (.slice p1 p2 p3) (.slice q1 q2 q3) by rw [← hw5]; exact Box.new _ _ _ _)
  have b5 : Below w4.heap.size w4 w5 := by rw [← hw5]; exact wbox _ _
  have X5 := Lib.hid (X4.out.below b5)
  have B5 := Lib.hid (below_next B4.out b5)
  have R5 := Lib.hid (box_set X5.out (hr.below b5)).2
  have x0 := X5.out.c0; have x1 := X5.out.c1
  have f0 := Blk.free X5.out 0; have f1 := Blk.free X5.out 1
  have y0 := KB.out.c0; have y1 := KB.out.c1
  clear hr hb hlo he hN hle b5
  go_wp2
  exact bodyPost_ret (v := .agg #[.slice p1 p2 p3, .slice q1 q2 q3]) (by simp [results, Try.results29, go_sem, x0, x1]) rfl ⟨_, n2, d2, rfl, R5.out, LO2.out, EQ2.out, (B5.out.setCell (Nat.le_refl _) _).setCell (Nat.le_refl _) _⟩
theorem hleft_nil' (w : World) : Calls Try.prog 29 #[.pointer none] w (GivesLo w 2 0 1) := by
  have X0 := Lib.hid (Box.new w 27 (.slice none 0 0) (.slice none 0 0))
  have B0 := Lib.hid (wbox w (.cells #[.slice none 0 0, .slice none 0 0] 27))
  go_enter Try.func29, Try.ntmps29
  go_wp2_with fail
  refine (hroom_nil _).mono ?_
  rintro e w2 ⟨v2, rfl, hr, hb⟩
  have X2 := Lib.hid (X0.out.below hb)
  have B2 := Lib.hid (below_next B0.out hb)
  have R2 := Lib.hid hr
  clear hr hb
  go_wp2_with fail
  refine (hheld_nil _).mono ?_
  rintro e w3 ⟨v3, rfl, hr, hb⟩
  have X3 := Lib.hid (X2.out.below hb)
  have B3 := Lib.hid (below_next B2.out hb)
  have R2 := Lib.hid (R2.out.below hb)
  have R3 := Lib.hid hr
  clear hr hb
  go_wp2_with fail
  refine (qsub_any _ _ 0 1 0 1 _ _ 2 _ R2.out R3.out (by omega) (by omega) (by omega) (by omega) (by omega)).mono ?_
  rintro e w4 ⟨v4, er, rfl, hb, hq⟩
  rcases hq with ⟨h1, _, _⟩ | ⟨_, rfl, n2, d2, hr, hlo, he⟩
  · omega
  obtain ⟨rfl, rfl⟩ := lo_zero hlo (by omega)
  have hr := hr.tight (p := 1) (by omega) (by omega)
  have X4 := Lib.hid (X3.out.below hb)
  have B4 := Lib.hid (below_next B3.out hb)
  have LO2 := Lib.hid hlo
  obtain ⟨p1, p2, p3, z1, q1, q2, q3, z2, rfl, _⟩ := id hr
  obtain ⟨w5, hw5⟩ : ∃ w5, w4.alloc (.cells #[.slice p1 p2 p3, .slice q1 q2 q3] 27) = w5 := ⟨_, rfl⟩
  have KB := Lib.hid (show Box w5 27 w4.heap.size (.slice p1 p2 p3) (.slice q1 q2 q3) by rw [← hw5]; exact Box.new _ _ _ _)
  have b5 : Below w4.heap.size w4 w5 := by rw [← hw5]; exact wbox _ _
  have X5 := Lib.hid (X4.out.below b5)
  have B5 := Lib.hid (below_next B4.out b5)
  have R5 := Lib.hid (box_set X5.out (hr.below b5)).2
  have x0 := X5.out.c0; have x1 := X5.out.c1
  have f0 := Blk.free X5.out 0; have f1 := Blk.free X5.out 1
  have y0 := KB.out.c0; have y1 := KB.out.c1
  clear hr hb hlo he b5
  go_wp2
  exact bodyPost_ret (v := .agg #[.slice p1 p2 p3, .slice q1 q2 q3]) (by simp [results, Try.results29, go_sem, x0, x1]) rfl ⟨_, 0, 1, rfl, R5.out.mono (Nat.le_refl _) (by omega), LO2.out, by omega, (B5.out.setCell (Nat.le_refl _) _).setCell (Nat.le_refl _) _⟩
end Go.Proofs.Ytphlkpkbdnddlaa
