/-
  What package ratio's Whole, Of, Check and Cmp give back: contracts.
  What package ratio's Cmp, Least, level and lower give back: contracts.
  What package ratio's level and lower give back: contracts.
-/
import Derived.Test.YtphlkpkbdnddlaaRq2
import Derived.Test.YtphlkpkbdnddlaaRatA
namespace Go.Proofs.Ytphlkpkbdnddlaa
open Go.RowKit

/-- a row of numbers is as it was where cells that hold slices are written -/
theorem Row.box {k : IntKind} {W : World} {a : Option Addr} {len cap : Nat} {zs : List Int} {g o1 o2 : Nat} {x1 x2 : Option Addr} {l1 c1 l2 c2 : Nat} {T : TypeId} (h : Row k W a len cap zs)
    (hg : W.heap[g]? = some (.cells #[.slice x1 l1 c1, .slice x2 l2 c2] T (0, 0))) (u v : Value) : Row k ((W.setCell ⟨g, o1, none⟩ u).setCell ⟨g, o2, none⟩ v) a len cap zs := by
  refine ⟨h.1, h.2.1, h.2.2.1, h.2.2.2.1, fun i hi => ?_⟩
  obtain ⟨b, off, ha, hc⟩ := h.2.2.2.2 i hi
  refine ⟨b, off, ha, ?_⟩
  have hb : b ≠ g := by
    rintro rfl
    rw [block_cell hg] at hc
    match off + i, hc with
    | 0, hc => simp at hc
    | 1, hc => simp at hc
    | j + 2, hc => simp at hc
  have e : ((W.setCell ⟨g, o1, none⟩ u).setCell ⟨g, o2, none⟩ v).heap[b]? = W.heap[b]? := by
    rw [Below.heap_setCell _ _ _ _ (by simpa using hb), Below.heap_setCell _ _ _ _ (by simpa using hb)]
  exact (World.cell?_of_block (w := W) e).trans hc
/-- a call that answers a ratio, wherever its rows lie -/
def GivesQ (w : World) (L : Nat) (n d : Int) (e : Ending) (w' : World) : Prop :=
  ∃ v, e = .returned v ∧ Rat w' 0 L v n d ∧ Below w.heap.size w w'
theorem fresh0 (a : Option Addr) : Fresh 0 a := fun _ _ => Nat.zero_le _
theorem GivesR.q {w : World} {L : Nat} {n d : Int} {e : Ending} {w' : World} (h : GivesR w L n d e w') : GivesQ w L n d e w' := by
  obtain ⟨v, h1, h2, h3⟩ := h
  exact ⟨v, h1, h2.mono (Nat.zero_le _) (Nat.le_refl _), h3⟩

theorem whole_any (n : Int) (w : World) (n0 : 0 ≤ n) (n1 : n ≤ 18446744073709551615) : Calls Try.prog 48 #[.int .u64 n] w (GivesQ w 2 n 1) := by
  have B0 := Lib.hid (below_box w (.cells #[.slice none 0 0, .slice none 0 0] 27))
  have H0 := Lib.hid (show (w.alloc (.cells #[.slice none 0 0, .slice none 0 0] 27)).heap[w.heap.size]? = some (.cells #[.slice none 0 0, .slice none 0 0] 27 (0, 0)) from heap_alloc_new _ _)
  go_enter Try.func48, Try.ntmps48
  go_wp2_with fail
  obtain ⟨W0, hW0⟩ : ∃ W0, w.alloc (Obj.cells #[Value.slice none 0 0, Value.slice none 0 0] 27) = W0 := ⟨_, rfl⟩
  rw [hW0] at B0 H0 ⊢
  clear hW0
  refine (nOf_is n W0 n0 n1).mono ?_
  rintro e w1 ⟨a1, l1, c1, z1, rfl, hr, hi, hl1, hb⟩
  have R1 := Lib.hid hr; have I1 := Lib.hid hi; have B1 := Lib.hid hb
  clear hr hi hb
  go_wp2_with fail
  refine (nOf_is 1 w1 (by omega) (by omega)).mono ?_
  rintro e w2 ⟨a2, l2, c2, z2, rfl, hr, hi, hl2, hb⟩
  have R2 := Lib.hid hr; have I2 := Lib.hid hi; have B2 := Lib.hid hb
  clear hr hi hb
  have H2 := Lib.hid (((B1.out.block _ (lt_of_block H0.out)).trans H0.out))
  have H3 := Lib.hid (((B2.out.block _ (lt_of_block H2.out)).trans H2.out))
  have s0 : w2.cell? ⟨w.heap.size, 0, none⟩ = some (.slice none 0 0) := block_cell H3.out
  have s1 : w2.cell? ⟨w.heap.size, 1, none⟩ = some (.slice none 0 0) := block_cell H3.out
  have s2 : w2.frozen? ⟨w.heap.size, 0, none⟩ = false := block_free H3.out
  have s3 : w2.frozen? ⟨w.heap.size, 1, none⟩ = false := block_free H3.out
  go_wp2
  refine bodyPost_ret (v := .agg #[.slice a1 l1 c1, .slice a2 l2 c2]) (by simp [results, Try.results48, go_sem, s0, s1]) rfl ⟨_, rfl, ⟨a1, l1, c1, z1, a2, l2, c2, z2, rfl, (R1.out.below B2.out).box H3.out _ _, I1.out, R2.out.box H3.out _ _, I2.out, hl1, hl2, fresh0 _, fresh0 _⟩, ?_⟩
  exact ((below_next (below_next B0.out B1.out) B2.out).setCell (Nat.le_refl _) _).setCell (Nat.le_refl _) _

theorem qof_any (E P : Int) (w : World) (e0 : 0 ≤ E) (e1 : E < 4294967296) (p0 : 1 ≤ P) (p1 : P < 4294967296) :
    Calls Try.prog 60 #[.agg #[.int .i64 E, .int .i64 P]] w (GivesQ w 1 E P) := by
  have E9 : E ≤ 18446744073709551615 := by omega
  have P9 : P ≤ 18446744073709551615 := by omega
  have p00 : 0 ≤ P := by omega
  have x1 : IntKind.u64.wrap E = E := IntWalk.u64_in _ (by omega)
  have x2 : IntKind.u64.wrap P = P := IntWalk.u64_in _ (by omega)
  have bE : decide (E < 0) = false := by simp; omega
  have bP : decide (P < 1) = false := by simp; omega
  go_enter Try.func60, Try.ntmps60
  go_wp2
  obtain ⟨W0, hW0⟩ : ∃ W0, (w.alloc (Obj.cells #[Value.int .i64 E, Value.int .i64 P] 39)).alloc (Obj.cells #[Value.slice none 0 0, Value.slice none 0 0] 27) = W0 := ⟨_, rfl⟩
  have BX := two_boxes w #[Value.int .i64 E, Value.int .i64 P] #[Value.slice none 0 0, Value.slice none 0 0] 39 27
  have H0 := Lib.hid (show W0.drew.heap[w.heap.size + 1]? = some (.cells #[.slice none 0 0, .slice none 0 0] 27 (0, 0)) by rw [← hW0, ← size_alloc w (.cells #[Value.int .i64 E, Value.int .i64 P] 39)]; exact heap_alloc_new _ _)
  rw [hW0] at BX
  have k1 : W0.drew.cell? ⟨w.heap.size, 0, none⟩ = some (.int .i64 E) := BX.1 0
  have k2 : W0.drew.cell? ⟨w.heap.size, 1, none⟩ = some (.int .i64 P) := BX.1 1
  have B0 := Lib.hid (show Below w.heap.size w W0.drew from BX.2.2.2.1.drew)
  have SZ : W0.drew.heap.size = w.heap.size + 2 := BX.2.2.2.2
  have Z0 : w.heap.size < W0.drew.heap.size := by omega
  have Y0 := Lib.hid (show w.heap.size + 1 < W0.drew.heap.size by omega)
  have K1 := Lib.hid k1; have K2 := Lib.hid k2
  clear BX SZ
  rw [hW0]
  clear hW0
  go_region_held3 (fun w' => w'.cell? ⟨w.heap.size, 0, none⟩ = some (.int .i64 E) ∧ w'.cell? ⟨w.heap.size, 1, none⟩ = some (.int .i64 P))
    (first | exact ⟨K1.out, K2.out⟩ | exact pair_kept2 (pair_kept HB2.out (pair_kept HB1.out ⟨K1.out, K2.out⟩ Z0) Z1) | exact pair_kept HB2.out (pair_kept HB1.out ⟨K1.out, K2.out⟩ Z0) Z1 | exact pair_kept HB1.out ⟨K1.out, K2.out⟩ Z0)
    (first
      | (go_at_call 67; ((with_reducible refine (nOf_is E W0.drew e0 E9).mono ?_)); rintro e w1 ⟨a1, l1, c1, z1, rfl, hr, hi, _, hb⟩; have HR1 := Lib.hid hr; have HI1 := Lib.hid hi; have HB1 := Lib.hid hb; have Z1 := Nat.lt_of_lt_of_le Z0 hb.size; clear hr hi hb)
      | (go_at_call 67; ((with_reducible refine (nOf_is P w1 p00 P9).mono ?_)); rintro e w2 ⟨a2, l2, c2, z2, rfl, hr, hi, _, hb⟩; have HR2 := Lib.hid hr; have HI2 := Lib.hid hi; have HB2 := Lib.hid hb; have BB := Lib.hid (below_next HB1.out hb); have H3 := Lib.hid ((BB.out.block _ Y0.out).trans H0.out); have s0 : w2.cell? ⟨w.heap.size + 1, 0, none⟩ = some (.slice none 0 0) := block_cell H3.out; have s1 : w2.cell? ⟨w.heap.size + 1, 1, none⟩ = some (.slice none 0 0) := block_cell H3.out; have s2 : w2.frozen? ⟨w.heap.size + 1, 0, none⟩ = false := block_free H3.out; have s3 : w2.frozen? ⟨w.heap.size + 1, 1, none⟩ = false := block_free H3.out; clear hr hi hb))
  all_goals
    go_wp2
    refine bodyPost_ret (v := .agg #[.slice a1 l1 c1, .slice a2 l2 c2]) (by simp [results, Try.results60, go_sem, s0, s1]) rfl ⟨_, rfl, ⟨a1, l1, c1, z1, a2, l2, c2, z2, rfl, (HR1.out.below HB2.out).box H3.out _ _, HI1.out, HR2.out.box H3.out _ _, HI2.out, ?_, ?_, fresh0 _, fresh0 _⟩, ?_⟩
    · rw [← HR1.out.len]; exact one_limb HI1.out e1
    · rw [← HR2.out.len]; exact one_limb HI2.out p1
    · exact ((below_next B0.out BB.out).setCell (show w.heap.size ≤ w.heap.size + 1 by omega) _).setCell (show w.heap.size ≤ w.heap.size + 1 by omega) _

theorem qcheck_any (a1 : Option Addr) (l1 c1 : Nat) (z1 : List Int) (a2 : Option Addr) (l2 c2 : Nat) (z2 : List Int) (w : World) (h1 : Row .u32 w a1 l1 c1 z1) (h2 : Row .u32 w a2 l2 c2 z2) (r : Bool) (hr : r = true ↔ (Top z1 ∧ Top z2 ∧ z2 ≠ [])) :
    Calls Try.prog 34 #[.agg #[.slice a1 l1 c1, .slice a2 l2 c2]] w fun e w' => e = .returned (.bool r) ∧ Below w.heap.size w w' := by
  obtain ⟨r1, hr1⟩ : ∃ r : Bool, r = true ↔ Top z1 := by
    by_cases h : Top z1
    · exact ⟨true, ⟨fun _ => h, fun _ => rfl⟩⟩
    · exact ⟨false, ⟨fun e => (by cases e), fun e => absurd e h⟩⟩
  obtain ⟨r2, hr2⟩ : ∃ r : Bool, r = true ↔ Top z2 := by
    by_cases h : Top z2
    · exact ⟨true, ⟨fun _ => h, fun _ => rfl⟩⟩
    · exact ⟨false, ⟨fun e => (by cases e), fun e => absurd e h⟩⟩
  have ⟨c9, c8⟩ := h2.cap_le
  have E := Lib.hid (show r = (r1 && (r2 && decide (0 < l2))) by
    rw [Bool.eq_iff_iff, hr, Bool.and_eq_true, Bool.and_eq_true, hr1, hr2, decide_eq_true_eq, ← h2.len, List.length_pos_iff])
  have H1 := Lib.hid h1; have H2 := Lib.hid h2; have HR1 := Lib.hid hr1; have HR2 := Lib.hid hr2
  clear h1 h2 hr1 hr2 hr
  have B0 := Lib.hid (below_box w (.cells #[.slice a1 l1 c1, .slice a2 l2 c2] 27))
  go_enter Try.func34, Try.ntmps34
  go_wp2_with fail
  refine (nCheck_any a1 l1 c1 z1 _ r1 (H1.out.below B0.out) HR1.out).mono ?_
  rintro e w' ⟨rfl, rfl⟩
  cases r1
  · go_wp2
    go_ret
    exact ⟨by rw [E.out]; rfl, B0.out⟩
  · go_wp2_with fail
    refine (nCheck_any a2 l2 c2 z2 _ r2 (H2.out.below B0.out) HR2.out).mono ?_
    rintro e w' ⟨rfl, rfl⟩
    cases r2
    · go_wp2
      go_ret
      exact ⟨by rw [E.out]; rfl, B0.out⟩
    · by_cases h0 : 0 < l2
      · have b0 : decide (0 < l2) = true := by simp; omega
        rw [b0] at E
        go_wp2
        go_ret
        exact ⟨by rw [E.out]; rfl, B0.out⟩
      · have b0 : decide (0 < l2) = false := by simp; omega
        rw [b0] at E
        go_wp2
        go_ret
        exact ⟨by rw [E.out]; rfl, B0.out⟩
theorem is_some {zs : List Int} {n : Int} (h : Is 4294967296 zs n) (hn : 0 < n) : zs ≠ [] := by
  intro e
  subst e
  have := h.2.2
  simp [val] at this
  omega
theorem qcheck_yes (v : Value) (n d : Int) (L b : Nat) (w : World) (h : Rat w b L v n d) (hd : 0 < d) : Calls Try.prog 34 #[v] w fun e w' => e = .returned (.bool true) ∧ Below w.heap.size w w' := by
  obtain ⟨a1, l1, c1, z1, a2, l2, c2, z2, rfl, r1, i1, r2, i2, _, _, _, _⟩ := h
  exact qcheck_any a1 l1 c1 z1 a2 l2 c2 z2 w r1 r2 true ⟨fun _ => ⟨i1.2.1, i2.2.1, is_some i2 hd⟩, fun _ => rfl⟩
end Go.Proofs.Ytphlkpkbdnddlaa
namespace Go.Proofs.Ytphlkpkbdnddlaa
open Go.RowKit

theorem qcmp_any (v u : Value) (n1 d1 n2 d2 : Int) (b1 b2 L1 L2 : Nat) (w : World) (h1 : Rat w b1 L1 v n1 d1) (h2 : Rat w b2 L2 u n2 d2) (hL1 : L1 ≤ 800) (hL2 : L2 ≤ 800) (k : Int) (hk : cmpI (n1 * d2) (n2 * d1) = k) :
    Calls Try.prog 44 #[v, u] w fun e w' => e = .returned (.int .i64 k) ∧ Below w.heap.size w w' := by
  obtain ⟨a1, l1, c1, z1, a2, l2, c2, z2, rfl, r1, i1, r2, i2, hl1, hl2, _, _⟩ := h1
  obtain ⟨a3, l3, c3, z3, a4, l4, c4, z4, rfl, r3, i3, r4, i4, hl3, hl4, _, _⟩ := h2
  have R1 := Lib.hid r1; have R2 := Lib.hid r2; have R3 := Lib.hid r3; have R4 := Lib.hid r4
  have I1 := Lib.hid i1; have I2 := Lib.hid i2; have I3 := Lib.hid i3; have I4 := Lib.hid i4
  have HK := Lib.hid hk
  clear r1 r2 r3 r4 i1 i2 i3 i4 hk
  go_enter Try.func44, Try.ntmps44
  go_wp2
  obtain ⟨W0, hW0⟩ : ∃ W0, (w.alloc (Obj.cells #[Value.slice a1 l1 c1, Value.slice a2 l2 c2] 27)).alloc (Obj.cells #[Value.slice a3 l3 c3, Value.slice a4 l4 c4] 27) = W0 := ⟨_, rfl⟩
  have BX := two_boxes w #[Value.slice a1 l1 c1, Value.slice a2 l2 c2] #[Value.slice a3 l3 c3, Value.slice a4 l4 c4] 27 27
  rw [hW0] at BX
  have k1 : W0.drew.cell? ⟨w.heap.size, 0, none⟩ = some (.slice a1 l1 c1) := BX.1 0
  have k2 : W0.drew.cell? ⟨w.heap.size, 1, none⟩ = some (.slice a2 l2 c2) := BX.1 1
  have k3 : W0.drew.cell? ⟨w.heap.size + 1, 0, none⟩ = some (.slice a3 l3 c3) := BX.2.1 0
  have k4 : W0.drew.cell? ⟨w.heap.size + 1, 1, none⟩ = some (.slice a4 l4 c4) := BX.2.1 1
  have B0 := Lib.hid (show Below w.heap.size w W0.drew from BX.2.2.2.1.drew)
  have Z0 : w.heap.size + 2 ≤ W0.drew.heap.size := Nat.le_of_eq BX.2.2.2.2.symm
  have K1 := Lib.hid k1; have K2 := Lib.hid k2; have K3 := Lib.hid k3; have K4 := Lib.hid k4
  clear BX
  rw [hW0]
  clear hW0
  have o1 : l1 ≤ 800 := by omega
  have o2 : l2 ≤ 800 := by omega
  have o3 : l3 ≤ 800 := by omega
  have o4 : l4 ≤ 800 := by omega
  have o9 : 800 ≤ 1000 := by omega
  go_region_held3 (fun w' => w'.cell? ⟨w.heap.size, 0, none⟩ = some (.slice a1 l1 c1) ∧ w'.cell? ⟨w.heap.size, 1, none⟩ = some (.slice a2 l2 c2) ∧ w'.cell? ⟨w.heap.size + 1, 0, none⟩ = some (.slice a3 l3 c3) ∧ w'.cell? ⟨w.heap.size + 1, 1, none⟩ = some (.slice a4 l4 c4))
    (first | exact ⟨K1.out, K2.out, K3.out, K4.out⟩ | exact four_kept HB3.out (four_kept HB2.out (four_kept HB1.out ⟨K1.out, K2.out, K3.out, K4.out⟩ Z0) Z1) Z2 | exact four_kept HB2.out (four_kept HB1.out ⟨K1.out, K2.out, K3.out, K4.out⟩ Z0) Z1 | exact four_kept HB1.out ⟨K1.out, K2.out, K3.out, K4.out⟩ Z0)
    (first
      | (go_at_call 62; ((with_reducible refine (nMul_is 800 800 a1 l1 c1 z1 n1 a4 l4 c4 z4 d2 W0.drew (R1.out.below B0.out) I1.out (R4.out.below B0.out) I4.out o9 o9 o1 o4).mono ?_)); rintro e w1 ⟨x1, m1, q1, y1, rfl, hr, hi, _, hb⟩; have HR1 := Lib.hid hr; have HI1 := Lib.hid hi; have HB1 := Lib.hid hb; have Z1 := Nat.le_trans Z0 hb.size; clear hr hi hb)
      | (go_at_call 62; ((with_reducible refine (nMul_is 800 800 a3 l3 c3 z3 n2 a2 l2 c2 z2 d1 w1 ((R3.out.below B0.out).below HB1.out) I3.out ((R2.out.below B0.out).below HB1.out) I2.out o9 o9 o3 o2).mono ?_)); rintro e w2 ⟨x2, m2, q2, y2, rfl, hr, hi, _, hb⟩; have HR2 := Lib.hid hr; have HI2 := Lib.hid hi; have HB2 := Lib.hid hb; have Z2 := Nat.le_trans Z1 hb.size; clear hr hi hb)
      | (go_at_call 61; refine (nCmp_is x1 m1 q1 y1 (n1 * d2) x2 m2 q2 y2 (n2 * d1) w2 (HR1.out.below HB2.out) HI1.out HR2.out HI2.out k HK.out).mono ?_; rintro e w3 ⟨rfl, hb⟩; have HB3 := Lib.hid hb; clear hb))
  all_goals
    go_wp2
    go_ret
    exact ⟨rfl, below_next (below_next (below_next B0.out HB1.out) HB2.out) HB3.out⟩

theorem is_up {n g : Int} {z : List Int} {l L : Nat} {k : IntKind} {W : World} {a : Option Addr} {c : Nat} (hr : Row k W a l c z) (h : Is 4294967296 z n) (hn : n ≤ g) (hg : g < 4294967296 ^ L) : l ≤ L := by
  rw [← hr.len]; exact h.len_le (by omega) (by omega)

theorem least_any (v : Value) (n d : Int) (b L : Nat) (w : World) (h : Rat w b L v n d) (hd : 0 < d) (hL : L ≤ 800) :
    Calls Try.prog 54 #[v] w (GivesQ w L (n / gc n d) (d / gc n d)) := by
  obtain ⟨a1, l1, c1, z1, a2, l2, c2, z2, rfl, r1, i1, r2, i2, hl1, hl2, _, _⟩ := h
  have R1 := Lib.hid r1; have R2 := Lib.hid r2; have I1 := Lib.hid i1; have I2 := Lib.hid i2
  have g0 : 0 < gc n d := by have := gc_pos (a := n) hd; omega
  clear r1 r2 i1 i2
  go_enter Try.func54, Try.ntmps54
  go_wp2_with fail
  obtain ⟨W0, hW0⟩ : ∃ W0, (w.alloc (Obj.cells #[Value.slice a1 l1 c1, Value.slice a2 l2 c2] 27)).alloc (Obj.cells #[Value.slice none 0 0, Value.slice none 0 0] 27) = W0 := ⟨_, rfl⟩
  have BX := two_boxes w #[Value.slice a1 l1 c1, Value.slice a2 l2 c2] #[Value.slice none 0 0, Value.slice none 0 0] 27 27
  have H0 := Lib.hid (show W0.heap[w.heap.size + 1]? = some (.cells #[.slice none 0 0, .slice none 0 0] 27 (0, 0)) by rw [← hW0, ← size_alloc w (.cells #[Value.slice a1 l1 c1, Value.slice a2 l2 c2] 27)]; exact heap_alloc_new _ _)
  rw [hW0] at BX ⊢
  clear hW0
  have B0 := Lib.hid (show Below w.heap.size w W0 from BX.2.2.2.1)
  have K0 := Lib.hid (show W0.cell? ⟨w.heap.size, 0, none⟩ = some (.slice a1 l1 c1) ∧ W0.cell? ⟨w.heap.size, 1, none⟩ = some (.slice a2 l2 c2) from ⟨BX.1 0, BX.1 1⟩)
  have Z0 := Lib.hid (show w.heap.size + 1 < W0.heap.size by have := BX.2.2.2.2; omega)
  clear BX
  refine (qcheck_yes _ n d L 0 W0 ⟨a1, l1, c1, z1, a2, l2, c2, z2, rfl, R1.out.below B0.out, I1.out, R2.out.below B0.out, I2.out, hl1, hl2, fresh0 _, fresh0 _⟩ hd).mono ?_
  rintro e w1 ⟨rfl, hb1⟩
  have B1 := Lib.hid (below_next B0.out hb1)
  have KK1 := Lib.hid (pair_kept hb1 K0.out (by have := Z0.out; omega))
  have H1 := Lib.hid ((hb1.block _ Z0.out).trans H0.out)
  have Z1 := Lib.hid (Nat.lt_of_lt_of_le Z0.out hb1.size)
  have t1 := KK1.out.1
  have t2 := KK1.out.2
  clear hb1 K0 H0 Z0 B0
  go_wp2_with fail
  clear t1 t2
  refine (common_any a1 l1 c1 z1 n a2 l2 c2 z2 d w1 (R1.out.below B1.out) I1.out (R2.out.below B1.out) I2.out (by omega) (by omega)).mono ?_
  rintro e w2 ⟨a3, l3, c3, z3, rfl, hr3, hi3, _, hb2⟩
  have R3 := Lib.hid hr3; have I3 := Lib.hid hi3
  have B2 := Lib.hid (below_next B1.out hb2).drew
  have KK2 := Lib.hid (pair_kept hb2 KK1.out (by have := Z1.out; omega))
  have H2 := Lib.hid (show w2.drew.heap[w.heap.size + 1]? = _ from (hb2.block _ Z1.out).trans H1.out)
  have Z2 := Lib.hid (show w.heap.size + 1 < w2.drew.heap.size from Nat.lt_of_lt_of_le Z1.out hb2.size)
  have zz : w.heap.size < w2.drew.heap.size := Nat.lt_trans (Nat.lt_succ_self _) Z2.out
  have K1 := Lib.hid (show w2.drew.cell? ⟨w.heap.size, 0, none⟩ = some (.slice a1 l1 c1) from KK2.out.1)
  have K2 := Lib.hid (show w2.drew.cell? ⟨w.heap.size, 1, none⟩ = some (.slice a2 l2 c2) from KK2.out.2)
  have k1 := K1.out
  have k2 := K2.out
  have o1 : l1 ≤ 800 := by omega
  have o2 : l2 ≤ 800 := by omega
  clear hr3 hi3 hb2 KK1 KK2 H1 Z1 B1
  go_wp2
  go_region_held3 (fun w' => w'.cell? ⟨w.heap.size, 0, none⟩ = some (.slice a1 l1 c1) ∧ w'.cell? ⟨w.heap.size, 1, none⟩ = some (.slice a2 l2 c2))
    (first | exact ⟨K1.out, K2.out⟩ | exact pair_kept2 (pair_kept HB5.out (pair_kept HB4.out ⟨K1.out, K2.out⟩ zz) Z4) | exact pair_kept HB5.out (pair_kept HB4.out ⟨K1.out, K2.out⟩ zz) Z4 | exact pair_kept HB4.out ⟨K1.out, K2.out⟩ zz)
    (first
      | (go_at_call 71; ((with_reducible refine (part_any a1 l1 c1 z1 n a3 l3 c3 z3 (gc n d) w2.drew (R1.out.below B2.out) I1.out R3.out.drew I3.out g0 o1).mono ?_)); rintro e w4 ⟨x4, m4, q4, y4, rfl, hr, hi, hl4, hb⟩; have HR4 := Lib.hid hr; have HI4 := Lib.hid hi; have HB4 := Lib.hid hb; have Z4 := Nat.lt_of_lt_of_le zz hb.size; clear hr hi hb)
      | (go_at_call 71; ((with_reducible refine (part_any a2 l2 c2 z2 d a3 l3 c3 z3 (gc n d) w4 ((R2.out.below B2.out).below HB4.out) I2.out (R3.out.drew.below HB4.out) I3.out g0 o2).mono ?_)); rintro e w5 ⟨x5, m5, q5, y5, rfl, hr, hi, hl5, hb⟩; have HR5 := Lib.hid hr; have HI5 := Lib.hid hi; have HB5 := Lib.hid hb; have BB := Lib.hid (below_next HB4.out hb); have H5 := Lib.hid ((BB.out.block _ Z2.out).trans H2.out); have s0 : w5.cell? ⟨w.heap.size + 1, 0, none⟩ = some (.slice none 0 0) := block_cell H5.out; have s1 : w5.cell? ⟨w.heap.size + 1, 1, none⟩ = some (.slice none 0 0) := block_cell H5.out; have s2 : w5.frozen? ⟨w.heap.size + 1, 0, none⟩ = false := block_free H5.out; have s3 : w5.frozen? ⟨w.heap.size + 1, 1, none⟩ = false := block_free H5.out; clear hr hi hb))
  all_goals
    go_wp2
    refine bodyPost_ret (v := .agg #[.slice x4 m4 q4, .slice x5 m5 q5]) (by simp [results, Try.results54, go_sem, s0, s1]) rfl ⟨_, rfl, ⟨x4, m4, q4, y4, x5, m5, q5, y5, rfl, (HR4.out.below HB5.out).box H5.out _ _, HI4.out, HR5.out.box H5.out _ _, HI5.out, by omega, by omega, fresh0 _, fresh0 _⟩, ?_⟩
    exact ((below_next B2.out BB.out).setCell (show w.heap.size ≤ w.heap.size + 1 by omega) _).setCell (show w.heap.size ≤ w.heap.size + 1 by omega) _
end Go.Proofs.Ytphlkpkbdnddlaa
namespace Go.Proofs.Ytphlkpkbdnddlaa
open Go.RowKit

def Levels (w : World) (L : Nat) (x y g : Int) (e : Ending) (w' : World) : Prop :=
  ∃ a1 l1 c1 z1 a2 l2 c2 z2 a3 l3 c3 z3, e = .returned (.tuple #[.slice a1 l1 c1, .slice a2 l2 c2, .slice a3 l3 c3]) ∧ Row .u32 w' a1 l1 c1 z1 ∧ Is 4294967296 z1 x ∧ Row .u32 w' a2 l2 c2 z2 ∧ Is 4294967296 z2 y ∧ Row .u32 w' a3 l3 c3 z3 ∧ Is 4294967296 z3 g ∧ l1 ≤ L ∧ l2 ≤ L ∧ l3 ≤ 800 ∧ Below w.heap.size w w'

theorem level_any (v u : Value) (n1 d1 n2 d2 : Int) (b1 b2 L1 L2 : Nat) (w : World) (h1 : Rat w b1 L1 v n1 d1) (h2 : Rat w b2 L2 u n2 d2) (p2 : 0 < d2) (hL1 : L1 ≤ 800) (hL2 : L2 ≤ 800) :
    Calls Try.prog 55 #[v, u] w (Levels w (L1 + L2) (n1 * (d2 / gc d1 d2)) (n2 * (d1 / gc d1 d2)) (gc d1 d2)) := by
  obtain ⟨a1, l1, c1, z1, a2, l2, c2, z2, rfl, r1, i1, r2, i2, hl1, hl2, _, _⟩ := h1
  obtain ⟨a3, l3, c3, z3, a4, l4, c4, z4, rfl, r3, i3, r4, i4, hl3, hl4, _, _⟩ := h2
  have R1 := Lib.hid r1; have R2 := Lib.hid r2; have R3 := Lib.hid r3; have R4 := Lib.hid r4
  have I1 := Lib.hid i1; have I2 := Lib.hid i2; have I3 := Lib.hid i3; have I4 := Lib.hid i4
  have g0 : 0 < gc d1 d2 := by have := gc_pos (a := d1) p2; omega
  obtain ⟨g, hg⟩ : ∃ g, gc d1 d2 = g := ⟨_, rfl⟩
  rw [hg] at g0 ⊢
  have HGG := Lib.hid hg
  clear r1 r2 r3 r4 i1 i2 i3 i4 hg
  go_enter Try.func55, Try.ntmps55
  go_wp2_with fail
  obtain ⟨W0, hW0⟩ : ∃ W0, (w.alloc (Obj.cells #[Value.slice a1 l1 c1, Value.slice a2 l2 c2] 27)).alloc (Obj.cells #[Value.slice a3 l3 c3, Value.slice a4 l4 c4] 27) = W0 := ⟨_, rfl⟩
  have BX := two_boxes w #[Value.slice a1 l1 c1, Value.slice a2 l2 c2] #[Value.slice a3 l3 c3, Value.slice a4 l4 c4] 27 27
  rw [hW0] at BX ⊢
  clear hW0
  have KA := Lib.hid (show W0.cell? ⟨w.heap.size, 0, none⟩ = some (.slice a1 l1 c1) ∧ W0.cell? ⟨w.heap.size, 1, none⟩ = some (.slice a2 l2 c2) ∧ W0.cell? ⟨w.heap.size + 1, 0, none⟩ = some (.slice a3 l3 c3) ∧ W0.cell? ⟨w.heap.size + 1, 1, none⟩ = some (.slice a4 l4 c4) from ⟨BX.1 0, BX.1 1, BX.2.1 0, BX.2.1 1⟩)
  have BA := Lib.hid (show Below w.heap.size w W0 from BX.2.2.2.1)
  have ZA := Lib.hid (show w.heap.size + 2 ≤ W0.heap.size from Nat.le_of_eq BX.2.2.2.2.symm)
  clear BX
  have o1 : l1 ≤ 800 := by omega
  have o2 : l2 ≤ 800 := by omega
  have o3 : l3 ≤ 800 := by omega
  have o4 : l4 ≤ 800 := by omega
  have o9 : L1 ≤ 1000 := by omega
  have o8 : L2 ≤ 1000 := by omega
  refine (common_any a2 l2 c2 z2 d1 a4 l4 c4 z4 d2 W0 (R2.out.below BA.out) I2.out (R4.out.below BA.out) I4.out o2 o4).mono ?_
  rintro e w0 ⟨a5, l5, c5, z5, rfl, hr, hi, hl5, hb⟩
  rw [HGG.out] at hi
  have R5 := Lib.hid hr; have I5 := Lib.hid hi
  have B0 := Lib.hid (show Below w.heap.size w w0.drew from (below_next BA.out hb).drew)
  have FK := Lib.hid (four_kept hb KA.out ZA.out)
  have Z0 : w.heap.size + 2 ≤ w0.drew.heap.size := Nat.le_trans ZA.out hb.size
  have K1 := Lib.hid (show w0.drew.cell? ⟨w.heap.size, 0, none⟩ = some (.slice a1 l1 c1) from FK.out.1)
  have K2 := Lib.hid (show w0.drew.cell? ⟨w.heap.size, 1, none⟩ = some (.slice a2 l2 c2) from FK.out.2.1)
  have K3 := Lib.hid (show w0.drew.cell? ⟨w.heap.size + 1, 0, none⟩ = some (.slice a3 l3 c3) from FK.out.2.2.1)
  have K4 := Lib.hid (show w0.drew.cell? ⟨w.heap.size + 1, 1, none⟩ = some (.slice a4 l4 c4) from FK.out.2.2.2)
  have k1 := K1.out; have k2 := K2.out; have k3 := K3.out; have k4 := K4.out
  clear hr hi hb KA BA ZA FK
  go_wp2
  go_region_held3 (fun w' => w'.cell? ⟨w.heap.size, 0, none⟩ = some (.slice a1 l1 c1) ∧ w'.cell? ⟨w.heap.size, 1, none⟩ = some (.slice a2 l2 c2) ∧ w'.cell? ⟨w.heap.size + 1, 0, none⟩ = some (.slice a3 l3 c3) ∧ w'.cell? ⟨w.heap.size + 1, 1, none⟩ = some (.slice a4 l4 c4))
    (first | exact ⟨K1.out, K2.out, K3.out, K4.out⟩ | exact four_kept HB4.out (four_kept HB3.out (four_kept HB2.out (four_kept HB1.out ⟨K1.out, K2.out, K3.out, K4.out⟩ Z0) Z1) Z2) Z3 | exact four_kept HB3.out (four_kept HB2.out (four_kept HB1.out ⟨K1.out, K2.out, K3.out, K4.out⟩ Z0) Z1) Z2 | exact four_kept HB2.out (four_kept HB1.out ⟨K1.out, K2.out, K3.out, K4.out⟩ Z0) Z1 | exact four_kept HB1.out ⟨K1.out, K2.out, K3.out, K4.out⟩ Z0)
    (first
      | (go_at_call 71; ((with_reducible refine (part_any a4 l4 c4 z4 d2 a5 l5 c5 z5 g w0.drew (R4.out.below B0.out) I4.out R5.out.drew I5.out g0 o4).mono ?_)); rintro e w1 ⟨x1, m1, q1, y1, rfl, hr, hi, hm1, hb⟩; have HR1 := Lib.hid hr; have HI1 := Lib.hid hi; have HB1 := Lib.hid hb; have Z1 := Nat.le_trans Z0 hb.size; clear hr hi hb)
      | (go_at_call 62; ((with_reducible refine (nMul_is L1 L2 a1 l1 c1 z1 n1 x1 m1 q1 y1 (d2 / g) w1 ((R1.out.below B0.out).below HB1.out) I1.out HR1.out HI1.out o9 o8 hl1 (Nat.le_trans hm1 hl4)).mono ?_)); rintro e w2 ⟨x2, m2, q2, y2, rfl, hr, hi, hm2, hb⟩; have HR2 := Lib.hid hr; have HI2 := Lib.hid hi; have HB2 := Lib.hid hb; have Z2 := Nat.le_trans Z1 hb.size; clear hr hi hb)
      | (go_at_call 71; ((with_reducible refine (part_any a2 l2 c2 z2 d1 a5 l5 c5 z5 g w2 (((R2.out.below B0.out).below HB1.out).below HB2.out) I2.out ((R5.out.drew.below HB1.out).below HB2.out) I5.out g0 o2).mono ?_)); rintro e w3 ⟨x3, m3, q3, y3, rfl, hr, hi, hm3, hb⟩; have HR3 := Lib.hid hr; have HI3 := Lib.hid hi; have HB3 := Lib.hid hb; have Z3 := Nat.le_trans Z2 hb.size; clear hr hi hb)
      | (go_at_call 62; ((with_reducible refine (nMul_is L2 L1 a3 l3 c3 z3 n2 x3 m3 q3 y3 (d1 / g) w3 ((((R3.out.below B0.out).below HB1.out).below HB2.out).below HB3.out) I3.out HR3.out HI3.out o8 o9 hl3 (Nat.le_trans hm3 hl2)).mono ?_)); rintro e w4 ⟨x4, m4, q4, y4, rfl, hr, hi, hm4, hb⟩; have HR4 := Lib.hid hr; have HI4 := Lib.hid hi; have HB4 := Lib.hid hb; clear hr hi hb))
  all_goals
    go_wp2
    go_ret3
    exact ⟨_, _, _, _, _, _, _, _, _, _, _, _, rfl, (HR2.out.below HB3.out).below HB4.out, HI2.out, HR4.out, HI4.out, (((R5.out.drew.below HB1.out).below HB2.out).below HB3.out).below HB4.out, I5.out, hm2, by omega, hl5, below_next (below_next (below_next (below_next B0.out HB1.out) HB2.out) HB3.out) HB4.out⟩

theorem lower_any (a1 : Option Addr) (l1 c1 : Nat) (z1 : List Int) (t : Int) (a2 : Option Addr) (l2 c2 : Nat) (z2 : List Int) (d1 : Int) (a3 : Option Addr) (l3 c3 : Nat) (z3 : List Int) (d2 : Int) (a4 : Option Addr) (l4 c4 : Nat) (z4 : List Int) (g : Int) (L : Nat) (w : World)
    (h1 : Row .u32 w a1 l1 c1 z1) (i1 : Is 4294967296 z1 t) (h2 : Row .u32 w a2 l2 c2 z2) (i2 : Is 4294967296 z2 d1) (h3 : Row .u32 w a3 l3 c3 z3) (i3 : Is 4294967296 z3 d2) (h4 : Row .u32 w a4 l4 c4 z4) (i4 : Is 4294967296 z4 g)
    (g0 : 0 < g) (o1 : l1 ≤ 800) (o2 : l2 ≤ 800) (o3 : l3 ≤ 800) (o4 : l4 ≤ 800) (hL1 : l1 ≤ L) (hL2 : l2 + l3 ≤ L) :
    Calls Try.prog 57 #[.slice a1 l1 c1, .slice a2 l2 c2, .slice a3 l3 c3, .slice a4 l4 c4] w (GivesQ w L (t / gc t g) (d1 / g * (d2 / gc t g))) := by
  have R1 := Lib.hid h1; have R2 := Lib.hid h2; have R3 := Lib.hid h3; have R4 := Lib.hid h4
  have I1 := Lib.hid i1; have I2 := Lib.hid i2; have I3 := Lib.hid i3; have I4 := Lib.hid i4
  have q0 : 0 < gc t g := by have := gc_pos (a := t) g0; omega
  obtain ⟨q, hq⟩ : ∃ q, gc t g = q := ⟨_, rfl⟩
  rw [hq] at q0 ⊢
  have HQQ := Lib.hid hq
  clear h1 h2 h3 h4 i1 i2 i3 i4 hq
  have B0 := Lib.hid (below_box w (.cells #[.slice none 0 0, .slice none 0 0] 27))
  have H0 := Lib.hid (show (w.alloc (.cells #[.slice none 0 0, .slice none 0 0] 27)).heap[w.heap.size]? = some (.cells #[.slice none 0 0, .slice none 0 0] 27 (0, 0)) from heap_alloc_new _ _)
  go_enter Try.func57, Try.ntmps57
  go_wp2_with fail
  obtain ⟨W0, hW0⟩ : ∃ W0, w.alloc (Obj.cells #[Value.slice none 0 0, Value.slice none 0 0] 27) = W0 := ⟨_, rfl⟩
  rw [hW0] at B0 H0 ⊢
  clear hW0
  refine (common_any a1 l1 c1 z1 t a4 l4 c4 z4 g W0 (R1.out.below B0.out) I1.out (R4.out.below B0.out) I4.out o1 o4).mono ?_
  rintro e w1 ⟨a5, l5, c5, z5, rfl, hr, hi, hl5, hb⟩
  rw [HQQ.out] at hi
  have R5 := Lib.hid hr; have I5 := Lib.hid hi; have HB1 := Lib.hid hb
  have BB1 := Lib.hid (below_next B0.out hb)
  clear hr hi hb
  go_wp2_with fail
  refine (part_any a1 l1 c1 z1 t a5 l5 c5 z5 q w1 (R1.out.below BB1.out) I1.out R5.out I5.out q0 o1).mono ?_
  rintro e w2 ⟨a6, l6, c6, z6, rfl, hr, hi, hl6, hb⟩
  have R6 := Lib.hid hr; have I6 := Lib.hid hi; have HB2 := Lib.hid hb
  have BB2 := Lib.hid (below_next BB1.out hb)
  clear hr hi hb
  go_wp2_with fail
  refine (part_any a2 l2 c2 z2 d1 a4 l4 c4 z4 g w2 (R2.out.below BB2.out) I2.out (R4.out.below BB2.out) I4.out g0 o2).mono ?_
  rintro e w3 ⟨a7, l7, c7, z7, rfl, hr, hi, hl7, hb⟩
  have R7 := Lib.hid hr; have I7 := Lib.hid hi; have HB3 := Lib.hid hb
  have BB3 := Lib.hid (below_next BB2.out hb)
  clear hr hi hb
  go_wp2_with fail
  refine (part_any a3 l3 c3 z3 d2 a5 l5 c5 z5 q w3 (R3.out.below BB3.out) I3.out ((R5.out.below HB2.out).below HB3.out) I5.out q0 o3).mono ?_
  rintro e w4 ⟨a8, l8, c8, z8, rfl, hr, hi, hl8, hb⟩
  have R8 := Lib.hid hr; have I8 := Lib.hid hi; have HB4 := Lib.hid hb
  have BB4 := Lib.hid (below_next BB3.out hb)
  clear hr hi hb
  go_wp2_with fail
  refine (nMul_is l2 l3 a7 l7 c7 z7 (d1 / g) a8 l8 c8 z8 (d2 / q) w4 (R7.out.below HB4.out) I7.out R8.out I8.out (by omega) (by omega) hl7 hl8).mono ?_
  rintro e w5 ⟨a9, l9, c9, z9, rfl, hr, hi, hl9, hb⟩
  have R9 := Lib.hid hr; have I9 := Lib.hid hi; have HB5 := Lib.hid hb
  have BB5 := Lib.hid (below_next BB4.out hb)
  clear hr hi hb
  have H5 := Lib.hid (((below_next (below_next (below_next (below_next HB1.out HB2.out) HB3.out) HB4.out) HB5.out).block _ (lt_of_block H0.out)).trans H0.out)
  have s0 : w5.cell? ⟨w.heap.size, 0, none⟩ = some (.slice none 0 0) := block_cell H5.out
  have s1 : w5.cell? ⟨w.heap.size, 1, none⟩ = some (.slice none 0 0) := block_cell H5.out
  have s2 : w5.frozen? ⟨w.heap.size, 0, none⟩ = false := block_free H5.out
  have s3 : w5.frozen? ⟨w.heap.size, 1, none⟩ = false := block_free H5.out
  go_wp2
  refine bodyPost_ret (v := .agg #[.slice a6 l6 c6, .slice a9 l9 c9]) (by simp [results, Try.results57, go_sem, s0, s1]) rfl ⟨_, rfl, ⟨a6, l6, c6, z6, a9, l9, c9, z9, rfl, (((R6.out.below HB3.out).below HB4.out).below HB5.out).box H5.out _ _, I6.out, R9.out.box H5.out _ _, I9.out, by omega, by omega, fresh0 _, fresh0 _⟩, ?_⟩
  exact (BB5.out.setCell (Nat.le_refl _) _).setCell (Nat.le_refl _) _
end Go.Proofs.Ytphlkpkbdnddlaa
