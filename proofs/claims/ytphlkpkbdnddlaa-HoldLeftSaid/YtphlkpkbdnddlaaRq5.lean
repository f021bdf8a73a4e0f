/-
  What package ratio's Sum gives back: contract.
  What package ratio's Sum gives back: contract.
  What package ratio's Sub gives back: contract.
-/
import Derived.Test.YtphlkpkbdnddlaaRq4
namespace Go.Proofs.Ytphlkpkbdnddlaa
open Go.RowKit

/-- a row of numbers is as it was where cells of a block without numbers are written -/
theorem Row.far {k : IntKind} {W : World} {a : Option Addr} {len cap : Nat} {zs : List Int} {g o1 o2 : Nat} {cs : Array Value} {T : TypeId} (h : Row k W a len cap zs)
    (hg : W.heap[g]? = some (.cells cs T (0, 0))) (hno : ∀ (j : Nat) (x : Int), cs[j]? ≠ some (Value.int k x)) (u v : Value) : Row k ((W.setCell ⟨g, o1, none⟩ u).setCell ⟨g, o2, none⟩ v) a len cap zs := by
  refine ⟨h.1, h.2.1, h.2.2.1, h.2.2.2.1, fun i hi => ?_⟩
  obtain ⟨b, off, ha, hc⟩ := h.2.2.2.2 i hi
  refine ⟨b, off, ha, ?_⟩
  have hb : b ≠ g := by
    rintro rfl
    rw [block_cell hg] at hc
    exact hno _ _ hc
  have e : ((W.setCell ⟨g, o1, none⟩ u).setCell ⟨g, o2, none⟩ v).heap[b]? = W.heap[b]? := by
    rw [Below.heap_setCell _ _ _ _ (by simpa using hb), Below.heap_setCell _ _ _ _ (by simpa using hb)]
  exact (World.cell?_of_block (w := W) e).trans hc
/-- block g has room for len ratios; the first i of them are there -/
def Filled (W : World) (g len L i : Nat) (rs : List (Int × Int)) : Prop :=
  ∃ cur : Array Value, W.heap[g]? = some (.cells cur 27 (0, 0)) ∧ cur.size = len * 2 ∧ (∀ j, j < len * 2 → ∃ a l c, cur[j]? = some (.slice a l c)) ∧
    ∀ j, j < i → ∃ an ln cn zn ad ld cd zd, cur[j * 2]? = some (.slice an ln cn) ∧ cur[j * 2 + 1]? = some (.slice ad ld cd) ∧ Row .u32 W an ln cn zn ∧ Is 4294967296 zn (rs.getD j (0, 1)).1 ∧ Row .u32 W ad ld cd zd ∧ Is 4294967296 zd (rs.getD j (0, 1)).2 ∧ ln ≤ L ∧ ld ≤ L
theorem Filled.lt {W : World} {g len L i : Nat} {rs : List (Int × Int)} (h : Filled W g len L i rs) : g < W.heap.size := by
  obtain ⟨cur, h1, _⟩ := h; exact lt_of_block h1
theorem Filled.below {W W' : World} {g len L i : Nat} {rs : List (Int × Int)} (h : Filled W g len L i rs) (hb : Below W.heap.size W W') : Filled W' g len L i rs := by
  have hlt := h.lt
  obtain ⟨cur, h1, h2, h3, h4⟩ := h
  refine ⟨cur, (hb.block g hlt).trans h1, h2, h3, fun j hj => ?_⟩
  obtain ⟨an, ln, cn, zn, ad, ld, cd, zd, q1, q2, q3, q4, q5, q6, q7, q8⟩ := h4 j hj
  exact ⟨an, ln, cn, zn, ad, ld, cd, zd, q1, q2, q3.below hb, q4, q5.below hb, q6, q7, q8⟩
theorem Filled.room {W : World} {g len L i : Nat} {rs : List (Int × Int)} (h : Filled W g len L i rs) {j : Nat} (hj : j < len * 2) : (∃ a l c, W.cell? ⟨g, j, none⟩ = some (.slice a l c)) ∧ W.frozen? ⟨g, j, none⟩ = false := by
  obtain ⟨cur, h1, h2, h3, h4⟩ := h
  obtain ⟨a, l, c, e⟩ := h3 j hj
  exact ⟨⟨a, l, c, (block_cell h1).trans e⟩, block_free h1⟩
theorem no_int {cur : Array Value} {n : Nat} (h2 : cur.size = n) (h3 : ∀ j, j < n → ∃ a l c, cur[j]? = some (.slice a l c)) (k : IntKind) : ∀ (j : Nat) (x : Int), cur[j]? ≠ some (Value.int k x) := by
  intro j x e
  by_cases hj : j < n
  · obtain ⟨a, l, c, e'⟩ := h3 j hj
    rw [e'] at e; cases e
  · rw [Array.getElem?_eq_none (by omega)] at e; cases e
theorem Filled.more {W : World} {g len L i : Nat} {rs : List (Int × Int)} (h : Filled W g len L i rs) (hi : i < len) {an : Option Addr} {ln cn : Nat} {zn : List Int} {ad : Option Addr} {ld cd : Nat} {zd : List Int}
    (r1 : Row .u32 W an ln cn zn) (i1 : Is 4294967296 zn (rs.getD i (0, 1)).1) (r2 : Row .u32 W ad ld cd zd) (i2 : Is 4294967296 zd (rs.getD i (0, 1)).2) (l1 : ln ≤ L) (l2 : ld ≤ L) :
    Filled ((W.setCell ⟨g, i * 2, none⟩ (.slice an ln cn)).setCell ⟨g, i * 2 + 1, none⟩ (.slice ad ld cd)) g len L (i + 1) rs := by
  obtain ⟨cur, h1, h2, h3, h4⟩ := h
  have n1 := no_int h2 h3 .u32
  have s1 := heap_setCell_same W g (i * 2) cur 27 (.slice an ln cn) h1
  have s2 := heap_setCell_same _ g (i * 2 + 1) _ 27 (.slice ad ld cd) s1
  refine ⟨_, s2, by simp [h2], fun j hj => ?_, fun j hj => ?_⟩
  · by_cases e1 : j = i * 2 + 1
    · subst e1; exact ⟨ad, ld, cd, by rw [Array.getElem?_setIfInBounds_self_of_lt (by simp [h2]; omega)]⟩
    · by_cases e2 : j = i * 2
      · subst e2; exact ⟨an, ln, cn, by rw [Array.getElem?_setIfInBounds_ne (by omega), Array.getElem?_setIfInBounds_self_of_lt (by omega)]⟩
      · obtain ⟨a, l, c, e⟩ := h3 j hj
        exact ⟨a, l, c, by rw [Array.getElem?_setIfInBounds_ne (by omega), Array.getElem?_setIfInBounds_ne (by omega)]; exact e⟩
  · by_cases e : j = i
    · subst e
      exact ⟨an, ln, cn, zn, ad, ld, cd, zd, by rw [Array.getElem?_setIfInBounds_ne (by omega), Array.getElem?_setIfInBounds_self_of_lt (by omega)], by rw [Array.getElem?_setIfInBounds_self_of_lt (by simp [h2]; omega)], r1.far h1 n1 _ _, i1, r2.far h1 n1 _ _, i2, l1, l2⟩
    · obtain ⟨an', ln', cn', zn', ad', ld', cd', zd', q1, q2, q3, q4, q5, q6, q7, q8⟩ := h4 j (by omega)
      exact ⟨an', ln', cn', zn', ad', ld', cd', zd', by rw [Array.getElem?_setIfInBounds_ne (by omega), Array.getElem?_setIfInBounds_ne (by omega)]; exact q1, by rw [Array.getElem?_setIfInBounds_ne (by omega), Array.getElem?_setIfInBounds_ne (by omega)]; exact q2, q3.far h1 n1 _ _, q4, q5.far h1 n1 _ _, q6, q7, q8⟩
theorem Filled.row {W : World} {g len L : Nat} {rs : List (Int × Int)} (h : Filled W g len L len rs) (hl : rs.length = len) (hm : len ≤ 9223372036854775807) : RowR W (some ⟨g, 0, none⟩) len len L rs := by
  obtain ⟨cur, h1, h2, h3, h4⟩ := h
  refine ⟨hl, Nat.le_refl _, hm, fun i hi => ?_⟩
  obtain ⟨an, ln, cn, zn, ad, ld, cd, zd, q1, q2, q3, q4, q5, q6, q7, q8⟩ := h4 i hi
  exact ⟨g, 0, an, ln, cn, zn, ad, ld, cd, zd, rfl, by rw [Nat.zero_add]; exact (block_cell h1).trans q1, by rw [Nat.zero_add]; exact (block_cell h1).trans q2, q3, q4, q5, q6, q7, q8⟩
theorem made_nil (n j : Nat) (h : j < n * 2) : (madeCells (Value.agg #[.slice none 0 0, .slice none 0 0]).cells (n * 2))[j]? = some (.slice none 0 0) := by
  have e : (Value.agg #[.slice none 0 0, .slice none 0 0]).cells = #[.slice none 0 0, .slice none 0 0] := rfl
  rw [e]
  unfold madeCells
  have h2 : j % 2 < 2 := Nat.mod_lt _ (by omega)
  simp [h]
  match j % 2, h2 with
  | 0, _ => rfl
  | 1, _ => rfl
theorem filled_made {W : World} {base g n L : Nat} {rs : List (Int × Int)} (h : W.ownsRow base 27 2 (.slice (some ⟨g, 0, none⟩) n n) n (madeCells (Value.agg #[.slice none 0 0, .slice none 0 0]).cells (n * 2)).toList) : Filled W g n L 0 rs := by
  rcases h.2 with ⟨h', _⟩ | ⟨g', cap', cur, h', _, hg, _, _, hsz, htake⟩
  · simp at h'
  · simp only [Value.slice.injEq, Option.some.injEq, Addr.mk.injEq, and_true, true_and] at h'
    obtain ⟨rfl, rfl⟩ := h'
    have e : cur = madeCells (Value.agg #[.slice none 0 0, .slice none 0 0]).cells (n * 2) := by
      apply Array.toList_inj.mp
      rw [← htake, List.take_of_length_le (by rw [Array.length_toList]; omega)]
    subst e
    exact ⟨_, hg, hsz, fun j hj => ⟨none, 0, 0, made_nil n j hj⟩, fun j hj => by omega⟩
end Go.Proofs.Ytphlkpkbdnddlaa
namespace Go.Proofs.Ytphlkpkbdnddlaa
open Go.RowKit

/-- a weight that may be -/
def FitW (p : Int × Int) : Prop := 0 ≤ p.1 ∧ p.1 < 4294967296 ∧ 1 ≤ p.2 ∧ p.2 < 4294967296

set_option maxHeartbeats 4000000 in
theorem qsum_any (a : Option Addr) (len cap : Nat) (ws : List (Int × Int)) (w : World) (h : RowP w a len cap ws) (hw : ∀ p ∈ ws, FitW p) (hl : len ≤ 100) :
    Calls Try.prog 59 #[.slice a len cap] w (GivesLo w (1 + len * 2) (sumR ws).1 (sumR ws).2) := by
  obtain ⟨i0, hi, hz0, hz1, hz2⟩ := info_parts Try.infoRat
  have H := Lib.hid h
  have HWs := Lib.hid hw
  have LN := Lib.hid h.len
  have ⟨c1, c2⟩ := h.cap_le
  clear h hw
  have HBY := Lib.hid (show i0.bytes * len ≤ 281474976710656 by rw [hz2]; omega)
  go_enter Try.func59, Try.ntmps59
  go_wp2_with (at_make; refine wpList_make_full _ rfl _ _ 103 rfl (w.heap.size + 1) 27 i0 (.agg #[.slice none 0 0, .slice none 0 0]) 2 Try.underlying103 hi hz0 hz1 _ _ _ _ len rfl rfl rfl rfl HBY.out (by unfold maxLen; omega) (by simp) ?_; intro w1 hown hgrow; have HO := Lib.hid hown; have HG := Lib.hid hgrow; clear hown hgrow)
  have B0 := Lib.hid (below_box w (.cells #[.slice none 0 0, .slice none 0 0] 27))
  have H0 := Lib.hid (show w1.heap[w.heap.size]? = some (.cells #[.slice none 0 0, .slice none 0 0] 27 (0, 0)) from (HG.out.block _ (by simp) (by simp)).trans (heap_alloc_new _ _))
  have B1 := Lib.hid (show Below w.heap.size w w1 from B0.out.grown HG.out (by simp) (fun g hg => by cases hg))
  have F0 := Lib.hid (show Filled w1 (w.heap.size + 1) len 1 0 ws from filled_made (by have := HO.out; rw [size_alloc] at this; exact this))
  clear HO HG
  go_loopw [11] (fun u wr => ∃ i : Nat, u = .int .i64 i ∧ i ≤ len ∧ Filled wr (w.heap.size + 1) len 1 i ws ∧ wr.heap[w.heap.size]? = some (.cells #[.slice none 0 0, .slice none 0 0] 27 (0, 0)) ∧ Below w.heap.size w wr) (fun u _ => len - (intOf u).toNat)
  case atStart => exact ⟨0, rfl, Nat.zero_le _, F0.out, H0.out, B1.out⟩
  case round =>
    clear F0 H0 B1
    obtain ⟨i, rfl, il, hF, hT, hbel⟩ := hrel
    have HF := Lib.hid hF; have HT := Lib.hid hT; have HW := Lib.hid hbel
    clear hF hT hbel
    by_cases go : i < len
    · have t1 : decide (i < len) = true := by simp; omega
      obtain ⟨ba, oa, rfl, hx0, hy0⟩ := (H.out.below HW.out).cell go
      obtain ⟨pr, hpr⟩ : ∃ pr, ws.getD i (0, 0) = pr := ⟨_, rfl⟩
      have hpr1 : ws.getD i (0, 1) = pr := by
        rw [← hpr, List.getD_eq_getElem?_getD, List.getD_eq_getElem?_getD, List.getElem?_eq_getElem (by rw [LN.out]; exact go)]; rfl
      have hok : FitW pr := by
        rw [← hpr, List.getD_eq_getElem?_getD, List.getElem?_eq_getElem (by rw [LN.out]; exact go)]
        exact HWs.out _ (List.getElem_mem _)
      rw [hpr] at hx0 hy0
      obtain ⟨E, P⟩ := pr
      obtain ⟨e0, e1, p0, p1⟩ := hok
      have PR := Lib.hid hpr1
      clear hpr hpr1
      have j1 : (i : Int) < (len : Int) := by omega
      have j2 : 0 ≤ (i : Int) := by omega
      go_wp2_with fail
      obtain ⟨W2, hW2⟩ : ∃ W2, wr.alloc (Obj.cells #[Value.int .i64 E, Value.int .i64 P] 39) = W2 := ⟨_, rfl⟩
      have BW2 := Lib.hid (show Below wr.heap.size wr W2 by rw [← hW2]; exact below_box _ _)
      rw [hW2]
      clear hW2 hx0 hy0
      refine (qof_any E P W2 e0 e1 p0 p1).mono ?_
      rintro e w3 ⟨_, rfl, ⟨an, ln, cn, zn, ad, ld, cd, zd, rfl, q1, q2, q3, q4, q5, q6, _, _⟩, hb3⟩
      have Q1 := Lib.hid q1; have Q2 := Lib.hid q2; have Q3 := Lib.hid q3; have Q4 := Lib.hid q4
      have BR3 := Lib.hid (below_next BW2.out hb3)
      have BB3 := Lib.hid (below_next HW.out BR3.out)
      have F3 := Lib.hid (HF.out.below BR3.out)
      have T3 := Lib.hid ((BR3.out.block _ (lt_of_block HT.out)).trans HT.out)
      obtain ⟨⟨r1, r2, r3, m0⟩, f0⟩ := F3.out.room (j := i * 2) (by omega)
      obtain ⟨⟨r4, r5, r6, m1⟩, f1⟩ := F3.out.room (j := i * 2 + 1) (by omega)
      clear q1 q2 q3 q4 hb3
      go_wp2
      go_roundw
      case rel =>
        refine ⟨i + 1, by go_num, by omega, F3.out.more go Q1.out (by rw [PR.out]; exact Q2.out) Q3.out (by rw [PR.out]; exact Q4.out) q5 q6, ?_, ?_⟩
        · rw [Below.heap_setCell _ _ _ _ (by simp), Below.heap_setCell _ _ _ _ (by simp)]; exact T3.out
        · exact (BB3.out.setCell (show w.heap.size ≤ w.heap.size + 1 by omega) _).setCell (show w.heap.size ≤ w.heap.size + 1 by omega) _
      case measure => simp [intOf]; omega
    · have t1 : decide (i < len) = false := by simp; omega
      obtain rfl : i = len := by omega
      have RR := Lib.hid (HF.out.row LN.out (by omega))
      go_wp2_with fail
      refine (total_any _ i i 1 ws wr RR.out (fun p hp => by have := HWs.out p hp; exact ⟨this.1, by have := this.2.2.1; omega⟩) (by omega)).mono ?_
      rintro e w5 ⟨_, n, d, rfl, ⟨a5, l5, c5, z5, a6, l6, c6, z6, rfl, r5, i5, r6, i6, hl5, hl6, _, _⟩, hlo, heq, hb5⟩
      have R5 := Lib.hid r5; have R6 := Lib.hid r6; have I5 := Lib.hid i5; have I6 := Lib.hid i6; have LO := Lib.hid hlo; have EQ := Lib.hid heq
      have H5 := Lib.hid ((hb5.block _ (lt_of_block HT.out)).trans HT.out)
      have B5 := Lib.hid (below_next HW.out hb5)
      clear r5 r6 i5 i6 hlo heq hb5
      have s0 : w5.cell? ⟨w.heap.size, 0, none⟩ = some (.slice none 0 0) := block_cell H5.out
      have s1 : w5.cell? ⟨w.heap.size, 1, none⟩ = some (.slice none 0 0) := block_cell H5.out
      have s2 : w5.frozen? ⟨w.heap.size, 0, none⟩ = false := block_free H5.out
      have s3 : w5.frozen? ⟨w.heap.size, 1, none⟩ = false := block_free H5.out
      go_wp2
      refine bodyPost_ret (v := .agg #[.slice a5 l5 c5, .slice a6 l6 c6]) (by simp [results, Try.results59, go_sem, s0, s1]) rfl ⟨_, n, d, rfl, ⟨a5, l5, c5, z5, a6, l6, c6, z6, rfl, R5.out.box H5.out _ _, I5.out, R6.out.box H5.out _ _, I6.out, by omega, by omega, fresh0 _, fresh0 _⟩, LO.out, EQ.out, ?_⟩
      exact (B5.out.setCell (Nat.le_refl _) _).setCell (Nat.le_refl _) _
end Go.Proofs.Ytphlkpkbdnddlaa
namespace Go.Proofs.Ytphlkpkbdnddlaa
open Go.RowKit

theorem frac_sub {n1 d1 n2 d2 an ad bn bd Num Den : Int} (had : 0 < ad) (hbd : 0 < bd) (e1 : an * d1 = n1 * ad) (e2 : bn * d2 = n2 * bd) (e3 : Num * (ad * bd) = (an * bd - bn * ad) * Den) : Num * (d1 * d2) = (n1 * d2 - n2 * d1) * Den := by
  have hp : ad * bd ≠ 0 := by have := Int.mul_pos had hbd; omega
  refine Int.eq_of_mul_eq_mul_right hp ?_
  have s1 : Num * (d1 * d2) * (ad * bd) = (Num * (ad * bd)) * (d1 * d2) := by grind
  have s2 : (an * bd - bn * ad) * Den * (d1 * d2) = Den * ((an * d1) * (bd * d2) - (bn * d2) * (ad * d1)) := by grind
  rw [s1, e3, s2, e1, e2]
  grind
theorem lev_one {n d g : Int} (h : g ∣ d) : n * (d / g) * g = n * d := by
  have e1 := Int.ediv_mul_cancel h
  rw [Int.mul_assoc, e1]
theorem sub_cmp {n1 d1 n2 d2 an ad bn bd g : Int} (h1 : g ∣ ad) (h2 : g ∣ bd) (g0 : 0 < g) (had : 0 < ad) (hbd : 0 < bd) (hd1 : 0 < d1) (hd2 : 0 < d2) (e1 : an * d1 = n1 * ad) (e2 : bn * d2 = n2 * bd) : an * (bd / g) < bn * (ad / g) ↔ n1 * d2 < n2 * d1 := by
  have k1 := lev_one (n := an) h2
  have k2 := lev_one (n := bn) h1
  have P := Int.mul_pos had hbd
  have Q := Int.mul_pos hd1 hd2
  have s1 : (an * bd) * (d1 * d2) = (n1 * d2) * (ad * bd) := by
    have : (an * bd) * (d1 * d2) = (an * d1) * (bd * d2) := by grind
    rw [this, e1]; grind
  have s2 : (bn * ad) * (d1 * d2) = (n2 * d1) * (ad * bd) := by
    have : (bn * ad) * (d1 * d2) = (bn * d2) * (ad * d1) := by grind
    rw [this, e2]; grind
  constructor
  · intro h
    have h3 := Int.mul_lt_mul_of_pos_right h g0
    rw [k1, k2] at h3
    have h4 := Int.mul_lt_mul_of_pos_right h3 Q
    rw [s1, s2] at h4
    exact Int.lt_of_mul_lt_mul_right h4 (by omega)
  · intro h
    have h4 := Int.mul_lt_mul_of_pos_right h P
    rw [← s1, ← s2] at h4
    have h3 := Int.lt_of_mul_lt_mul_right h4 (by omega)
    rw [← k1, ← k2] at h3
    exact Int.lt_of_mul_lt_mul_right h3 (by omega)
/-- what is left, at its least; or too great -/
def GivesSub (w : World) (L : Nat) (n1 d1 n2 d2 : Int) (e : Ending) (w' : World) : Prop :=
  ∃ v er, e = .returned (.tuple #[v, .int .i64 er]) ∧ Below w.heap.size w w' ∧ ((n1 * d2 < n2 * d1 ∧ er = 16 ∧ v = .agg #[.slice none 0 0, .slice none 0 0]) ∨ (n2 * d1 ≤ n1 * d2 ∧ er = 0 ∧ ∃ n d, Rat w' 0 L v n d ∧ Lo n d ∧ n * (d1 * d2) = (n1 * d2 - n2 * d1) * d))

set_option maxHeartbeats 4000000 in
theorem qsub_any (v u : Value) (n1 d1 n2 d2 : Int) (b1 b2 L : Nat) (w : World) (h1 : Rat w b1 L v n1 d1) (h2 : Rat w b2 L u n2 d2) (p1 : 0 < d1) (p2 : 0 < d2) (q1 : 0 ≤ n1) (q2 : 0 ≤ n2) (hL : L ≤ 300) :
    Calls Try.prog 41 #[v, u] w (GivesSub w (L + L) n1 d1 n2 d2) := by
  obtain ⟨a1, l1, c1, z1, a2, l2, c2, z2, rfl, r1, i1, r2, i2, hl1, hl2, _, _⟩ := h1
  obtain ⟨a3, l3, c3, z3, a4, l4, c4, z4, rfl, r3, i3, r4, i4, hl3, hl4, _, _⟩ := h2
  have R1 := Lib.hid r1; have R2 := Lib.hid r2; have R3 := Lib.hid r3; have R4 := Lib.hid r4
  have I1 := Lib.hid i1; have I2 := Lib.hid i2; have I3 := Lib.hid i3; have I4 := Lib.hid i4
  clear r1 r2 r3 r4 i1 i2 i3 i4
  go_enter Try.func41, Try.ntmps41
  go_wp2_with fail
  obtain ⟨W0, hW0⟩ : ∃ W0, ((w.alloc (Obj.cells #[Value.slice a1 l1 c1, Value.slice a2 l2 c2] 27)).alloc (Obj.cells #[Value.slice a3 l3 c3, Value.slice a4 l4 c4] 27)).alloc (Obj.cells #[Value.slice none 0 0, Value.slice none 0 0] 27) = W0 := ⟨_, rfl⟩
  have BX := three_boxes w #[Value.slice a1 l1 c1, Value.slice a2 l2 c2] #[Value.slice a3 l3 c3, Value.slice a4 l4 c4] #[Value.slice none 0 0, Value.slice none 0 0] 27 27 27
  have T0 := Lib.hid (show W0.heap[w.heap.size + 1 + 1]? = some (.cells #[.slice none 0 0, .slice none 0 0] 27 (0, 0)) by
    rw [← hW0, show w.heap.size + 1 + 1 = ((w.alloc (Obj.cells #[Value.slice a1 l1 c1, Value.slice a2 l2 c2] 27)).alloc (Obj.cells #[Value.slice a3 l3 c3, Value.slice a4 l4 c4] 27)).heap.size by simp]
    exact heap_alloc_new _ _)
  have A0 := Lib.hid (show W0.heap[w.heap.size]? = some (.cells #[.slice a1 l1 c1, .slice a2 l2 c2] 27 (0, 0)) by
    rw [← hW0, Below.heap_alloc _ _ _ (by simp; omega), Below.heap_alloc _ _ _ (by simp)]
    exact heap_alloc_new _ _)
  have D0 := Lib.hid (show W0.heap[w.heap.size + 1]? = some (.cells #[.slice a3 l3 c3, .slice a4 l4 c4] 27 (0, 0)) by
    rw [← hW0, Below.heap_alloc _ _ _ (by simp), show w.heap.size + 1 = (w.alloc (Obj.cells #[Value.slice a1 l1 c1, Value.slice a2 l2 c2] 27)).heap.size by simp]
    exact heap_alloc_new _ _)
  rw [hW0] at BX ⊢
  have B0 := Lib.hid BX.2.2.2.2.1
  clear BX hW0
  refine (qcheck_yes _ n1 d1 L 0 W0 ⟨a1, l1, c1, z1, a2, l2, c2, z2, rfl, R1.out.below B0.out, I1.out, R2.out.below B0.out, I2.out, hl1, hl2, fresh0 _, fresh0 _⟩ p1).mono ?_
  rintro e w1 ⟨rfl, hb⟩
  have A1 := Lib.hid ((hb.block _ (lt_of_block A0.out)).trans A0.out)
  have D1 := Lib.hid ((hb.block _ (lt_of_block D0.out)).trans D0.out)
  have T1 := Lib.hid ((hb.block _ (lt_of_block T0.out)).trans T0.out)
  have B1 := Lib.hid (below_next B0.out hb)
  clear hb A0 D0 T0 B0
  have u0 : w1.cell? ⟨w.heap.size + 1, 0, none⟩ = some (.slice a3 l3 c3) := block_cell D1.out
  have u1 : w1.cell? ⟨w.heap.size + 1, 1, none⟩ = some (.slice a4 l4 c4) := block_cell D1.out
  go_wp2_with fail
  clear u0 u1
  refine (qcheck_yes _ n2 d2 L 0 w1 ⟨a3, l3, c3, z3, a4, l4, c4, z4, rfl, R3.out.below B1.out, I3.out, R4.out.below B1.out, I4.out, hl3, hl4, fresh0 _, fresh0 _⟩ p2).mono ?_
  rintro e w2 ⟨rfl, hb⟩
  have A2 := Lib.hid (show w2.drew.heap[w.heap.size]? = _ from (hb.block _ (lt_of_block A1.out)).trans A1.out)
  have D2 := Lib.hid (show w2.drew.heap[w.heap.size + 1]? = _ from (hb.block _ (lt_of_block D1.out)).trans D1.out)
  have T2 := Lib.hid (show w2.drew.heap[w.heap.size + 1 + 1]? = _ from (hb.block _ (lt_of_block T1.out)).trans T1.out)
  have B2 := Lib.hid (show Below w.heap.size w w2.drew from (below_next B1.out hb).drew)
  clear hb A1 D1 T1 B1
  have LE1 := Lib.hid (lo_least q1 p1)
  have LE2 := Lib.hid (lo_least q2 p2)
  have x0 : w2.cell? ⟨w.heap.size, 0, none⟩ = some (.slice a1 l1 c1) := block_cell A2.out
  have x1 : w2.cell? ⟨w.heap.size, 1, none⟩ = some (.slice a2 l2 c2) := block_cell A2.out
  have x2 : w2.cell? ⟨w.heap.size + 1, 0, none⟩ = some (.slice a3 l3 c3) := block_cell D2.out
  have x3 : w2.cell? ⟨w.heap.size + 1, 1, none⟩ = some (.slice a4 l4 c4) := block_cell D2.out
  have sz1 := lt_of_block A2.out
  have sz2 := lt_of_block D2.out
  have sz3 := lt_of_block T2.out
  have o1 : L ≤ 800 := by omega
  have RA := Lib.hid (show Rat w2.drew 0 L (.agg #[.slice a1 l1 c1, .slice a2 l2 c2]) n1 d1 from ⟨a1, l1, c1, z1, a2, l2, c2, z2, rfl, R1.out.below B2.out, I1.out, R2.out.below B2.out, I2.out, hl1, hl2, fresh0 _, fresh0 _⟩)
  have RB := Lib.hid (show Rat w2.drew 0 L (.agg #[.slice a3 l3 c3, .slice a4 l4 c4]) n2 d2 from ⟨a3, l3, c3, z3, a4, l4, c4, z4, rfl, R3.out.below B2.out, I3.out, R4.out.below B2.out, I4.out, hl3, hl4, fresh0 _, fresh0 _⟩)
  clear R1 R2 R3 R4 I1 I2 I3 I4
  go_wp2
  go_region_with
    (first
      | (go_at_call 54; ((with_reducible refine (least_any _ n1 d1 0 L w2.drew RA.out p1 o1).mono ?_)); rintro e w3 ⟨_, rfl, ⟨e1, f1, g1, y1, e2, f2, g2, y2, rfl, s1, s2, s3, s4, s5, s6, _, _⟩, hb⟩; have S1 := Lib.hid s1; have S2 := Lib.hid s2; have S3 := Lib.hid s3; have S4 := Lib.hid s4; have B3 := Lib.hid hb; have A3 := Lib.hid ((hb.block _ sz1).trans A2.out); have D3 := Lib.hid ((hb.block _ sz2).trans D2.out); have T3 := Lib.hid ((hb.block _ sz3).trans T2.out); have m2 : w3.cell? ⟨w.heap.size + 1, 0, none⟩ = some (.slice a3 l3 c3) := block_cell D3.out; have m3 : w3.cell? ⟨w.heap.size + 1, 1, none⟩ = some (.slice a4 l4 c4) := block_cell D3.out; clear s1 s2 s3 s4 hb)
      | (go_at_call 54; ((with_reducible refine (least_any _ n2 d2 0 L w3 (RB.out.below B3.out) p2 o1).mono ?_)); rintro e w4 ⟨_, rfl, ⟨e3, f3, g3, y3, e4, f4, g4, y4, rfl, s1, s2, s3, s4, s7, s8, _, _⟩, hb⟩; have S5 := Lib.hid s1; have S6 := Lib.hid s2; have S7 := Lib.hid s3; have S8 := Lib.hid s4; have B4 := Lib.hid hb; have A4 := Lib.hid ((hb.block _ (lt_of_block A3.out)).trans A3.out); have D4 := Lib.hid ((hb.block _ (lt_of_block D3.out)).trans D3.out); have T4 := Lib.hid ((hb.block _ (lt_of_block T3.out)).trans T3.out); have k0 : w4.cell? ⟨w.heap.size, 0, none⟩ = some (.slice a1 l1 c1) := block_cell A4.out; have k1 : w4.cell? ⟨w.heap.size, 1, none⟩ = some (.slice a2 l2 c2) := block_cell A4.out; have k2 : w4.cell? ⟨w.heap.size + 1, 0, none⟩ = some (.slice a3 l3 c3) := block_cell D4.out; have k3 : w4.cell? ⟨w.heap.size + 1, 1, none⟩ = some (.slice a4 l4 c4) := block_cell D4.out; have k4 : w4.frozen? ⟨w.heap.size, 0, none⟩ = false := block_free A4.out; have k5 : w4.frozen? ⟨w.heap.size, 1, none⟩ = false := block_free A4.out; have k6 : w4.frozen? ⟨w.heap.size + 1, 0, none⟩ = false := block_free D4.out; have k7 : w4.frozen? ⟨w.heap.size + 1, 1, none⟩ = false := block_free D4.out; clear s1 s2 s3 s4 hb))
  all_goals
    go_wp2_with fail
    obtain ⟨Wm, hWm⟩ : ∃ Wm, (w4.setCell ⟨w.heap.size, 0, none⟩ (.slice e1 f1 g1)).setCell ⟨w.heap.size, 1, none⟩ (.slice e2 f2 g2) = Wm := ⟨_, rfl⟩
    have Am := Lib.hid (show Wm.heap[w.heap.size]? = some (.cells #[.slice e1 f1 g1, .slice e2 f2 g2] 27 (0, 0)) by rw [← hWm]; exact two_set A4.out)
    have Dm := Lib.hid (show Wm.heap[w.heap.size + 1]? = some (.cells #[.slice a3 l3 c3, .slice a4 l4 c4] 27 (0, 0)) by rw [← hWm, Below.heap_setCell _ _ _ _ (by simp), Below.heap_setCell _ _ _ _ (by simp)]; exact D4.out)
    have Tm := Lib.hid (show Wm.heap[w.heap.size + 1 + 1]? = some (.cells #[.slice none 0 0, .slice none 0 0] 27 (0, 0)) by rw [← hWm, Below.heap_setCell _ _ _ _ (by simp; omega), Below.heap_setCell _ _ _ _ (by simp; omega)]; exact T4.out)
    have M1 := Lib.hid (show Row .u32 Wm e1 f1 g1 y1 by rw [← hWm]; exact (S1.out.below B4.out).box A4.out _ _)
    have M2 := Lib.hid (show Row .u32 Wm e2 f2 g2 y2 by rw [← hWm]; exact (S3.out.below B4.out).box A4.out _ _)
    have M3 := Lib.hid (show Row .u32 Wm e3 f3 g3 y3 by rw [← hWm]; exact S5.out.box A4.out _ _)
    have M4 := Lib.hid (show Row .u32 Wm e4 f4 g4 y4 by rw [← hWm]; exact S7.out.box A4.out _ _)
    have Bm := Lib.hid (show Below w.heap.size w Wm by rw [← hWm]; exact ((below_next (below_next B2.out B3.out) B4.out).setCell (Nat.le_refl _) _).setCell (Nat.le_refl _) _)
    rw [hWm]
    obtain ⟨W5, hW5⟩ : ∃ W5, (Wm.setCell ⟨w.heap.size + 1, 0, none⟩ (.slice e3 f3 g3)).setCell ⟨w.heap.size + 1, 1, none⟩ (.slice e4 f4 g4) = W5 := ⟨_, rfl⟩
    have A5 := Lib.hid (show W5.heap[w.heap.size]? = some (.cells #[.slice e1 f1 g1, .slice e2 f2 g2] 27 (0, 0)) by rw [← hW5, Below.heap_setCell _ _ _ _ (by simp), Below.heap_setCell _ _ _ _ (by simp)]; exact Am.out)
    have D5 := Lib.hid (show W5.heap[w.heap.size + 1]? = some (.cells #[.slice e3 f3 g3, .slice e4 f4 g4] 27 (0, 0)) by rw [← hW5]; exact two_set Dm.out)
    have T5 := Lib.hid (show W5.heap[w.heap.size + 1 + 1]? = some (.cells #[.slice none 0 0, .slice none 0 0] 27 (0, 0)) by rw [← hW5, Below.heap_setCell _ _ _ _ (by simp), Below.heap_setCell _ _ _ _ (by simp)]; exact Tm.out)
    have N1 := Lib.hid (show Row .u32 W5 e1 f1 g1 y1 by rw [← hW5]; exact M1.out.box Dm.out _ _)
    have N2 := Lib.hid (show Row .u32 W5 e2 f2 g2 y2 by rw [← hW5]; exact M2.out.box Dm.out _ _)
    have N3 := Lib.hid (show Row .u32 W5 e3 f3 g3 y3 by rw [← hW5]; exact M3.out.box Dm.out _ _)
    have N4 := Lib.hid (show Row .u32 W5 e4 f4 g4 y4 by rw [← hW5]; exact M4.out.box Dm.out _ _)
    have B5 := Lib.hid (show Below w.heap.size w W5 by rw [← hW5]; exact (Bm.out.setCell (show w.heap.size ≤ w.heap.size + 1 by omega) _).setCell (show w.heap.size ≤ w.heap.size + 1 by omega) _)
    rw [hW5]
    clear hWm hW5 Am Dm Tm M1 M2 M3 M4 Bm A4 D4 T4 S1 S3 S5 S7 B3 B4 A3 D3 T3 A2 D2 T2 B2 RA RB x0 x1 x2 x3 k0 k1 k2 k3 k4 k5 k6 k7 sz1 sz2 sz3 m2 m3
    obtain ⟨an, han⟩ : ∃ x, n1 / gc n1 d1 = x := ⟨_, rfl⟩
    obtain ⟨ad, had⟩ : ∃ x, d1 / gc n1 d1 = x := ⟨_, rfl⟩
    obtain ⟨bn, hbn⟩ : ∃ x, n2 / gc n2 d2 = x := ⟨_, rfl⟩
    obtain ⟨bd, hbd⟩ : ∃ x, d2 / gc n2 d2 = x := ⟨_, rfl⟩
    rw [han, had] at LE1
    rw [hbn, hbd] at LE2
    rw [han] at S2
    rw [had] at S4
    rw [hbn] at S6
    rw [hbd] at S8
    have ad0 : 0 < ad := LE1.out.1.2.1
    have bd0 : 0 < bd := LE2.out.1.2.1
    have an0 : 0 ≤ an := LE1.out.1.1
    have bn0 : 0 ≤ bn := LE2.out.1.1
    have SC := Lib.hid (sub_cmp (g := gc ad bd) gc_dvd gc_dvd' (by have := gc_pos (a := ad) bd0; omega) ad0 bd0 p1 p2 LE1.out.2 LE2.out.2)
    clear han had hbn hbd
    refine (level_any _ _ an ad bn bd 0 0 L L W5 ⟨e1, f1, g1, y1, e2, f2, g2, y2, rfl, N1.out, S2.out, N2.out, S4.out, s5, s6, fresh0 _, fresh0 _⟩ ⟨e3, f3, g3, y3, e4, f4, g4, y4, rfl, N3.out, S6.out, N4.out, S8.out, s7, s8, fresh0 _, fresh0 _⟩ bd0 o1 o1).mono ?_
    rintro e w6 ⟨t1, t2, t3, t4, t5, t6, t7, t8, t9, t10, t11, t12, rfl, hr1, hi1, hr2, hi2, hr3, hi3, hv1, hv2, hv3, hb6⟩
    have E1 := Lib.hid hr1; have E2 := Lib.hid hr2; have E3 := Lib.hid hr3; have J1 := Lib.hid hi1; have J2 := Lib.hid hi2; have J3 := Lib.hid hi3
    have A6 := Lib.hid ((hb6.block _ (lt_of_block A5.out)).trans A5.out)
    have D6 := Lib.hid ((hb6.block _ (lt_of_block D5.out)).trans D5.out)
    have T6 := Lib.hid ((hb6.block _ (lt_of_block T5.out)).trans T5.out)
    have N6 := Lib.hid (N2.out.below hb6)
    have N7 := Lib.hid (N4.out.below hb6)
    have B6 := Lib.hid (below_next B5.out hb6)
    clear hr1 hr2 hr3 hi1 hi2 hi3 hb6 A5 D5 T5 N1 N2 N3 N4 B5
    rcases Int.lt_or_le (n1 * d2) (n2 * d1) with gg | gg
    · -- too great
      have GG := Lib.hid gg
      have LT := SC.out.mpr gg
      have SB := Lib.hid (show Subs (an * (bd / gc ad bd)) (bn * (ad / gc ad bd)) 0 16 from .inl ⟨LT, rfl, rfl⟩)
      clear gg LT SC
      go_wp2_with fail
      refine (nSub_is _ _ _ t4 _ _ _ _ t8 _ w6 E1.out J1.out E2.out J2.out (by omega) 0 16 SB.out).mono ?_
      rintro e w7 ⟨j1, j2, j3, j4, rfl, _, _, hb7⟩
      have T7 := Lib.hid ((hb7.block _ (lt_of_block T6.out)).trans T6.out)
      have B7 := Lib.hid (below_next B6.out hb7)
      clear hb7
      have s0 : w7.cell? ⟨w.heap.size + 1 + 1, 0, none⟩ = some (.slice none 0 0) := block_cell T7.out
      have s1 : w7.cell? ⟨w.heap.size + 1 + 1, 1, none⟩ = some (.slice none 0 0) := block_cell T7.out
      have s2 : w7.frozen? ⟨w.heap.size + 1 + 1, 0, none⟩ = false := block_free T7.out
      have s3 : w7.frozen? ⟨w.heap.size + 1 + 1, 1, none⟩ = false := block_free T7.out
      go_wp2
      refine bodyPost_ret (v := .tuple #[.agg #[.slice none 0 0, .slice none 0 0], .int .i64 16]) (by simp [results, Try.results41, go_sem, s0, s1]) rfl ⟨_, _, rfl, ?_, .inl ⟨GG.out, rfl, rfl⟩⟩
      exact (B7.out.setCell (show w.heap.size ≤ w.heap.size + 1 + 1 by omega) _).setCell (show w.heap.size ≤ w.heap.size + 1 + 1 by omega) _
    · have GG := Lib.hid gg
      have GE : bn * (ad / gc ad bd) ≤ an * (bd / gc ad bd) := by
        rcases Int.lt_or_le (an * (bd / gc ad bd)) (bn * (ad / gc ad bd)) with h | h
        · have := SC.out.mp h; omega
        · exact h
      have g0 : 0 < gc ad bd := by have := gc_pos (a := ad) bd0; omega
      have SB := Lib.hid (show Subs (an * (bd / gc ad bd)) (bn * (ad / gc ad bd)) (an * (bd / gc ad bd) - bn * (ad / gc ad bd)) 0 from .inr ⟨GE, rfl, rfl⟩)
      have SUM := Lib.hid (lo_sum (t := an * (bd / gc ad bd) - bn * (ad / gc ad bd)) LE1.out.1 LE2.out.1 (by omega) (.inr (by omega)))
      have LV := Lib.hid (show (an * (bd / gc ad bd) - bn * (ad / gc ad bd)) * gc ad bd = an * bd - bn * ad by
        rw [Int.sub_mul, lev_one gc_dvd', lev_one gc_dvd])
      have UP := Lib.hid (show an * (bd / gc ad bd) - bn * (ad / gc ad bd) ≤ an * (bd / gc ad bd) by
        have := Int.mul_nonneg bn0 (Int.ediv_nonneg (show 0 ≤ ad by omega) (show 0 ≤ gc ad bd by omega)); omega)
      have XB := Lib.hid ((is_lt J1.out (p := L + L) (by rw [E1.out.len]; exact hv1)).2)
      obtain ⟨g, hg⟩ : ∃ g, gc ad bd = g := ⟨_, rfl⟩
      rw [hg] at SB SUM LV J3 UP J1 J2 g0 XB
      obtain ⟨t, ht⟩ : ∃ t, an * (bd / g) - bn * (ad / g) = t := ⟨_, rfl⟩
      rw [ht] at SB SUM LV UP
      clear gg GE SC hg ht
      go_wp2_with fail
      refine (nSub_is _ _ _ t4 _ _ _ _ t8 _ w6 E1.out J1.out E2.out J2.out (by omega) t 0 SB.out).mono ?_
      rintro e w7 ⟨j1, j2, j3, j4, rfl, hr7, hi7, hb7⟩
      have R7 := Lib.hid hr7; have I7 := Lib.hid hi7
      have L7 : j2 ≤ L + L := is_up hr7 hi7 UP.out XB.out
      have A7 := Lib.hid ((hb7.block _ (lt_of_block A6.out)).trans A6.out)
      have D7 := Lib.hid ((hb7.block _ (lt_of_block D6.out)).trans D6.out)
      have T7 := Lib.hid ((hb7.block _ (lt_of_block T6.out)).trans T6.out)
      have N8 := Lib.hid (N6.out.below hb7)
      have N9 := Lib.hid (N7.out.below hb7)
      have E7 := Lib.hid (E3.out.below hb7)
      have B7 := Lib.hid (below_next B6.out hb7)
      clear hr7 hi7 hb7 A6 D6 T6 N6 N7 B6 E1 E2 E3
      have u1 : w7.cell? ⟨w.heap.size, 1, none⟩ = some (.slice e2 f2 g2) := block_cell A7.out
      have u2 : w7.cell? ⟨w.heap.size + 1, 1, none⟩ = some (.slice e4 f4 g4) := block_cell D7.out
      go_wp2_with fail
      clear u1 u2
      refine (lower_any j1 j2 j3 j4 t e2 f2 g2 y2 ad e4 f4 g4 y4 bd t9 t10 t11 t12 g (L + L) w7 R7.out I7.out N8.out S4.out N9.out S8.out E7.out J3.out g0 (by omega) (by omega) (by omega) hv3 L7 (by omega)).mono ?_
      rintro e w8 ⟨_, rfl, ⟨h1', h2', h3', h4', h5', h6', h7', h8', rfl, r1', i1', r2', i2', m1', m2', _, _⟩, hb8⟩
      have P1 := Lib.hid r1'; have P2 := Lib.hid i1'; have P3 := Lib.hid r2'; have P4 := Lib.hid i2'
      have T8 := Lib.hid ((hb8.block _ (lt_of_block T7.out)).trans T7.out)
      have B8 := Lib.hid (below_next B7.out hb8)
      clear r1' i1' r2' i2' hb8
      have s0 : w8.cell? ⟨w.heap.size + 1 + 1, 0, none⟩ = some (.slice none 0 0) := block_cell T8.out
      have s1 : w8.cell? ⟨w.heap.size + 1 + 1, 1, none⟩ = some (.slice none 0 0) := block_cell T8.out
      have s2 : w8.frozen? ⟨w.heap.size + 1 + 1, 0, none⟩ = false := block_free T8.out
      have s3 : w8.frozen? ⟨w.heap.size + 1 + 1, 1, none⟩ = false := block_free T8.out
      go_wp2
      refine bodyPost_ret (v := .tuple #[.agg #[.slice h1' h2' h3', .slice h5' h6' h7'], .int .i64 0]) (by simp [results, Try.results41, go_sem, s0, s1]) rfl ⟨_, _, rfl, ?_, .inr ⟨GG.out, rfl, _, _, ⟨h1', h2', h3', h4', h5', h6', h7', h8', rfl, P1.out.box T8.out _ _, P2.out, P3.out.box T8.out _ _, P4.out, m1', m2', fresh0 _, fresh0 _⟩, SUM.out.1, frac_sub ad0 bd0 LE1.out.2 LE2.out.2 (by rw [SUM.out.2, LV.out])⟩⟩
      exact (B8.out.setCell (show w.heap.size ≤ w.heap.size + 1 + 1 by omega) _).setCell (show w.heap.size ≤ w.heap.size + 1 + 1 by omega) _
end Go.Proofs.Ytphlkpkbdnddlaa
