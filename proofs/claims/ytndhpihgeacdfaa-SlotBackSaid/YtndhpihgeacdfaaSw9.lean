/-
  The reader's runs: contract.
-/
import Derived.Test.YtndhpihgeacdfaaSw8
namespace Go.Proofs.Ytndhpihgeacdfaa
open Go.RowKit

theorem run_make_rowN {P : Program} (t e : TypeId) (i : TypeInfo) (z : Value) (ht : P.underlying t = some (.slice e)) (hi : P.info? e = some i) (hz : i.zero = some z)
    (kl kc : IntKind) (n c : Nat) (hnc : n ≤ c) (hbytes : i.bytes * c ≤ 281474976710656) (h63 : c ≤ 9223372036854775807) (w : World) :
    (Instr.makeSlice t (.int kl (n : Int)) (.int kc (c : Int))).run P w = .ok (.slice (some ⟨w.heap.size, 0, none⟩) n c) (w.alloc (.cells (madeCells z.cells (c * i.size)) e)) := by
  have hb : (i.bytes : Int) * (c : Int) ≤ 281474976710656 := by
    have h : ((i.bytes * c : Nat) : Int) ≤ 281474976710656 := by omega
    rwa [Int.natCast_mul] at h
  have hr := run_make (P := P) w t e i z ht hi hz kl kc n c (by omega) (by omega) hb (by omega)
  simp only [Int.toNat_natCast] at hr
  exact hr
theorem flat_set {c : Nat} : ∀ (rs : List (List Value)) (k : Nat) (x : List Value), Wide c rs → x.length = c → k < rs.length → ∀ j, (rs.set k x).flatten[j]? = if k * c ≤ j ∧ j < k * c + c then x[j - k * c]? else rs.flatten[j]?
  | [], k, x, _, _, hk, j => by simp at hk
  | r :: rs, 0, x, hw, hx, _, j => by
    have hr := hw r List.mem_cons_self
    rw [List.set_cons_zero, List.flatten_cons, List.flatten_cons, Nat.zero_mul, Nat.zero_add, Nat.sub_zero]
    by_cases h : j < c
    · rw [if_pos ⟨by omega, h⟩, List.getElem?_append_left (by omega)]
    · rw [if_neg (by omega), List.getElem?_append_right (by omega), List.getElem?_append_right (by omega), hx, hr]
  | r :: rs, k + 1, x, hw, hx, hk, j => by
    have hr := hw r List.mem_cons_self
    rw [List.set_cons_succ, List.flatten_cons, List.flatten_cons]
    have e : (k + 1) * c = k * c + c := by rw [Nat.add_mul, Nat.one_mul]
    by_cases h : j < c
    · rw [List.getElem?_append_left (by omega), if_neg (by omega), List.getElem?_append_left (by omega)]
    · rw [List.getElem?_append_right (by omega), hr, flat_set rs k x (fun y hy => hw y (List.mem_cons_of_mem _ hy)) hx (by simpa using hk) (j - c), List.getElem?_append_right (by omega), hr, e]
      by_cases g : k * c ≤ j - c ∧ j - c < k * c + c
      · rw [if_pos g, if_pos (by omega), show j - c - k * c = j - (k * c + c) by omega]
      · rw [if_neg g, if_neg (by omega)]
theorem flat_set3 {rs : List (List Value)} {k : Nat} {a b d : Value} (hw : Wide 3 rs) (hk : k < rs.length) : (((rs.flatten).set (k * 3) a).set (k * 3 + 1) b).set (k * 3 + 2) d = (rs.set k [a, b, d]).flatten := by
  apply List.ext_getElem?
  intro j
  rw [flat_set rs k [a, b, d] hw rfl hk]
  have hl := flat_len rs hw
  rw [List.getElem?_set, List.getElem?_set, List.getElem?_set, List.length_set, List.length_set, hl]
  by_cases e0 : j = k * 3
  · subst e0; simp; omega
  · by_cases e1 : j = k * 3 + 1
    · subst e1; simp; omega
    · by_cases e2 : j = k * 3 + 2
      · subst e2; simp; omega
      · rw [if_neg (by omega), if_neg (by omega), if_neg (by omega), if_neg (by omega)]
theorem flat_set2 {rs : List (List Value)} {k : Nat} {a b : Value} (hw : Wide 2 rs) (hk : k < rs.length) : ((rs.flatten).set (k * 2) a).set (k * 2 + 1) b = (rs.set k [a, b]).flatten := by
  apply List.ext_getElem?
  intro j
  rw [flat_set rs k [a, b] hw rfl hk]
  have hl := flat_len rs hw
  rw [List.getElem?_set, List.getElem?_set, List.length_set, hl]
  by_cases e0 : j = k * 2
  · subst e0; simp; omega
  · by_cases e1 : j = k * 2 + 1
    · subst e1; simp; omega
    · rw [if_neg (by omega), if_neg (by omega), if_neg (by omega)]
theorem made_flat (z : Array Value) (n c : Nat) (hz : z.size = c) (hc : 0 < c) : (madeCells z (n * c)).toList = (List.replicate n z.toList).flatten := by
  have hw : Wide c (List.replicate n z.toList) := fun r hr => by rw [(List.mem_replicate.mp hr).2]; simpa using hz
  apply List.ext_getElem?
  intro j
  rcases Nat.lt_or_ge j (n * c) with h | h
  · have hd : j = j / c * c + j % c := by rw [Nat.mul_comm]; exact (Nat.div_add_mod j c).symm
    have h1 : j / c < n := by rw [Nat.div_lt_iff_lt_mul hc]; exact h
    have h2 := Nat.mod_lt j hc
    have hr := flat_at (List.replicate n z.toList) hw (j / c) (by rw [List.length_replicate]; exact h1) (j % c) h2
    rw [← hd] at hr
    rw [hr, List.getD_eq_getElem?_getD, List.getElem?_replicate, if_pos h1]
    simp [madeCells, h, hz]
    rw [Array.getElem?_eq_getElem (by omega)]
    simp
    exact getElem!_pos z (j % c) (by omega)
  · rw [List.getElem?_eq_none (by simp [madeCells]; exact h), List.getElem?_eq_none (by rw [flat_len _ hw, List.length_replicate]; exact h)]
def zr : Ru := ⟨0, 0, 0⟩
/-- the first k of n are these, the others are nothing yet -/
def fillU (n : Nat) (R : List Ru) : List Ru := R ++ List.replicate (n - R.length) zr
theorem fill_len {n : Nat} {R : List Ru} (h : R.length ≤ n) : (fillU n R).length = n := by unfold fillU; rw [List.length_append, List.length_replicate]; omega
theorem fill_zero (n : Nat) : fillU n [] = List.replicate n zr := by unfold fillU; simp
theorem fill_full {n : Nat} {R : List Ru} (h : R.length = n) : fillU n R = R := by unfold fillU; rw [h]; simp
theorem fill_set {n : Nat} {R : List Ru} {r : Ru} (h : R.length < n) : (fillU n R).set R.length r = fillU n (R ++ [r]) := by
  unfold fillU
  rw [List.set_append_right (h := Nat.le_refl _)]
  rw [Nat.sub_self, List.length_append, List.length_singleton, show n - R.length = (n - (R.length + 1)) + 1 by omega, List.replicate_succ, List.set_cons_zero, List.append_assoc]
  rfl
/-- a made row of runs, being filled -/
def FU (B : Nat) (W : World) (g n : Nat) (R : List Ru) : Prop := W.ownsRow B 44 3 (.slice (some ⟨g, 0, none⟩) n n) n ((fillU n R).map Ru.cs).flatten
theorem FU.lt {B : Nat} {W : World} {g n : Nat} {R : List Ru} (h : FU B W g n R) : B ≤ g ∧ g < W.heap.size := World.ownsRow.lt h g rfl
theorem FU.keeps {B : Nat} {W W' : World} {g n : Nat} {R : List Ru} {F : Nat → Prop} (h : FU B W g n R) (k : Keeps F W W') (hF : ¬ F g) : FU B W' g n R := owns_keeps h k (fun x e => by cases e; exact hF)
theorem FU.free {B : Nat} {W : World} {g n : Nat} {R : List Ru} (h : FU B W g n R) (j : Nat) : W.frozen? ⟨g, j, none⟩ = false := by
  rcases h.2 with ⟨h', _⟩ | ⟨g', cap', cur, h', _, hg, _⟩
  · simp at h'
  · simp only [Value.slice.injEq, Option.some.injEq, Addr.mk.injEq, and_true, true_and] at h'
    obtain ⟨rfl, rfl⟩ := h'
    exact frozen_of_row W g j cur _ hg
theorem FU.cell {B : Nat} {W : World} {g n : Nat} {R : List Ru} (h : FU B W g n R) {j : Nat} (hj : j < n * 3) : ∃ v, W.cell? ⟨g, j, none⟩ = some v := by
  have := World.ownsRow.cellAt h j hj
  rw [this]
  exact ⟨_, List.getElem?_eq_getElem (by rw [h.1]; exact hj)⟩
theorem FU.store {B : Nat} {W : World} {g n : Nat} {R : List Ru} (h : FU B W g n R) (hr : R.length < n) (r : Ru) :
    FU B (((W.setCell ⟨g, R.length * 3, none⟩ (.int .i64 r.id)).setCell ⟨g, R.length * 3 + 1, none⟩ (.int .i64 r.core)).setCell ⟨g, R.length * 3 + 2, none⟩ (.int .i64 r.idx)) g n (R ++ [r]) := by
  have h3 := (((World.ownsRow.stored h (R.length * 3) (.int .i64 r.id)).1.stored (R.length * 3 + 1) (.int .i64 r.core)).1.stored (R.length * 3 + 2) (.int .i64 r.idx)).1
  rw [flat_set3 (wideU _) (by rw [List.length_map, fill_len (by omega)]; exact hr)] at h3
  unfold FU
  rw [← fill_set hr, List.map_set]
  exact h3
theorem FU.row {B : Nat} {W : World} {g n : Nat} {R : List Ru} (h : FU B W g n R) (hr : R.length = n) : RowU W (some ⟨g, 0, none⟩) n n R := by
  unfold FU at h
  rw [fill_full hr] at h
  obtain ⟨a, cap, h1, h2, _⟩ := rowU_of_owns h hr
  simp only [Value.slice.injEq] at h1
  obtain ⟨rfl, _, rfl⟩ := h1
  exact h2
theorem FU.new (B : Nat) (w : World) (n : Nat) (hB : B ≤ w.heap.size) (hn : n ≤ 100000) : FU B (w.alloc (.cells (madeCells (Value.agg #[.int .i64 0, .int .i64 0, .int .i64 0]).cells (n * 3)) 44)) w.heap.size n [] := by
  have h := World.ownsRow_lit (base := B) (e := 44) (size := 3) w (madeCells (Value.agg #[.int .i64 0, .int .i64 0, .int .i64 0]).cells (n * 3)) n hB (by unfold maxLen; omega) (by simp [madeCells])
  rw [made_flat _ n 3 rfl (by omega)] at h
  unfold FU
  rw [fill_zero, List.map_replicate]
  exact h
def RunsP (l : List UInt8) (p g : Nat) (w : World) (e : Ending) (w' : World) : Prop :=
  ((slotU l p).bad = false ∧ ∃ b c, e = .returned (.slice b (slotU l p).runs.length c) ∧ RowU w' b (slotU l p).runs.length c (slotU l p).runs ∧ Fresh w.heap.size b ∧ Blk w' 53 g #[.string (BS (l.drop (slotU l p).p))] ∧ Keeps (fun k => k = g) w w') ∨
  ((slotU l p).bad = true ∧ e = PE ∧ Keeps (fun k => k = g) w w')
theorem itU_up {l : List UInt8} {st : RS} {k n : Nat} (h : (itU l st k).bad = true) (hk : k ≤ n) : (itU l st n).bad = true := by
  have := itU_bad l h (n - k)
  rw [show k + (n - k) = n by omega] at this
  rw [this]
  exact h
theorem itU_len {l : List UInt8} {c : Int} {p k : Nat} {b : Bool} (h : (itU l ⟨[], c, p, b⟩ k).bad = false) : (itU l ⟨[], c, p, b⟩ k).runs.length = k := by
  obtain ⟨_, X, hX, hl, _⟩ := runs_took k [] c p b _ rfl h
  rw [hX]
  simpa using hl
theorem fresh_none (B : Nat) : Fresh B none := fun _ e => by cases e

set_option maxRecDepth 20000 in
set_option maxHeartbeats 4000000 in
theorem pruns_any (l : List UInt8) (p g : Nat) (w : World) (hl : l.length ≤ 1000000000) (hp : p ≤ l.length) (h : Blk w 53 g #[.string (BS (l.drop p))]) :
    Calls Try.prog 36 #[.pointer (some ⟨g, 0, none⟩)] w (RunsP l p g w) := by
  have H := Lib.hid h
  have gl := h.lt
  clear h
  have ML := nextV_bd l p false 1024 (by omega) hp
  obtain ⟨i0, hi, hz0, hz1, hz2⟩ := info_parts Try.infoU
  have hmk := fun (n : Nat) W (hn : n ≤ 1024) => run_make_rowN (P := Try.prog) 45 44 i0 _ Try.underlying45 hi hz0 .i64 .i64 n n (Nat.le_refl _) (by rw [hz2]; omega) (by omega) W
  rw [hz1] at hmk
  have HMK := Lib.hid hmk
  clear hmk hi hz0 hz1 hz2
  go_enter Try.func36, Try.ntmps36
  go_wp2_with fail
  refine (pnum_at l p 1024 g w hl H.out).mono ?_
  rintro e w1 hN
  have SU := Lib.hid (show slotU l p = itU l ⟨[], 0, (nextV l p false 1024).2.1, (nextV l p false 1024).2.2⟩ (nextV l p false 1024).1.toNat from rfl)
  rcases hN with ⟨hb, rfl, hx, hk⟩ | ⟨hb, rfl, hk⟩
  · have X1 := Lib.hid hx
    have K1 := Lib.hid hk
    clear hx hk
    obtain ⟨MM, hMM⟩ : ∃ MM, nextV l p false 1024 = MM := ⟨_, rfl⟩
    rw [hMM] at SU ML X1 hb ⊢
    clear hMM
    obtain ⟨m, p1, b1⟩ := MM
    replace hb : b1 = false := hb
    subst hb
    obtain ⟨m0, m1, mp⟩ := ML
    replace m0 : 0 ≤ m := m0
    replace m1 : m ≤ 1024 := m1
    replace mp : p1 ≤ l.length := mp
    obtain ⟨n, rfl⟩ := Int.eq_ofNat_of_zero_le m0
    replace X1 := Lib.hid (show Blk w1 53 g #[.string (BS (l.drop p1))] from X1.out)
    replace SU := Lib.hid (show slotU l p = itU l ⟨[], 0, p1, false⟩ n by have := SU.out; simpa using this)
    by_cases z : n = 0
    · have d1 : ((n : Int) == 0) = true := by simp [z]
      subst z
      replace SU := Lib.hid (show slotU l p = ⟨[], 0, p1, false⟩ from SU.out)
      have V := Lib.hid (show RunsP l p g w (.returned (.slice none 0 0)) w1 from .inl (by rw [SU.out]; exact ⟨rfl, none, 0, rfl, RowU.nil, fresh_none _, X1.out, K1.out⟩))
      go_wp2
      go_ret
      exact V.out
    · have d1 : ((n : Int) == 0) = false := by simp; omega
      have mk := HMK.out n w1 (by omega)
      obtain ⟨g2, hg2⟩ : ∃ g2, w1.heap.size = g2 := ⟨_, rfl⟩
      obtain ⟨W2, hW2⟩ : ∃ W2, w1.alloc (.cells (madeCells (Value.agg #[.int .i64 0, .int .i64 0, .int .i64 0]).cells (n * 3)) 44) = W2 := ⟨_, rfl⟩
      have F2 := Lib.hid (show FU w.heap.size W2 g2 n [] by rw [← hW2, ← hg2]; exact FU.new _ _ _ K1.out.size (by omega))
      have X2 := Lib.hid (show Blk W2 53 g #[.string (BS (l.drop p1))] by rw [← hW2]; exact X1.out.alloc _)
      have K2 := Lib.hid (show Keeps (fun k => k = g) w W2 by rw [← hW2]; exact K1.out.alloc _)
      have GG := Lib.hid (show g < g2 by rw [← hg2]; exact X1.out.lt)
      have G2 := Lib.hid (show w.heap.size ≤ g2 by rw [← hg2]; exact K1.out.size)
      rw [hW2, hg2] at mk
      clear hg2 hW2
      go_wp2
      clear mk d1
      go_loopw [5, 15] (fun c u wr => ∃ k : Nat, u = .int .i64 k ∧ k ≤ n ∧ c = .int .i64 (itU l ⟨[], 0, p1, false⟩ k).core ∧ (itU l ⟨[], 0, p1, false⟩ k).bad = false ∧ FU w.heap.size wr g2 n (itU l ⟨[], 0, p1, false⟩ k).runs ∧ Blk wr 53 g #[.string (BS (l.drop (itU l ⟨[], 0, p1, false⟩ k).p))] ∧ Keeps (fun k => k = g) w wr) (fun _ u _ => n - (intOf u).toNat)
      case atStart => exact ⟨0, rfl, by omega, rfl, rfl, F2.out, X2.out, K2.out⟩
      case round =>
        obtain ⟨k, rfl, k1, rfl, hbad, hf, hx, hk⟩ := hrel
        have F := Lib.hid hf
        have X := Lib.hid hx
        have K := Lib.hid hk
        have LK := Lib.hid (itU_len hbad)
        have PB := itU_bd l k ⟨[], 0, p1, false⟩ mp (Int.le_refl _)
        have SS := Lib.hid (itU_succ l k ⟨[], 0, p1, false⟩)
        have UP := Lib.hid (fun (h : (itU l ⟨[], 0, p1, false⟩ (k + 1)).bad = true) (q : k + 1 ≤ n) => (show (slotU l p).bad = true by rw [SU.out]; exact itU_up h q))
        clear hf hx hk
        by_cases go : k < n
        · have c1 : decide ((k : Int) < (n : Int)) = true := by simp; omega
          have c1' : decide (k < n) = true := by simp; omega
          obtain ⟨y, hy⟩ : ∃ y, (itU l ⟨[], 0, p1, false⟩ k).p = y := ⟨_, rfl⟩
          obtain ⟨core, hcore⟩ : ∃ core, (itU l ⟨[], 0, p1, false⟩ k).core = core := ⟨_, rfl⟩
          obtain ⟨R, hR⟩ : ∃ R, (itU l ⟨[], 0, p1, false⟩ k).runs = R := ⟨_, rfl⟩
          have NU := Lib.hid (show itU l ⟨[], 0, p1, false⟩ (k + 1) = ⟨R ++ [⟨(n2 l y).1, core + (n1 l y).1, (n3 l y).1⟩], core + (n1 l y).1, (n3 l y).2.1, (n3 l y).2.2⟩ by
            rw [SS.out]
            unfold stepU
            rw [if_neg (by rw [hbad]; simp), hy, hcore, hR])
          rw [hy] at X PB
          rw [hcore] at PB ⊢
          rw [hR] at F PB LK
          obtain ⟨y1, -, co0, co1⟩ := PB
          simp only [Int.zero_add] at co1
          have N1 := nextV_bd l y false 1023 (by omega) y1
          clear hy hcore hR SS hbad
          have i0' : 0 ≤ (k : Int) := by omega
          have i3' : (k : Int) < (n : Int) := by omega
          go_wp2_with fail
          refine (pnum_at l y 1023 g wr hl X.out).mono ?_
          rintro e w3 hN
          rcases hN with ⟨hb1, rfl, hx, hk⟩ | ⟨hb1, rfl, hk⟩
          · have E2 := Lib.hid (show nextV l (nextV l y false 1023).2.1 false 1023 = n2 l y by unfold n2 n1; rw [hb1])
            have E1 := Lib.hid (show nextV l y false 1023 = n1 l y from rfl)
            rw [E1.out] at N1 hb1 hx E2 ⊢
            have X3 := Lib.hid hx
            have K3 := Lib.hid (K.out.trans hk (fun x e => .inl e))
            have F3 := Lib.hid (F.out.keeps hk (by have := GG.out; omega))
            clear hx hk
            have N2 := nextV_bd l (n1 l y).2.1 false 1023 (by omega) N1.2.2
            rw [E2.out] at N2
            have wv : IntKind.i64.wrap (core + (n1 l y).1) = core + (n1 l y).1 := IntWalk.i64_in _ (by omega)
            go_wp2_with fail
            refine (pnum_at l (n1 l y).2.1 1023 g w3 hl X3.out).mono ?_
            rintro e w4 hN
            rw [NumP, E2.out] at hN
            rcases hN with ⟨hb2, rfl, hx, hk⟩ | ⟨hb2, rfl, hk⟩
            · have E3 := Lib.hid (show nextV l (n2 l y).2.1 false 1099511627776 = n3 l y by unfold n3; rw [hb2])
              have X4 := Lib.hid hx
              have K4 := Lib.hid (K3.out.trans hk (fun x e => .inl e))
              have F4 := Lib.hid (F3.out.keeps hk (by have := GG.out; omega))
              clear hx hk
              go_wp2_with fail
              refine (pnum_at l (n2 l y).2.1 1099511627776 g w4 hl X4.out).mono ?_
              rintro e w5 hN
              rw [NumP, E3.out] at hN
              rcases hN with ⟨hb3, rfl, hx, hk⟩ | ⟨hb3, rfl, hk⟩
              · have X5 := Lib.hid hx
                have K5 := Lib.hid (K4.out.trans hk (fun x e => .inl e))
                have F5 := Lib.hid (F4.out.keeps hk (by have := GG.out; omega))
                clear hx hk
                have s1 := F5.out.store (by rw [LK.out]; exact go) ⟨(n2 l y).1, core + (n1 l y).1, (n3 l y).1⟩
                rw [LK.out] at s1
                have S1 := Lib.hid s1
                clear s1
                obtain ⟨v0, z0⟩ := F5.out.cell (j := k * 3) (by omega)
                obtain ⟨v1, z1⟩ := F5.out.cell (j := k * 3 + 1) (by omega)
                obtain ⟨v2, z2⟩ := F5.out.cell (j := k * 3 + 2) (by omega)
                have f0 := F5.out.free (k * 3)
                have f1 := F5.out.free (k * 3 + 1)
                have f2 := F5.out.free (k * 3 + 2)
                have KK : Keeps (fun k => k = g) w (((w5.setCell ⟨g2, k * 3, none⟩ (.int .i64 (n2 l y).1)).setCell ⟨g2, k * 3 + 1, none⟩ (.int .i64 (core + (n1 l y).1))).setCell ⟨g2, k * 3 + 2, none⟩ (.int .i64 (n3 l y).1)) :=
                  ((K5.out.set (.inr G2.out) _ _).set (.inr G2.out) _ _).set (.inr G2.out) _ _
                have XX : Blk (((w5.setCell ⟨g2, k * 3, none⟩ (.int .i64 (n2 l y).1)).setCell ⟨g2, k * 3 + 1, none⟩ (.int .i64 (core + (n1 l y).1))).setCell ⟨g2, k * 3 + 2, none⟩ (.int .i64 (n3 l y).1)) 53 g #[.string (BS (l.drop (n3 l y).2.1))] :=
                  X5.out.keeps ((((Keeps.refl (fun k => k = g2) w5).set (.inl rfl) _ _).set (.inl rfl) _ _).set (.inl rfl) _ _) (by have := GG.out; omega)
                have KH := Lib.hid KK
                have XH := Lib.hid XX
                clear KK XX
                go_wp2
                go_roundw
                case rel => exact ⟨k + 1, by go_num, by omega, by rw [NU.out], by rw [NU.out]; exact hb3, by rw [NU.out]; exact S1.out, by rw [NU.out]; exact XH.out, KH.out⟩
                case measure => simp [intOf]; omega
              · have V := Lib.hid (show RunsP l p g w PE w5 from .inr ⟨UP.out (by rw [NU.out]; exact hb3) go, rfl, K4.out.trans hk (fun x e => .inl e)⟩)
                clear hk
                unfold PE at V ⊢
                go_wp2
                exact ⟨rfl, V.out⟩
            · have V := Lib.hid (show RunsP l p g w PE w4 from .inr ⟨UP.out (by rw [NU.out]; show (n3 l y).2.2 = true; unfold n3; rw [hb2, next_bad]) go, rfl, K3.out.trans hk (fun x e => .inl e)⟩)
              clear hk
              unfold PE at V ⊢
              go_wp2
              exact ⟨rfl, V.out⟩
          · have V := Lib.hid (show RunsP l p g w PE w3 from .inr ⟨UP.out (by
              rw [NU.out]
              show (n3 l y).2.2 = true
              unfold n3 n2 n1
              rw [hb1, next_bad, next_bad]) go, rfl, K.out.trans hk (fun x e => .inl e)⟩)
            clear hk
            unfold PE at V ⊢
            go_wp2
            exact ⟨rfl, V.out⟩
        · have c1 : decide ((k : Int) < (n : Int)) = false := by simp; omega
          have c1' : decide (k < n) = false := by simp; omega
          have kn : k = n := by omega
          subst kn
          have V := Lib.hid (show RunsP l p g w (.returned (.slice (some ⟨g2, 0, none⟩) k k)) wr from .inl (by
            rw [SU.out]
            have hr := F.out.row LK.out
            refine ⟨hbad, some ⟨g2, 0, none⟩, k, by rw [LK.out], by rw [LK.out]; exact hr, fun ad e => by cases e; exact G2.out, X.out, K.out⟩))
          go_wp2
          go_ret
          exact V.out
  · have V := Lib.hid (show RunsP l p g w PE w1 from .inr ⟨by rw [SU.out, hb]; exact itU_up (k := 0) rfl (by omega), rfl, hk⟩)
    clear hk
    unfold PE at V ⊢
    go_wp2
    exact ⟨rfl, V.out⟩
end Go.Proofs.Ytndhpihgeacdfaa
