/-
  The reader's row: contract.
-/
import Derived.Test.YtndhpihgeacdfaaSw9
namespace Go.Proofs.Ytndhpihgeacdfaa
open Go.RowKit

def zk : List Value := [.int .i64 0, .slice none 0 0]
def rowsK (n : Nat) (S : List Sk) (vs : List (Option Addr × Nat × Nat)) : List (List Value) := List.zipWith skc S vs ++ List.replicate (n - S.length) zk
theorem wide_rowsK (n : Nat) (S : List Sk) (vs : List (Option Addr × Nat × Nat)) : Wide 2 (rowsK n S vs) := Wide.append (wideK S vs) fun r hr => by rw [(List.mem_replicate.mp hr).2]; rfl
theorem rowsK_len {n : Nat} {S : List Sk} {vs : List (Option Addr × Nat × Nat)} (hv : vs.length = S.length) (h : S.length ≤ n) : (rowsK n S vs).length = n := by unfold rowsK; rw [List.length_append, List.length_zipWith, List.length_replicate]; omega
theorem rowsK_set {n : Nat} {S : List Sk} {vs : List (Option Addr × Nat × Nat)} {s : Sk} {u : Option Addr × Nat × Nat} (hv : vs.length = S.length) (h : S.length < n) : (rowsK n S vs).set S.length (skc s u) = rowsK n (S ++ [s]) (vs ++ [u]) := by
  unfold rowsK
  have hl : (List.zipWith skc S vs).length = S.length := by rw [List.length_zipWith]; omega
  rw [List.set_append_right (h := by omega), hl, Nat.sub_self, List.length_append, List.length_singleton, show n - S.length = (n - (S.length + 1)) + 1 by omega, List.replicate_succ, List.set_cons_zero, List.zipWith_append hv.symm, List.append_assoc]
  rfl
/-- a made row of slots, being filled; the slots' runs lie in blocks behind its own -/
structure FK (B : Nat) (W : World) (g n : Nat) (S : List Sk) (vs : List (Option Addr × Nat × Nat)) : Prop where
  own : W.ownsRow B 47 2 (.slice (some ⟨g, 0, none⟩) n n) n (rowsK n S vs).flatten
  len : vs.length = S.length
  runs : ∀ (i : Nat) (s : Sk) (u : Option Addr × Nat × Nat), S[i]? = some s → vs[i]? = some u → RowU W u.1 u.2.1 u.2.2 s.runs
  far : ∀ u ∈ vs, 0 < u.2.1 → ∀ ad : Addr, u.1 = some ad → g < ad.block ∧ ad.block < W.heap.size
theorem FK.lt {B : Nat} {W : World} {g n : Nat} {S : List Sk} {vs : List (Option Addr × Nat × Nat)} (h : FK B W g n S vs) : B ≤ g ∧ g < W.heap.size := World.ownsRow.lt h.own g rfl
theorem rowU_any {W W' : World} {u : Option Addr × Nat × Nat} {l : List Ru} (h : RowU W u.1 u.2.1 u.2.2 l) (k : 0 < u.2.1 → ∀ ad : Addr, u.1 = some ad → W'.heap[ad.block]? = W.heap[ad.block]?) : RowU W' u.1 u.2.1 u.2.2 l := by
  rcases Nat.eq_zero_or_pos u.2.1 with z | z
  · unfold RowU at h ⊢
    rw [z] at h ⊢
    exact ⟨h.1, h.2.1, h.2.2.1, h.2.2.2.1, fun i hi => by omega⟩
  · exact h.same (k z)
theorem FK.keepsF {B : Nat} {W W' : World} {g n : Nat} {S : List Sk} {vs : List (Option Addr × Nat × Nat)} {F : Nat → Prop} (h : FK B W g n S vs) (k : Keeps F W W') (hg : ∀ x, F x → x < g) : FK B W' g n S vs := by
  refine ⟨owns_keeps h.own k (fun x e q => by cases e; have h2 := hg _ q; exact absurd h2 (Nat.lt_irrefl _)), h.len, fun i s u hs hu => ?_, fun u hu z ad e => ⟨(h.far u hu z ad e).1, Nat.lt_of_lt_of_le (h.far u hu z ad e).2 k.size⟩⟩
  exact rowU_any (h.runs i s u hs hu) fun z ad e => by
    have hf := h.far u (List.mem_of_getElem? hu) z ad e
    exact k.block ad.block hf.2 (fun q => by have := hg _ q; omega)
theorem FK.keeps {B : Nat} {W W' : World} {g n gr : Nat} {S : List Sk} {vs : List (Option Addr × Nat × Nat)} (h : FK B W g n S vs) (k : Keeps (fun k => k = gr) W W') (hg : gr < g) : FK B W' g n S vs := h.keepsF k fun x (e : x = gr) => by omega
theorem FK.free {B : Nat} {W : World} {g n : Nat} {S : List Sk} {vs : List (Option Addr × Nat × Nat)} (h : FK B W g n S vs) (j : Nat) : W.frozen? ⟨g, j, none⟩ = false := by
  rcases h.own.2 with ⟨h', _⟩ | ⟨g', cap', cur, h', _, hg, _⟩
  · simp at h'
  · simp only [Value.slice.injEq, Option.some.injEq, Addr.mk.injEq, and_true, true_and] at h'
    obtain ⟨rfl, rfl⟩ := h'
    exact frozen_of_row W g j cur _ hg
theorem FK.cell {B : Nat} {W : World} {g n : Nat} {S : List Sk} {vs : List (Option Addr × Nat × Nat)} (h : FK B W g n S vs) {j : Nat} (hj : j < n * 2) : ∃ v, W.cell? ⟨g, j, none⟩ = some v := by
  have := World.ownsRow.cellAt h.own j hj
  rw [this]
  exact ⟨_, List.getElem?_eq_getElem (by rw [h.own.1]; exact hj)⟩
theorem FK.store {B : Nat} {W : World} {g n : Nat} {S : List Sk} {vs : List (Option Addr × Nat × Nat)} (h : FK B W g n S vs) (hr : S.length < n) (s : Sk) (a : Option Addr) (m c : Nat) (hs : RowU W a m c s.runs) (hf : 0 < m → ∀ ad : Addr, a = some ad → g < ad.block ∧ ad.block < W.heap.size) :
    FK B ((W.setCell ⟨g, S.length * 2, none⟩ (.int .i64 s.tm)).setCell ⟨g, S.length * 2 + 1, none⟩ (.slice a m c)) g n (S ++ [s]) (vs ++ [(a, m, c)]) := by
  have h3 := ((World.ownsRow.stored h.own (S.length * 2) (.int .i64 s.tm)).1.stored (S.length * 2 + 1) (.slice a m c)).1
  rw [flat_set2 (wide_rowsK _ _ _) (by rw [rowsK_len h.len (by omega)]; exact hr)] at h3
  rw [show [Value.int .i64 s.tm, .slice a m c] = skc s (a, m, c) from rfl, rowsK_set h.len hr] at h3
  have k : Keeps (fun k => k = g) W ((W.setCell ⟨g, S.length * 2, none⟩ (.int .i64 s.tm)).setCell ⟨g, S.length * 2 + 1, none⟩ (.slice a m c)) := ((Keeps.refl (fun k => k = g) W).set (.inl rfl) _ _).set (.inl rfl) _ _
  have keep : ∀ (u : Option Addr × Nat × Nat) (l : List Ru), RowU W u.1 u.2.1 u.2.2 l → (0 < u.2.1 → ∀ ad : Addr, u.1 = some ad → g < ad.block ∧ ad.block < W.heap.size) → RowU ((W.setCell ⟨g, S.length * 2, none⟩ (.int .i64 s.tm)).setCell ⟨g, S.length * 2 + 1, none⟩ (.slice a m c)) u.1 u.2.1 u.2.2 l := fun u l hu hfu =>
    rowU_any hu fun z ad e => k.block ad.block (hfu z ad e).2 (by have := (hfu z ad e).1; omega)
  refine ⟨h3, by simp [h.len], fun i s' u hs' hu => ?_, fun u hu z ad e => ?_⟩
  · rcases Nat.lt_or_ge i S.length with q | q
    · rw [List.getElem?_append_left q] at hs'
      rw [List.getElem?_append_left (by rw [h.len]; exact q)] at hu
      exact keep u _ (h.runs i s' u hs' hu) fun z ad e => h.far u (List.mem_of_getElem? hu) z ad e
    · rw [List.getElem?_append_right q] at hs'
      rw [List.getElem?_append_right (by rw [h.len]; exact q), h.len] at hu
      have z : i - S.length = 0 := by have := lt_of_get hs'; simpa using this
      rw [z] at hs' hu
      simp at hs' hu
      subst hs' hu
      exact keep (a, m, c) _ hs hf
  · have := k.size
    rcases List.mem_append.mp hu with q | q
    · have := h.far u q z ad e; omega
    · simp at q
      subst q
      have := hf z ad e; omega
theorem FK.row {B : Nat} {W : World} {g n : Nat} {S : List Sk} {vs : List (Option Addr × Nat × Nat)} (h : FK B W g n S vs) (hr : S.length = n) : RowK W (some ⟨g, 0, none⟩) n n S := by
  have ho := h.own
  have e : rowsK n S vs = List.zipWith skc S vs := by unfold rowsK; rw [hr]; simp
  rw [e] at ho
  obtain ⟨a, cap, h1, h2, _⟩ := rowF_of_owns (wideK S vs) ho (by rw [List.length_zipWith, h.len]; omega)
  simp only [Value.slice.injEq] at h1
  obtain ⟨rfl, _, rfl⟩ := h1
  exact ⟨vs, h.len, h2, h.runs⟩
theorem FK.new (B : Nat) (w : World) (n : Nat) (hB : B ≤ w.heap.size) (hn : n ≤ 100000) : FK B (w.alloc (.cells (madeCells (Value.agg #[.int .i64 0, .slice none 0 0]).cells (n * 2)) 47)) w.heap.size n [] [] := by
  have h := World.ownsRow_lit (base := B) (e := 47) (size := 2) w (madeCells (Value.agg #[.int .i64 0, .slice none 0 0]).cells (n * 2)) n hB (by unfold maxLen; omega) (by simp [madeCells])
  rw [made_flat _ n 2 rfl (by omega)] at h
  refine ⟨?_, rfl, fun i s u h => by simp at h, fun u h => by simp at h⟩
  have e : rowsK n [] [] = List.replicate n zk := by unfold rowsK; simp
  rw [e]
  exact h
/-- a row of slots that lies from n on -/
def HoldsK (N : Nat) (W : World) (b : Option Addr) (n c : Nat) (S : List Sk) : Prop := ∀ W', Keeps (fun k => k < N) W W' → RowK W' b n c S
theorem HoldsK.row {N : Nat} {W : World} {b : Option Addr} {n c : Nat} {S : List Sk} (h : HoldsK N W b n c S) : RowK W b n c S := h W (Keeps.refl _ _)
theorem HoldsK.keeps {N : Nat} {W W' : World} {b : Option Addr} {n c : Nat} {S : List Sk} {F : Nat → Prop} (h : HoldsK N W b n c S) (k : Keeps F W W') (hF : ∀ x, F x → x < N) : HoldsK N W' b n c S :=
  fun W2 k2 => h W2 ⟨k2.os.trans k.os, k2.tape.trans k.tape, k2.output.trans k.output, Nat.le_trans k.size k2.size, fun x hx hn => (k2.block x (Nat.lt_of_lt_of_le hx k.size) hn).trans (k.block x hx (fun q => hn (hF x q)))⟩
theorem FK.holds {B N : Nat} {W : World} {g n : Nat} {S : List Sk} {vs : List (Option Addr × Nat × Nat)} (h : FK B W g n S vs) (hr : S.length = n) (hN : N ≤ g) : HoldsK N W (some ⟨g, 0, none⟩) n n S := fun _ k => (h.keepsF k fun x (q : x < N) => by omega).row hr
/-! ### plain -/
theorem next_zero {l : List UInt8} {p p2 : Nat} {x : Int} (M : Int) (hM : 0 ≤ M) (h : nextV l p false 0 = (x, p2, false)) : x = 0 ∧ nextV l p false M = (0, p2, false) := by
  obtain ⟨_, x0, x1, _, _⟩ := next_took h
  have hx : x = 0 := by omega
  subst hx
  refine ⟨rfl, ?_⟩
  unfold nextV at h ⊢
  cases hv : rdV (l.drop p) with
  | none => rw [hv] at h; simp at h
  | some v =>
    obtain ⟨n, k⟩ := v
    rw [hv] at h
    simp only at h ⊢
    split at h
    · simp at h
    · simp only [Prod.mk.injEq] at h
      rw [if_neg (by rintro (q | q); cases q; omega), h.1, h.2.1]
theorem next_more {l : List UInt8} {p : Nat} (M : Int) (h : (nextV l p false 0).2.2 = true) : (nextV l p false M).2.2 = true ∨ ¬ (nextV l p false M).1 = 0 := by
  unfold nextV at h ⊢
  cases hv : rdV (l.drop p) with
  | none => left; rfl
  | some v =>
    obtain ⟨n, k⟩ := v
    rw [hv] at h
    simp only at h ⊢
    split at h
    · rename_i q
      have q2 : (0 : Int) < n := by rcases q with q | q; cases q; exact q
      split
      · left; rfl
      · right; simp only; omega
    · cases h
theorem itK_up {l : List UInt8} {a : Int} {i : Nat} {st : KS} {k n : Nat} (h : (itK l a i st k).bad = true) (hk : k ≤ n) : (itK l a i st n).bad = true := by
  have := itK_bad l a h (n - k)
  rw [show k + (n - k) = n by omega] at this
  rw [this]
  exact h
theorem itK_len {l : List UInt8} {a : Int} {p k : Nat} {b : Bool} (h : (itK l a 0 ⟨[], p, b⟩ k).bad = false) : (itK l a 0 ⟨[], p, b⟩ k).slots.length = k := by
  obtain ⟨_, X, hX, hl, _⟩ := slots_took k 0 [] p b _ rfl h
  rw [hX]
  simpa using hl
/-- all numbers are there, and a row of none begins at 0 -/
def OkM (l : List UInt8) : Prop := (readM l).bad = false ∧ ((headN l).1 = 0 → (headA l).1 = 0)
def RowP (l : List UInt8) (g : Nat) (w : World) (e : Ending) (w' : World) : Prop :=
  (OkM l ∧ ∃ b c, e = .returned (.slice b (readM l).slots.length c) ∧ HoldsK w.heap.size w' b (readM l).slots.length c (readM l).slots ∧ Blk w' 53 g #[.string (BS (l.drop (readM l).p))] ∧ Keeps (fun k => k = g) w w') ∨
  (¬ OkM l ∧ e = PE ∧ Keeps (fun k => k = g) w w')
theorem RowP.no {l : List UInt8} {g : Nat} {w w' : World} (h : ¬ OkM l) (k : Keeps (fun k => k = g) w w') : RowP l g w PE w' := .inr ⟨h, rfl, k⟩

set_option maxRecDepth 20000 in
set_option maxHeartbeats 4000000 in
theorem prow_read (l : List UInt8) (g : Nat) (w : World) (hl : l.length ≤ 1000000000) (h : Blk w 53 g #[.string (BS l)]) :
    Calls Try.prog 29 #[.pointer (some ⟨g, 0, none⟩)] w (RowP l g w) := by
  have H := Lib.hid h
  clear h
  have NL := nextV_bd l 0 false 4096 (by omega) (by omega)
  obtain ⟨i0, hi, hz0, hz1, hz2⟩ := info_parts Try.infoK
  have hmk := fun (n : Nat) W (hn : n ≤ 4096) => run_make_rowN (P := Try.prog) 22 47 i0 _ Try.underlying22 hi hz0 .i64 .i64 n n (Nat.le_refl _) (by rw [hz2]; omega) (by omega) W
  rw [hz1] at hmk
  have HMK := Lib.hid hmk
  clear hmk hi hz0 hz1 hz2
  go_enter Try.func29, Try.ntmps29
  go_wp2_with fail
  refine (pnum_at l 0 4096 g w hl H.out).mono ?_
  rintro e w1 hN
  have RM := Lib.hid (show readM l = itK l (nextV l (nextV l 0 false 4096).2.1 (nextV l 0 false 4096).2.2 1099511627776).1 0 ⟨[], (nextV l (nextV l 0 false 4096).2.1 (nextV l 0 false 4096).2.2 1099511627776).2.1, (nextV l (nextV l 0 false 4096).2.1 (nextV l 0 false 4096).2.2 1099511627776).2.2⟩ (nextV l 0 false 4096).1.toNat from rfl)
  have OM := Lib.hid (show OkM l ↔ (readM l).bad = false ∧ ((nextV l 0 false 4096).1 = 0 → (nextV l (nextV l 0 false 4096).2.1 (nextV l 0 false 4096).2.2 1099511627776).1 = 0) from Iff.rfl)
  rcases hN with ⟨hb, rfl, hx, hk⟩ | ⟨hb, rfl, hk⟩
  · have X1 := Lib.hid hx
    have K1 := Lib.hid hk
    clear hx hk
    obtain ⟨MM, hMM⟩ : ∃ MM, nextV l 0 false 4096 = MM := ⟨_, rfl⟩
    rw [hMM] at RM OM NL X1 hb ⊢
    clear hMM
    obtain ⟨m, p1, b1⟩ := MM
    replace hb : b1 = false := hb
    subst hb
    obtain ⟨m0, m1, mp⟩ := NL
    replace m0 : 0 ≤ m := m0
    replace m1 : m ≤ 4096 := m1
    replace mp : p1 ≤ l.length := mp
    obtain ⟨n, rfl⟩ := Int.eq_ofNat_of_zero_le m0
    replace X1 := Lib.hid (show Blk w1 53 g #[.string (BS (l.drop p1))] from X1.out)
    replace OM := Lib.hid (show OkM l ↔ (readM l).bad = false ∧ ((n : Int) = 0 → (nextV l p1 false 1099511627776).1 = 0) from OM.out)
    replace RM := Lib.hid (show readM l = itK l (nextV l p1 false 1099511627776).1 0 ⟨[], (nextV l p1 false 1099511627776).2.1, (nextV l p1 false 1099511627776).2.2⟩ n by have := RM.out; simpa using this)
    by_cases z : n = 0
    · have d1 : ((n : Int) == 0) = true := by simp [z]
      have Z := Lib.hid z
      have c1 : decide ((0 : Int) < (n : Int)) = false := by simp; omega
      have c1' : decide (0 < n) = false := by simp; omega
      clear z
      go_wp2_with fail
      refine (pnum_at l p1 0 g w1 hl X1.out).mono ?_
      rintro e w2 hN
      rcases hN with ⟨hb, rfl, hx, hk⟩ | ⟨hb, rfl, hk⟩
      · obtain ⟨x, p2, b2, hv⟩ : ∃ x p2 b2, nextV l p1 false 0 = (x, p2, b2) := ⟨_, _, _, rfl⟩
        rw [hv] at hb hx ⊢
        replace hb : b2 = false := hb
        subst hb
        obtain ⟨rfl, hM⟩ := next_zero 1099511627776 (by omega) hv
        replace RM := Lib.hid (show readM l = ⟨[], p2, false⟩ by have := RM.out; rw [hM, Z.out] at this; exact this)
        have OK := Lib.hid (show OkM l from OM.out.mpr ⟨by rw [RM.out], fun _ => by rw [hM]⟩)
        have X2 := Lib.hid (show Blk w2 53 g #[.string (BS (l.drop p2))] from hx)
        have K2 := Lib.hid (K1.out.trans hk (fun x e => .inl e))
        clear hx hk hv hM
        have mk := HMK.out n w2 (by omega)
        obtain ⟨W3, hW3⟩ : ∃ W3, w2.alloc (.cells (madeCells (Value.agg #[.int .i64 0, .slice none 0 0]).cells (n * 2)) 47) = W3 := ⟨_, rfl⟩
        have V := Lib.hid (show RowP l g w (.returned (.slice (some ⟨w2.heap.size, 0, none⟩) n n)) W3 from .inl ⟨OK.out, by
          rw [RM.out, ← hW3, Z.out]
          exact ⟨_, 0, rfl, (FK.new 0 w2 0 (by omega) (by omega)).holds rfl K2.out.size, X2.out.alloc _, K2.out.alloc _⟩⟩)
        rw [hW3] at mk
        clear hW3
        go_wp2
        go_loopw [19] (fun u wr => u = .int .i64 0 ∧ W3 = wr) (fun _ _ => 0)
        case atStart => exact ⟨rfl, rfl⟩
        case round =>
          obtain ⟨rfl, rfl⟩ := hrel
          go_wp2
          go_ret
          exact V.out
      · have V := Lib.hid (show RowP l g w PE w2 from .no (fun q => by
          have ⟨q1, q2⟩ := OM.out.mp q
          rcases next_more 1099511627776 hb with e | e
          · rw [RM.out, e, Z.out] at q1
            exact absurd q1 (by simp [itK])
          · exact e (q2 (by rw [Z.out]; rfl))) (K1.out.trans hk (fun x e => .inl e)))
        clear hk
        unfold PE at V ⊢
        go_wp2
        exact ⟨rfl, V.out⟩
    · have d1 : ((n : Int) == 0) = false := by simp; omega
      have AB := nextV_bd l p1 false 1099511627776 (by omega) mp
      go_wp2_with fail
      refine (pnum_at l p1 1099511627776 g w1 hl X1.out).mono ?_
      rintro e w2 hN
      rcases hN with ⟨hb, rfl, hx, hk⟩ | ⟨hb, rfl, hk⟩
      · obtain ⟨MM, hMM⟩ : ∃ MM, nextV l p1 false 1099511627776 = MM := ⟨_, rfl⟩
        rw [hMM] at RM AB OM hx hb ⊢
        clear hMM
        obtain ⟨A, p2, b2⟩ := MM
        replace hb : b2 = false := hb
        subst hb
        obtain ⟨a0, a1, ap⟩ := AB
        replace a0 : 0 ≤ A := a0
        replace a1 : A ≤ 1099511627776 := a1
        replace ap : p2 ≤ l.length := ap
        have X2 := Lib.hid (show Blk w2 53 g #[.string (BS (l.drop p2))] from hx)
        have K2 := Lib.hid (K1.out.trans hk (fun x e => .inl e))
        replace RM := Lib.hid (show readM l = itK l A 0 ⟨[], p2, false⟩ n from RM.out)
        replace OM := Lib.hid (show OkM l ↔ (readM l).bad = false from ⟨fun q => (OM.out.mp q).1, fun q => OM.out.mpr ⟨q, fun e => absurd e (by omega)⟩⟩)
        clear hx hk
        have mk := HMK.out n w2 (by omega)
        obtain ⟨g2, hg2⟩ : ∃ g2, w2.heap.size = g2 := ⟨_, rfl⟩
        obtain ⟨W3, hW3⟩ : ∃ W3, w2.alloc (.cells (madeCells (Value.agg #[.int .i64 0, .slice none 0 0]).cells (n * 2)) 47) = W3 := ⟨_, rfl⟩
        have F3 := Lib.hid (show FK w.heap.size W3 g2 n [] [] by rw [← hW3, ← hg2]; exact FK.new _ _ _ K2.out.size (by omega))
        have X3 := Lib.hid (show Blk W3 53 g #[.string (BS (l.drop p2))] by rw [← hW3]; exact X2.out.alloc _)
        have K3 := Lib.hid (show Keeps (fun k => k = g) w W3 by rw [← hW3]; exact K2.out.alloc _)
        have GG := Lib.hid (show g < g2 by rw [← hg2]; exact X2.out.lt)
        have G2 := Lib.hid (show w.heap.size ≤ g2 by rw [← hg2]; exact K2.out.size)
        rw [hW3, hg2] at mk
        clear hg2 hW3
        go_wp2
        clear mk d1
        go_loopw [19] (fun u wr => ∃ (k : Nat) (vs : List (Option Addr × Nat × Nat)), u = .int .i64 k ∧ k ≤ n ∧ (itK l A 0 ⟨[], p2, false⟩ k).bad = false ∧ FK w.heap.size wr g2 n (itK l A 0 ⟨[], p2, false⟩ k).slots vs ∧ Blk wr 53 g #[.string (BS (l.drop (itK l A 0 ⟨[], p2, false⟩ k).p))] ∧ Keeps (fun k => k = g) w wr) (fun u _ => n - (intOf u).toNat)
        case atStart => exact ⟨0, [], rfl, by omega, rfl, F3.out, X3.out, K3.out⟩
        case round =>
          obtain ⟨k, vs, rfl, k1, hbad, hf, hx, hk⟩ := hrel
          have F := Lib.hid hf
          have X := Lib.hid hx
          have K := Lib.hid hk
          have LK := Lib.hid (itK_len hbad)
          have PB := (itK_bd l A k 0 ⟨[], p2, false⟩ ap (by simp)).1
          have SS := Lib.hid (itK_succ l A k 0 ⟨[], p2, false⟩)
          have UP := Lib.hid (fun (h : (itK l A 0 ⟨[], p2, false⟩ (k + 1)).bad = true) (q : k + 1 ≤ n) => (show ¬ OkM l from fun o => by
            have := OM.out.mp o
            rw [RM.out, itK_up h q] at this
            cases this))
          clear hf hx hk
          by_cases go : k < n
          · have c1 : decide ((k : Int) < (n : Int)) = true := by simp; omega
            have c1' : decide (k < n) = true := by simp; omega
            obtain ⟨y, hy⟩ : ∃ y, (itK l A 0 ⟨[], p2, false⟩ k).p = y := ⟨_, rfl⟩
            obtain ⟨L, hL⟩ : ∃ L, (itK l A 0 ⟨[], p2, false⟩ k).slots = L := ⟨_, rfl⟩
            have NU := Lib.hid (show itK l A 0 ⟨[], p2, false⟩ (k + 1) = ⟨L ++ [⟨A + k, (slotU l y).runs⟩], (slotU l y).p, (slotU l y).bad⟩ by
              rw [SS.out]
              unfold stepK
              rw [if_neg (by rw [hbad]; simp), hy, hL, Nat.zero_add])
            rw [hy] at X PB
            rw [hL] at F LK
            clear hy hL SS hbad
            have i0' : 0 ≤ (k : Int) := by omega
            have i3' : (k : Int) < (n : Int) := by omega
            have wv : IntKind.i64.wrap (A + k) = A + k := IntWalk.i64_in _ (by omega)
            go_wp2_with fail
            refine (pruns_any l y g wr hl PB X.out).mono ?_
            rintro e w4 hN
            rcases hN with ⟨hb1, b, c, rfl, hru, hfr, hx, hk⟩ | ⟨hb1, rfl, hk⟩
            · have X4 := Lib.hid hx
              have K4 := Lib.hid (K.out.trans hk (fun x e => .inl e))
              have F4 := Lib.hid (F.out.keeps hk GG.out)
              have FA := Lib.hid (show 0 < (slotU l y).runs.length → ∀ ad : Addr, b = some ad → g2 < ad.block ∧ ad.block < w4.heap.size from fun z ad e => by
                have h1 := hfr ad e
                have h2 := F.out.lt.2
                refine ⟨by omega, ?_⟩
                obtain ⟨r, hr, -⟩ := get_of z
                obtain ⟨b', o', e', hat⟩ := hru.at hr
                rw [e] at e'
                cases e'
                exact hat.lt)
              have RU := Lib.hid hru
              clear hx hk hfr hru
              have s1 := F4.out.store (by rw [LK.out]; exact go) ⟨A + k, (slotU l y).runs⟩ b _ c RU.out FA.out
              rw [LK.out] at s1
              have S1 := Lib.hid s1
              clear s1
              obtain ⟨rl, hrl⟩ : ∃ rl, (slotU l y).runs.length = rl := ⟨_, rfl⟩
              rw [hrl] at S1 ⊢
              obtain ⟨v0, z0⟩ := F4.out.cell (j := k * 2) (by omega)
              obtain ⟨v1, z1⟩ := F4.out.cell (j := k * 2 + 1) (by omega)
              have f0 := F4.out.free (k * 2)
              have f1 := F4.out.free (k * 2 + 1)
              have KH := Lib.hid (show Keeps (fun k => k = g) w ((w4.setCell ⟨g2, k * 2, none⟩ (.int .i64 (A + k))).setCell ⟨g2, k * 2 + 1, none⟩ (.slice b rl c)) from (K4.out.set (.inr G2.out) _ _).set (.inr G2.out) _ _)
              have XH := Lib.hid (show Blk ((w4.setCell ⟨g2, k * 2, none⟩ (.int .i64 (A + k))).setCell ⟨g2, k * 2 + 1, none⟩ (.slice b rl c)) 53 g #[.string (BS (l.drop (slotU l y).p))] from X4.out.keeps (((Keeps.refl (fun k => k = g2) w4).set (.inl rfl) _ _).set (.inl rfl) _ _) (by have := GG.out; omega))
              clear hrl
              go_wp2
              go_roundw
              case rel => exact ⟨k + 1, _, by go_num, by omega, by rw [NU.out]; exact hb1, by rw [NU.out]; exact S1.out, by rw [NU.out]; exact XH.out, KH.out⟩
              case measure => simp [intOf]; omega
            · have V := Lib.hid (show RowP l g w PE w4 from .no (UP.out (by rw [NU.out]; exact hb1) go) (K.out.trans hk (fun x e => .inl e)))
              clear hk
              unfold PE at V ⊢
              go_wp2
              exact ⟨rfl, V.out⟩
          · have c1 : decide ((k : Int) < (n : Int)) = false := by simp; omega
            have c1' : decide (k < n) = false := by simp; omega
            have kn : k = n := by omega
            subst kn
            have V := Lib.hid (show RowP l g w (.returned (.slice (some ⟨g2, 0, none⟩) k k)) wr from .inl ⟨OM.out.mpr (by rw [RM.out]; exact hbad), by
              rw [RM.out]
              have hr := F.out.holds (N := w.heap.size) LK.out G2.out
              exact ⟨some ⟨g2, 0, none⟩, k, by rw [LK.out], by rw [LK.out]; exact hr, X.out, K.out⟩⟩)
            go_wp2
            go_ret
            exact V.out
      · have V := Lib.hid (show RowP l g w PE w2 from .no (fun q => by
          have q1 := (OM.out.mp q).1
          rw [RM.out, hb, itK_up (k := 0) rfl (by omega)] at q1
          cases q1) (K1.out.trans hk (fun x e => .inl e)))
        clear hk
        unfold PE at V ⊢
        go_wp2
        exact ⟨rfl, V.out⟩
  · have V := Lib.hid (show RowP l g w PE w1 from .no (fun q => by
      have q1 := (OM.out.mp q).1
      rw [RM.out, hb, next_bad, itK_up (k := 0) rfl (by omega)] at q1
      cases q1) hk)
    clear hk
    unfold PE at V ⊢
    go_wp2
    exact ⟨rfl, V.out⟩
end Go.Proofs.Ytndhpihgeacdfaa
