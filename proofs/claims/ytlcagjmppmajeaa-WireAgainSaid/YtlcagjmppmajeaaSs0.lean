/-
  Slots and runs: who may be; in memory; the document's Check (regattaref16): contract.
-/
import Derived.Test.YtlcagjmppmajeaaSep
import Derived.Deep.DeepCutAuto
import Derived.Deep.RegionHeld3
namespace Go.Proofs.Ytlcagjmppmajeaa
open Go.RowKit

theorem ret_b {x y : Bool} (h : x = y) : Ending.returned (.bool x) = .returned (.bool y) := by rw [h]
theorem cell_on {w w2 : World} {p : Addr} {v : Value} (hb : Below w.heap.size w w2) (h : w.cell? p = some v) : w2.cell? p = some v := (hb.cell (World.block_lt_of_cell? _ _ h)).trans h
theorem bdN {B : Nat} {a w : World} (h : Below B a w) (n : Nat) : Below B a (w.drewN n) := ⟨h.os, h.tape, h.output, h.size, h.block⟩
theorem lt_of_get {α : Type} {l : List α} {i : Nat} {x : α} (h : l[i]? = some x) : i < l.length := by
  rcases Nat.lt_or_ge i l.length with g | g
  · exact g
  · rw [List.getElem?_eq_none g] at h; cases h
theorem get_of {α : Type} {l : List α} {i : Nat} (hi : i < l.length) : ∃ r, l[i]? = some r ∧ l.take (i + 1) = l.take i ++ [r] :=
  ⟨l[i], List.getElem?_eq_getElem hi, by rw [List.take_succ_eq_append_getElem hi]⟩
/-! ### plain -/
structure Ru where
  id : Int
  core : Int
  idx : Int
structure Sk where
  tm : Int
  runs : List Ru
/-- the first i runs may be -/
structure ToU (l : List Ru) (m : Int) (i : Nat) : Prop where
  each : ∀ r ∈ l.take i, 0 ≤ r.core ∧ r.core < m ∧ 0 ≤ r.id ∧ r.id ≤ 1023 ∧ 1 ≤ r.idx ∧ r.idx ≤ 1099511627776
  ids : (l.take i).Pairwise fun a b => a.id ≠ b.id
  cores : (l.take i).Pairwise fun a b => a.core < b.core
/-- so may the next one -/
structure FineU (pre : List Ru) (m : Int) (r : Ru) : Prop where
  rng : 0 ≤ r.core ∧ r.core < m ∧ 0 ≤ r.id ∧ r.id ≤ 1023 ∧ 1 ≤ r.idx ∧ r.idx ≤ 1099511627776
  id : ∀ x ∈ pre, x.id ≠ r.id
  core : ∀ x ∈ pre, x.core < r.core
theorem tou_zero (l : List Ru) (m : Int) : ToU l m 0 := ⟨by simp, by simp, by simp⟩
theorem tou_step {l : List Ru} {m : Int} {i : Nat} {r : Ru} (h : l.take (i + 1) = l.take i ++ [r]) : ToU l m (i + 1) ↔ ToU l m i ∧ FineU (l.take i) m r := by
  constructor
  · rintro ⟨h1, h2, h3⟩
    rw [h] at h1 h2 h3
    rw [List.pairwise_append] at h2 h3
    exact ⟨⟨fun x hx => h1 x (List.mem_append_left _ hx), h2.1, h3.1⟩, ⟨h1 r (by simp), fun x hx => h2.2.2 x hx r (by simp), fun x hx => h3.2.2 x hx r (by simp)⟩⟩
  · rintro ⟨⟨h1, h2, h3⟩, h4, h5, h6⟩
    refine ⟨fun x hx => ?_, ?_, ?_⟩
    · rw [h] at hx
      rcases List.mem_append.mp hx with q | q
      · exact h1 x q
      · have : x = r := by simpa using q
        rw [this]; exact h4
    · rw [h, List.pairwise_append]
      exact ⟨h2, by simp, fun x hx y hy => by have : y = r := by simpa using hy
                                              rw [this]; exact h5 x hx⟩
    · rw [h, List.pairwise_append]
      exact ⟨h3, by simp, fun x hx y hy => by have : y = r := by simpa using hy
                                              rw [this]; exact h6 x hx⟩
theorem tou_le {l : List Ru} {m : Int} {i j : Nat} (h : ToU l m j) (q : i ≤ j) : ToU l m i := by
  have e : l.take i = (l.take j).take i := by rw [List.take_take]; congr 1; omega
  refine ⟨fun r hr => h.each r ?_, ?_, ?_⟩
  · rw [e] at hr; exact List.mem_of_mem_take hr
  · rw [e]; exact h.ids.sublist (List.take_sublist _ _)
  · rw [e]; exact h.cores.sublist (List.take_sublist _ _)
structure MayS (s : Sk) (m : Int) : Prop where
  m1 : 1 ≤ m
  m2 : m ≤ 1024
  t0 : 0 ≤ s.tm
  t1 : s.tm ≤ 1099511627776
  runs : ToU s.runs m s.runs.length
open Classical in
noncomputable def mayS (s : Sk) (m : Int) : Bool := decide (MayS s m)
theorem mayS_yes {s : Sk} {m : Int} (h : MayS s m) : mayS s m = true := by unfold mayS; simp [h]
theorem mayS_no {s : Sk} {m : Int} (h : ¬ MayS s m) : mayS s m = false := by unfold mayS; simp [h]
theorem mayS_true {s : Sk} {m : Int} : mayS s m = true ↔ MayS s m := by unfold mayS; simp
theorem mayS_not {tm : Int} {l : List Ru} {m : Int} {i : Nat} {r : Ru} (hi : i < l.length) (h : l.take (i + 1) = l.take i ++ [r]) (hn : ¬ FineU (l.take i) m r) : mayS ⟨tm, l⟩ m = false :=
  mayS_no fun q => hn ((tou_step h).mp (tou_le q.runs (show i + 1 ≤ l.length by omega))).2
theorem not_fineU {pre : List Ru} {m : Int} {r : Ru} (h : r.core < 0 ∨ m ≤ r.core ∨ r.id < 0 ∨ 1023 < r.id ∨ r.idx < 1 ∨ 1099511627776 < r.idx) : ¬ FineU pre m r := fun q => by have := q.rng; omega
/-! ### runs in memory -/
def Ru.cs (r : Ru) : List Value := [.int .i64 r.id, .int .i64 r.core, .int .i64 r.idx]
structure RunAt (W : World) (b o : Nat) (r : Ru) : Prop where
  c0 : W.cell? ⟨b, o, none⟩ = some (.int .i64 r.id)
  c1 : W.cell? ⟨b, o + 1, none⟩ = some (.int .i64 r.core)
  c2 : W.cell? ⟨b, o + 2, none⟩ = some (.int .i64 r.idx)
theorem RunAt.lt {W : World} {b o : Nat} {r : Ru} (h : RunAt W b o r) : b < W.heap.size := World.block_lt_of_cell? _ _ h.c0
theorem RunAt.below {W W' : World} {b o : Nat} {r : Ru} (h : RunAt W b o r) (hb : Below W.heap.size W W') : RunAt W' b o r :=
  ⟨(hb.cell h.lt).trans h.c0, (hb.cell h.lt).trans h.c1, (hb.cell h.lt).trans h.c2⟩
theorem wideU (l : List Ru) : Wide 3 (l.map Ru.cs) := fun r hr => by
  rw [List.mem_map] at hr
  obtain ⟨e, _, rfl⟩ := hr
  rfl
theorem oneU (l : List Ru) : ∀ r ∈ l.map Ru.cs, ∀ u ∈ r, u.oneCell' = true := fun r hr u hu => by
  rw [List.mem_map] at hr
  obtain ⟨e, _, rfl⟩ := hr
  unfold Ru.cs at hu
  simp at hu
  rcases hu with rfl | rfl | rfl <;> rfl
/-- the slice that leads to 'a' reads as these runs -/
def RowU (W : World) (a : Option Addr) (len cap : Nat) (l : List Ru) : Prop := RowF W a len cap 3 (l.map Ru.cs)
theorem RowU.len {W : World} {a : Option Addr} {len cap : Nat} {l : List Ru} (h : RowU W a len cap l) : l.length = len := by have := h.1; rwa [List.length_map] at this
theorem RowU.cap_le {W : World} {a : Option Addr} {len cap : Nat} {l : List Ru} (h : RowU W a len cap l) : len ≤ cap ∧ cap ≤ 9223372036854775807 := RowF.cap_le h
theorem RowU.below {W W' : World} {a : Option Addr} {len cap : Nat} {l : List Ru} (h : RowU W a len cap l) (hb : Below W.heap.size W W') : RowU W' a len cap l := RowF.below (wideU l) h hb
theorem RowU.nil {W : World} : RowU W none 0 0 [] := RowF.nil
theorem RowU.take {W : World} {a : Option Addr} {len cap m : Nat} {l : List Ru} (h : RowU W a len cap l) (hm : m ≤ len) : RowU W a m cap (l.take m) := by
  unfold RowU; rw [List.map_take]; exact RowF.take h hm
theorem RowU.at {W : World} {a : Option Addr} {len cap : Nat} {l : List Ru} (h : RowU W a len cap l) {i : Nat} {r : Ru} (he : l[i]? = some r) : ∃ b off, a = some ⟨b, off, none⟩ ∧ RunAt W b (off + i * 3) r := by
  have hi : i < len := by rw [← h.len]; exact lt_of_get he
  obtain ⟨b, off, ha, hc⟩ := h.2.2.2.2 i hi
  have hg : (l.map Ru.cs).getD i [] = r.cs := by rw [List.getD_eq_getElem?_getD, List.getElem?_map, he]; rfl
  rw [hg] at hc
  exact ⟨b, off, ha, hc 0 (by omega), hc 1 (by omega), hc 2 (by omega)⟩
theorem RowU.same {W W' : World} {a : Option Addr} {len cap : Nat} {l : List Ru} (h : RowU W a len cap l) (hb : ∀ ad : Addr, a = some ad → W'.heap[ad.block]? = W.heap[ad.block]?) : RowU W' a len cap l := RowF.same h hb
theorem rowU_of_owns {W : World} {base : Nat} {e : TypeId} {v : Value} {n : Nat} {l : List Ru} (h : W.ownsRow base e 3 v n (l.map Ru.cs).flatten) (hn : l.length = n) :
    ∃ a cap, v = .slice a n cap ∧ RowU W a n cap l ∧ Fresh base a := rowF_of_owns (wideU l) h (by rw [List.length_map]; exact hn)

end Go.Proofs.Ytlcagjmppmajeaa
