/-
  A row of slots, from a place on.
-/
import Derived.Test.YtndhpihgeacdfaaSx4
namespace Go.Proofs.Ytndhpihgeacdfaa
open Go.RowKit

theorem RowF.drop {W : World} {b o len cap c k : Nat} {rs : List (List Value)} (h : RowF W (some ⟨b, o, none⟩) len cap c rs) (hk : k ≤ len) : RowF W (some ⟨b, o + k * c, none⟩) (len - k) (cap - k) c (rs.drop k) := by
  obtain ⟨h1, h2, h3, h4, h5⟩ := h
  refine ⟨by rw [List.length_drop, h1], by omega, by omega, (fun e => by cases e), fun i hi => ⟨_, _, rfl, fun j hj => ?_⟩⟩
  obtain ⟨b', o', e, hc⟩ := h5 (k + i) (by omega)
  simp only [Option.some.injEq, Addr.mk.injEq, and_true] at e
  obtain ⟨rfl, rfl⟩ := e
  have h6 := hc j hj
  rw [show o + (k + i) * c + j = o + k * c + i * c + j by rw [Nat.add_mul]; omega] at h6
  rw [h6, List.getD_eq_getElem?_getD, List.getD_eq_getElem?_getD, List.getElem?_drop]
theorem RowK.drop {W : World} {b o len cap k : Nat} {l : List Sk} (h : RowK W (some ⟨b, o, none⟩) len cap l) (hk : k ≤ len) : RowK W (some ⟨b, o + k * 2, none⟩) (len - k) (cap - k) (l.drop k) := by
  obtain ⟨vs, h1, h2, h3⟩ := h
  refine ⟨vs.drop k, by rw [List.length_drop, List.length_drop, h1], by rw [← List.drop_zipWith]; exact h2.drop hk, fun i s v hs hv => ?_⟩
  rw [List.getElem?_drop] at hs hv
  exact h3 (k + i) s v hs hv
theorem drop_small {l : List Sk} (h : SmallK l) (k : Nat) : SmallK (l.drop k) := ⟨by rw [List.length_drop]; have := h.a; omega, fun s hs => h.b s (List.mem_of_mem_drop hs)⟩
theorem take_small {l : List Sk} (h : SmallK l) (k : Nat) : SmallK (l.take k) := ⟨by rw [List.length_take]; have := h.a; omega, fun s hs => h.b s (List.mem_of_mem_take hs)⟩
theorem em_yes {l : List Sk} {m : Int} (h : RowTo l m l.length) : emV l m = emS l m := by unfold emV; rw [rowB_yes h, if_pos rfl]
/-- what the parts tell of the whole -/
structure PartsV (R : List Sk) (k : Nat) (id : Int) : Prop where
  q : quU (allR R) id = quU (allR (R.take k)) id + quU (allR (R.drop k)) id
  e : emV R 64 = emV (R.take k) 64 + emV (R.drop k) 64
  m1 : (mvU (allR (R.take k)) id).1 ≤ (mvU (allR R) id).1
  m2 : (mvU (allR R) id).1 ≤ (mvU (allR (R.take k)) id).1 + (mvU (allR (R.drop k)) id).1 + 1
  r : rowB (R.drop k) 64 = true
theorem parts_of {R : List Sk} (h : RowTo R 64 R.length) (k : Nat) (id : Int) : PartsV R k id := by
  have ea : allR R = allR (R.take k) ++ allR (R.drop k) := by
    have h := all_append (R.take k) (R.drop k)
    rw [List.take_append_drop] at h
    exact h
  have hm := mv_parts (allR (R.take k)) (allR (R.drop k)) id
  rw [← ea] at hm
  refine ⟨by rw [ea, qu_append], ?_, hm.1, hm.2, rowB_yes (row_drop h k)⟩
  rw [em_yes h, em_yes (row_take h k), em_yes (row_drop h k), ← em_append, List.take_append_drop]
end Go.Proofs.Ytndhpihgeacdfaa
