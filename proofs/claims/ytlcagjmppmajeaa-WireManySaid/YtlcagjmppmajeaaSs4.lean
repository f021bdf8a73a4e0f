/-
  A row's bytes; the document's Bytes (regattaref16): contract.
-/
import Derived.Test.YtlcagjmppmajeaaSs3
import Derived.Laws.Concat
namespace Go.Proofs.Ytlcagjmppmajeaa
open Go.RowKit

/-- a number that is not below 0, as bytes -/
def numI (x : Int) : List UInt8 := num x.toNat
/-- runs as bytes, the one ahead being on core c -/
def runsB : Int → List Ru → List UInt8
  | _, [] => []
  | c, r :: rs => numI (r.core - c) ++ numI r.id ++ numI r.idx ++ runsB r.core rs
def slotB (s : Sk) : List UInt8 := num s.runs.length ++ runsB 0 s.runs
def slotsB (l : List Sk) : List UInt8 := l.flatMap slotB
def headAt : List Sk → Int | [] => 0 | s :: _ => s.tm
def bytesL (l : List Sk) : List UInt8 := num l.length ++ numI (headAt l) ++ slotsB l
noncomputable def bytesK (l : List Sk) : List UInt8 := if rowB l 1024 then bytesL l else []
/-- the core of the last one -/
def lastC : Int → List Ru → Int
  | c, [] => c
  | _, r :: rs => lastC r.core rs
theorem runsB_append : ∀ (x y : List Ru) (c : Int), runsB c (x ++ y) = runsB c x ++ runsB (lastC c x) y
  | [], y, c => rfl
  | r :: x, y, c => by rw [List.cons_append, runsB, runsB, runsB_append x y, lastC]; simp
theorem lastC_append : ∀ (x y : List Ru) (c : Int), lastC c (x ++ y) = lastC (lastC c x) y
  | [], y, c => rfl
  | r :: x, y, c => by rw [List.cons_append, lastC, lastC_append x y, lastC]
theorem lastC_ge : ∀ (x : List Ru) (c : Int), 0 ≤ c → (∀ y ∈ x, 0 ≤ y.core) → 0 ≤ lastC c x
  | [], _, h, _ => h
  | r :: x, _, _, h => lastC_ge x r.core (h r List.mem_cons_self) fun y hy => h y (List.mem_cons_of_mem _ hy)
theorem lastC_le : ∀ (x : List Ru) (c q : Int), c ≤ q → (∀ y ∈ x, y.core ≤ q) → lastC c x ≤ q
  | [], _, _, h, _ => h
  | r :: x, _, q, _, h => lastC_le x r.core q (h r List.mem_cons_self) fun y hy => h y (List.mem_cons_of_mem _ hy)
theorem slots_snoc (l : List Sk) (s : Sk) : slotsB (l ++ [s]) = slotsB l ++ slotB s := by unfold slotsB; simp
theorem numI_len {x : Int} (h : x ≤ 1099511627776) : (numI x).length ≤ 6 := num_short 5 (by omega)
theorem runsB_len : ∀ (rs : List Ru) (c : Int), 0 ≤ c → (∀ r ∈ rs, 0 ≤ r.core ∧ r.core ≤ 1024 ∧ r.id ≤ 1023 ∧ r.idx ≤ 1099511627776) → (runsB c rs).length ≤ 18 * rs.length
  | [], _, _, _ => by simp [runsB]
  | r :: rs, c, h0, h => by
    have hr := h r List.mem_cons_self
    have ih := runsB_len rs r.core hr.1 fun x hx => h x (List.mem_cons_of_mem _ hx)
    have a := numI_len (x := r.core - c) (by omega)
    have b := numI_len (x := r.id) (by omega)
    have d := numI_len (x := r.idx) (by omega)
    rw [runsB, List.length_append, List.length_append, List.length_append, List.length_cons]
    omega
theorem slotsB_len : ∀ (l : List Sk) (m : Int), m ≤ 1024 → (∀ s ∈ l, s.runs.length ≤ 4096 ∧ MayS s m) → (slotsB l).length ≤ 80000 * l.length
  | [], _, _, _ => by simp [slotsB]
  | s :: l, m, hm, h => by
    have hs := h s List.mem_cons_self
    have ih := slotsB_len l m hm fun x hx => h x (List.mem_cons_of_mem _ hx)
    have e : slotsB (s :: l) = slotB s ++ slotsB l := by unfold slotsB; simp
    have a : (num s.runs.length).length ≤ 6 := num_short 5 (by omega)
    have b := runsB_len s.runs 0 (by omega) fun r hr => by
      have := hs.2.runs.each r (by rw [List.take_length]; exact hr)
      omega
    have c : (slotB s).length ≤ 80000 := by
      unfold slotB
      rw [List.length_append]
      omega
    rw [e, List.length_append, List.length_cons]
    omega
def BS (l : List UInt8) : ByteArray := ⟨l.toArray⟩
theorem BS_size (l : List UInt8) : (BS l).size = l.length := by show (l.toArray).size = _; simp
theorem BS_add (a b : List UInt8) : BS a ++ BS b = BS (a ++ b) := by
  apply ByteArray.ext
  simp [BS, ByteArray.data_append]
theorem add_run (t : TypeId) (D S : List UInt8) (h : D.length + S.length ≤ 1000000000) : ∀ w : World, (binOp .add t (.string (BS D)) (.string (BS S))).run Try.prog w = .ok (.string (BS (D ++ S))) w := by
  intro w
  rw [← BS_add, binOp_string_add]
  have h1 := BS_size D
  have h2 := BS_size S
  exact run_string_add_sum w _ _ (by omega)
/-- what is written of the first i slots -/
theorem bytes_may {l : List Sk} {m : Int} (h : RowTo l m l.length) : ∀ s ∈ l, MayS s m := fun s hs => by
  obtain ⟨j, hj, e⟩ := List.getElem_of_mem hs
  exact (h j s hj (by rw [List.getElem?_eq_getElem hj, e])).1
end Go.Proofs.Ytlcagjmppmajeaa
