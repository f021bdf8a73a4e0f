/-
  Rows of slots in memory; the document's Row, Quanta and Moves (regattaref16): contracts.
-/
import Derived.Test.YtlcagjmppmajeaaSs0
namespace Go.Proofs.Ytlcagjmppmajeaa
open Go.RowKit

/-! ### in memory -/
def skc (s : Sk) (v : Option Addr × Nat × Nat) : List Value := [.int .i64 s.tm, .slice v.1 v.2.1 v.2.2]
theorem wideK : ∀ (l : List Sk) (vs : List (Option Addr × Nat × Nat)), Wide 2 (List.zipWith skc l vs)
  | [], _ => by simp [Wide]
  | _ :: _, [] => by simp [Wide]
  | s :: l, v :: vs => fun r hr => by
    rw [List.zipWith_cons_cons] at hr
    rcases List.mem_cons.mp hr with e | e
    · rw [e]; rfl
    · exact wideK l vs r e
/-- the slice that leads to 'a' reads as these slots -/
def RowK (W : World) (a : Option Addr) (len cap : Nat) (l : List Sk) : Prop :=
  ∃ vs : List (Option Addr × Nat × Nat), vs.length = l.length ∧ RowF W a len cap 2 (List.zipWith skc l vs) ∧ ∀ (i : Nat) (s : Sk) (v : Option Addr × Nat × Nat), l[i]? = some s → vs[i]? = some v → RowU W v.1 v.2.1 v.2.2 s.runs
theorem RowK.len {W : World} {a : Option Addr} {len cap : Nat} {l : List Sk} (h : RowK W a len cap l) : l.length = len := by
  obtain ⟨vs, h1, h2, _⟩ := h
  have := h2.1
  rw [List.length_zipWith, h1] at this
  omega
theorem RowK.cap_le {W : World} {a : Option Addr} {len cap : Nat} {l : List Sk} (h : RowK W a len cap l) : len ≤ cap ∧ cap ≤ 9223372036854775807 := by
  obtain ⟨vs, _, h2, _⟩ := h
  exact h2.cap_le
theorem RowK.below {W W' : World} {a : Option Addr} {len cap : Nat} {l : List Sk} (h : RowK W a len cap l) (hb : Below W.heap.size W W') : RowK W' a len cap l := by
  obtain ⟨vs, h1, h2, h3⟩ := h
  exact ⟨vs, h1, RowF.below (wideK l vs) h2 hb, fun i s v hs hv => (h3 i s v hs hv).below hb⟩
theorem RowK.nil {W : World} : RowK W none 0 0 [] := ⟨[], rfl, RowF.nil, fun i s v h => by simp at h⟩
theorem RowK.take {W : World} {a : Option Addr} {len cap m : Nat} {l : List Sk} (h : RowK W a len cap l) (hm : m ≤ len) : RowK W a m cap (l.take m) := by
  obtain ⟨vs, h1, h2, h3⟩ := h
  refine ⟨vs.take m, by rw [List.length_take, List.length_take, h1], by rw [← List.take_zipWith]; exact RowF.take h2 hm, fun i s v hs hv => ?_⟩
  have k1 := lt_of_get hs
  rw [List.length_take] at k1
  rw [List.getElem?_take_of_lt (by omega)] at hs hv
  exact h3 i s v hs hv
theorem RowK.at {W : World} {a : Option Addr} {len cap : Nat} {l : List Sk} (h : RowK W a len cap l) {i : Nat} {s : Sk} (he : l[i]? = some s) :
    ∃ b off ao lo co, a = some ⟨b, off, none⟩ ∧ W.cell? ⟨b, off + i * 2, none⟩ = some (.int .i64 s.tm) ∧ W.cell? ⟨b, off + i * 2 + 1, none⟩ = some (.slice ao lo co) ∧ RowU W ao lo co s.runs := by
  have hl := h.len
  obtain ⟨vs, h1, h2, h3⟩ := h
  have hi := lt_of_get he
  obtain ⟨b, off, ha, hc⟩ := h2.2.2.2.2 i (by omega)
  have hv : vs[i]? = some vs[i] := List.getElem?_eq_getElem (by omega)
  have hg : (List.zipWith skc l vs).getD i [] = skc s vs[i] := by
    rw [List.getD_eq_getElem?_getD, List.getElem?_zipWith, he, hv]; rfl
  rw [hg] at hc
  exact ⟨b, off, _, _, _, ha, hc 0 (by omega), hc 1 (by omega), h3 i s _ he hv⟩
/-- all runs, in order -/
def allR (l : List Sk) : List Ru := l.flatMap Sk.runs
theorem all_snoc (l : List Sk) (s : Sk) : allR (l ++ [s]) = allR l ++ s.runs := by unfold allR; simp
structure SmallK (l : List Sk) : Prop where
  a : l.length ≤ 4096
  b : ∀ s ∈ l, s.runs.length ≤ 4096
theorem SmallK.all : ∀ {l : List Sk}, (∀ s ∈ l, s.runs.length ≤ 4096) → (allR l).length ≤ 4096 * l.length
  | [], _ => by simp [allR]
  | s :: l, h => by
    have h1 := h s List.mem_cons_self
    have h2 := SmallK.all (l := l) fun x hx => h x (List.mem_cons_of_mem _ hx)
    have e : allR (s :: l) = s.runs ++ allR l := by unfold allR; simp
    rw [e, List.length_append, List.length_cons]
    omega
theorem SmallK.pre {l : List Sk} (h : SmallK l) {i : Nat} {s : Sk} (hs : l[i]? = some s) (k : Nat) : (allR (l.take i) ++ s.runs.take k).length ≤ 20000000 := by
  have h1 := SmallK.all (l := l.take i) fun x hx => h.b x (List.mem_of_mem_take hx)
  have h2 := h.b s (List.mem_of_getElem? hs)
  have h3 := h.a
  rw [List.length_take] at h1
  rw [List.length_append, List.length_take]
  omega
theorem SmallK.pre0 {l : List Sk} (h : SmallK l) (i : Nat) : (allR (l.take i)).length ≤ 20000000 := by
  have h1 := SmallK.all (l := l.take i) fun x hx => h.b x (List.mem_of_mem_take hx)
  have h3 := h.a
  rw [List.length_take] at h1
  omega
/-! ### Quanta -/
def quU (l : List Ru) (id : Int) : Nat := l.countP fun r => decide (r.id = id)
theorem qu_snoc (l : List Ru) (r : Ru) (id : Int) : quU (l ++ [r]) id = quU l id + if r.id = id then 1 else 0 := by
  unfold quU
  rw [List.countP_append]
  by_cases h : r.id = id <;> simp [h]
theorem qu_le (l : List Ru) (id : Int) : quU l id ≤ l.length := List.countP_le_length
/-! ### Moves -/
def mvStep (id : Int) (st : Nat × Option Int) (r : Ru) : Nat × Option Int :=
  if r.id = id then (st.1 + (match st.2 with | some c => if r.core = c then 0 else 1 | none => 0), some r.core) else st
def mvU (l : List Ru) (id : Int) : Nat × Option Int := l.foldl (mvStep id) (0, none)
theorem mv_snoc (l : List Ru) (r : Ru) (id : Int) : mvU (l ++ [r]) id = mvStep id (mvU l id) r := by unfold mvU; rw [List.foldl_append]; rfl
theorem mv_le : ∀ (l : List Ru) (id : Int) (st : Nat × Option Int), (l.foldl (mvStep id) st).1 ≤ st.1 + l.length
  | [], _, _ => by simp
  | r :: l, id, st => by
    have h := mv_le l id (mvStep id st r)
    have h2 : (mvStep id st r).1 ≤ st.1 + 1 := by
      unfold mvStep
      split
      · cases st.2 with
        | none => simp
        | some c => simp only; split <;> omega
      · omega
    rw [List.foldl_cons, List.length_cons]
    omega
end Go.Proofs.Ytlcagjmppmajeaa
