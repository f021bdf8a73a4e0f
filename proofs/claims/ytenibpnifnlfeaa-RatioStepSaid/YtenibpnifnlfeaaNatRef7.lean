/-
  What the document's numbers give back: Sub, Div: contracts.
-/
import Derived.Test.YtenibpnifnlfeaaNatRef6
namespace Go.Proofs.Ytenibpnifnlfeaa
open Go.RowKit

theorem cmpI_ge {m n : Int} (h : n ≤ m) : 0 ≤ cmpI m n := by
  rcases Int.lt_or_eq_of_le h with g | g
  · rw [cmpI_gt g]; omega
  · rw [cmpI_eq g.symm]; omega
theorem len_ge {B : Int} (hB : 1 < B) {za zb : List Int} {m n : Int} (ha : Is B za m) (hb : Is B zb n) (h : n ≤ m) : zb.length ≤ za.length := by
  rcases Nat.lt_or_ge za.length zb.length with g | g
  · have := len_lt hB ha hb g; omega
  · exact g

/-- a row and an error -/
def GivesE (w : World) (er : Int) (P : List Int → Prop) (e : Ending) (w' : World) : Prop :=
  ∃ a len cap zs, e = .returned (.tuple #[.slice a len cap, .int .i64 er]) ∧ Row .u32 w' a len cap zs ∧ P zs ∧ Below w.heap.size w w' ∧ Fresh w.heap.size a

/-- a whole part, what is left, and an error -/
def Quos (w : World) (r er : Int) (P : List Int → Prop) (e : Ending) (w' : World) : Prop :=
  ∃ a len cap zs, e = .returned (.agg #[.slice a len cap, .int .u32 r, .int .i64 er]) ∧ Row .u32 w' a len cap zs ∧ P zs ∧ Below w.heap.size w w' ∧ Fresh w.heap.size a

theorem new_cells {w w1 : World} {o : Array Value} {t : TypeId} (hb : Below (w.heap.size + 1) (w.alloc (.cells o t)) w1) (j : Nat) :
    w1.cell? ⟨w.heap.size, j, none⟩ = o[j]? ∧ w1.frozen? ⟨w.heap.size, j, none⟩ = false := by
  refine ⟨(hb.cell (p := ⟨w.heap.size, j, none⟩) (Nat.lt_succ_self _)).trans (World.cell?_alloc_at _ _ _ _ rfl), (hb.frozen (p := ⟨w.heap.size, j, none⟩) (Nat.lt_succ_self _)).trans ?_⟩
  simp

end Go.Proofs.Ytenibpnifnlfeaa
