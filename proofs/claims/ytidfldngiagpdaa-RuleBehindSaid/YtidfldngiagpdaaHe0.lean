/-
  A heap of events: events, things by their numbers, the order that is handed in; words for them in memory.
-/
import Derived.Test.YtidfldngiagpdaaSep
import Derived.Deep.DeepCutAuto
import Derived.Deep.RegionHeld3
import Derived.OneCell
namespace Go.Proofs.Ytidfldngiagpdaa
open Go.RowKit

/-- an event: when, of which task, which kind -/
structure Ev where
  d : Int
  i : Int
  k : Int
def Ev.v (e : Ev) : Value := .agg #[.int .i64 e.d, .int .i64 e.i, .int .i64 e.k]
/-- a thing: its number, and the event that is there by it -/
structure Te where
  n : Int
  e : Ev
def ev0 : Ev := ⟨0, 0, 0⟩
def te0 : Te := ⟨0, ev0⟩
def Te.cs (t : Te) : List Value := [.int .i64 t.n, .int .i64 t.e.d, .int .i64 t.e.i, .int .i64 t.e.k]
theorem wideTe (ts : List Te) : Wide 4 (ts.map Te.cs) := fun r hr => by
  rw [List.mem_map] at hr
  obtain ⟨e, _, rfl⟩ := hr
  rfl
structure TeAt (W : World) (b o : Nat) (t : Te) : Prop where
  c0 : W.cell? ⟨b, o, none⟩ = some (.int .i64 t.n)
  c1 : W.cell? ⟨b, o + 1, none⟩ = some (.int .i64 t.e.d)
  c2 : W.cell? ⟨b, o + 2, none⟩ = some (.int .i64 t.e.i)
  c3 : W.cell? ⟨b, o + 3, none⟩ = some (.int .i64 t.e.k)
theorem Blk.setBE {W : World} {T : TypeId} {g : Nat} {cs : Array Value} (h : Blk W T g cs) (j : Nat) (v : Value) : Blk (W.setCell ⟨g, j, none⟩ v) T g (cs.setIfInBounds j v) := heap_setCell_same W g j cs T v h
theorem hb_cellE {w w2 : World} {p : Addr} {v : Value} (hb : Below w.heap.size w w2) (h : w.cell? p = some v) : w2.cell? p = some v := (hb.cell (World.block_lt_of_cell? _ _ h)).trans h
/-- an order that may be handed in -/
structure OrdE (ltb : Ev → Ev → Bool) : Prop where
  asym : ∀ a b, ltb a b = true → ltb b a = false
  ntr : ∀ a b c, ltb a b = false → ltb b c = false → ltb a c = false
/-- one thing goes ahead of another one -/
def AheadE (ltb : Ev → Ev → Bool) (a b : Te) : Prop := ltb a.e b.e = true ∨ (ltb b.e a.e = false ∧ a.n < b.n)
instance (ltb : Ev → Ev → Bool) (a b : Te) : Decidable (AheadE ltb a b) := by unfold AheadE; infer_instance
/-- none of the first i goes ahead of number k -/
def MinInE (ltb : Ev → Ev → Bool) (ts : List Te) (t : Te) : Prop := ∀ s ∈ ts, ¬ AheadE ltb s t
section
variable {ltb : Ev → Ev → Bool} [O : Nonempty (OrdE ltb)]
theorem ordE : OrdE ltb := let ⟨h⟩ := O; h
theorem ahead_irrE (a : Te) : ¬ AheadE ltb a a := fun h => by
  rcases h with h | ⟨_, h⟩
  · have := ordE.asym _ _ h
    rw [h] at this; cases this
  · omega
theorem ahead_asymE {a b : Te} (h : AheadE ltb a b) : ¬ AheadE ltb b a := fun k => by
  rcases h with h | ⟨h, h'⟩
  · have := ordE.asym _ _ h
    rcases k with k | ⟨k, _⟩
    · rw [k] at this; cases this
    · rw [h] at k; cases k
  · rcases k with k | ⟨_, k'⟩
    · rw [h] at k; cases k
    · omega
theorem ahead_downE {a b c : Te} (h : ¬ AheadE ltb a b) (k : ¬ AheadE ltb b c) : ¬ AheadE ltb a c := fun q => by
  unfold AheadE at h k
  have ab : ltb a.e b.e = false := by
    rcases e : ltb a.e b.e with _ | _
    · rfl
    · exact absurd (.inl e) h
  have bc : ltb b.e c.e = false := by
    rcases e : ltb b.e c.e with _ | _
    · rfl
    · exact absurd (.inl e) k
  have ac := ordE.ntr _ _ _ ab bc
  rcases q with q | ⟨ca, q⟩
  · rw [ac] at q; cases q
  · have ba := ordE.ntr _ _ _ bc ca
    have cb := ordE.ntr _ _ _ ca ab
    have h1 : ¬ a.n < b.n := fun z => h (.inr ⟨ba, z⟩)
    have h2 : ¬ b.n < c.n := fun z => k (.inr ⟨cb, z⟩)
    omega
theorem ahead_notE {a b c : Te} (h : AheadE ltb a b) (k : ¬ AheadE ltb c b) : ¬ AheadE ltb c a := ahead_downE k (ahead_asymE h)
end
end Go.Proofs.Ytidfldngiagpdaa
