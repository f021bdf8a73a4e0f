/-
  What the document's numbers give back: Parse: contracts.
-/
import Derived.Test.YtenibpnifnlfeaaNatRef8
namespace Go.Proofs.Ytenibpnifnlfeaa
open Go.RowKit

/-- which texts are numbers -/
def GoodS (l : List UInt8) : Prop := l ≠ [] ∧ (∀ c ∈ l, 48 ≤ c.toNat ∧ c.toNat ≤ 57) ∧ ¬ (l.head? = some 48 ∧ 1 < l.length)
def byteD (c : UInt8) : Int := (c.toNat : Int) - 48
/-- the digits of a text, the lowest first -/
def numL (l : List UInt8) : List Int := l.reverse.map byteD
def ParseP (l : List UInt8) (w : World) (e : Ending) (w' : World) : Prop :=
  (GoodS l → GivesE w 0 (fun r => Is 4294967296 r (val 10 (numL l))) e w') ∧ (¬ GoodS l → GivesE w 10 (fun r => Is 4294967296 r 0) e w')
theorem parse_no {l : List UInt8} {w w' : World} (h : ¬ GoodS l) (hb : Below w.heap.size w w') : ParseP l w (.returned (.tuple #[.slice none 0 0, .int .i64 10])) w' :=
  ⟨fun g => absurd g h, fun _ => ⟨none, 0, 0, [], rfl, Row.nil, is_nil, hb, Fresh.none⟩⟩
theorem numL_digs {l : List UInt8} (h : ∀ c ∈ l, 48 ≤ c.toNat ∧ c.toNat ≤ 57) : Digs 10 (numL l) := fun z hz => by
  unfold numL at hz
  rw [List.mem_map] at hz
  obtain ⟨c, hc, rfl⟩ := hz
  have := h c (List.mem_reverse.mp hc)
  unfold byteD
  omega
theorem bytes_drop {s : ByteArray} {i : Nat} (h : i < s.size) : s.data.toList.drop i = s[i] :: s.data.toList.drop (i + 1) := by
  rw [List.drop_eq_getElem_cons (by simpa using h)]; rfl
theorem numL_cons {l : List UInt8} {c : UInt8} : numL (c :: l) = numL l ++ [byteD c] := by simp [numL]

end Go.Proofs.Ytenibpnifnlfeaa
