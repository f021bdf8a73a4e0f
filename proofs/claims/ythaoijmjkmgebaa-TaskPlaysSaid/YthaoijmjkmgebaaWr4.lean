/-
  What the document's own stepper (regattaref05) gives back: contracts.
-/
import Derived.Test.YthaoijmjkmgebaaWr3
namespace Go.Proofs.Ythaoijmjkmgebaa
open Go.RowKit

/-- the cells of the document's stepper -/
def stC (E P O I : Int) : Array Value := #[.int .i64 E, .int .i64 P, .int .i64 O, .int .i64 I]
/-- what it stands ahead of -/
def aheadV (E P O I : Int) : Value := subV I (wR E P I + O) (wD E P I + O) (wB E P I) (if wG E P I = 0 then 0 else wG E P I + O)

/-- behind the region that holds the call: the subtask lies in a block of its own -/
def PkBox (w : World) (a b c d e : Value) (s : Value) (wx : World) : Prop :=
  ∃ k : Nat, s = .pointer (some ⟨k, 0, none⟩) ∧ Blk wx 35 k #[a, b, c, d, e] ∧ w.heap.size < k ∧ Blk wx 35 w.heap.size #[.int .i64 0, .int .i64 0, .int .i64 0, .int .i64 0, .int .i64 0] ∧ Below w.heap.size w wx
theorem pkbox_new {w v3 v6 : World} {a b c d e : Value} (hB : Below w.heap.size w v3) (hL : Blk v3 35 w.heap.size #[.int .i64 0, .int .i64 0, .int .i64 0, .int .i64 0, .int .i64 0]) (hb : Below v3.heap.size v3 v6) :
    PkBox w a b c d e (.pointer (some ⟨v6.heap.size, 0, none⟩)) (v6.alloc (.cells #[a, b, c, d, e] 35)) :=
  ⟨_, rfl, Blk.new _ _ _, Nat.lt_of_lt_of_le hL.lt hb.size, (hL.below hb).alloc _, below_next (below_next hB hb) (wbox _ _)⟩
theorem pkbox_set {w v3 v6 : World} {a b c d e : Value} {k : Nat} (hB : Below w.heap.size w v3) (hL : Blk v3 35 w.heap.size #[.int .i64 0, .int .i64 0, .int .i64 0, .int .i64 0, .int .i64 0]) (hb : Below v3.heap.size v3 v6) (hA : Blk v6 35 k #[.int .i64 0, .int .i64 0, .int .i64 0, .int .i64 0, .int .i64 0]) (hg : v3.heap.size ≤ k) :
    PkBox w a b c d e (.pointer (some ⟨k, 0, none⟩)) (((((v6.setCell ⟨k, 0, none⟩ a).setCell ⟨k, 1, none⟩ b).setCell ⟨k, 2, none⟩ c).setCell ⟨k, 3, none⟩ d).setCell ⟨k, 4, none⟩ e) :=
  ⟨_, rfl, hA.set5, Nat.lt_of_lt_of_le hL.lt hg, (hL.below hb).other5 (Nat.ne_of_lt (Nat.lt_of_lt_of_le hL.lt hg)), below_set5 (below_next hB hb) (Nat.le_of_lt (Nat.lt_of_lt_of_le hL.lt hg))⟩

end Go.Proofs.Ythaoijmjkmgebaa
