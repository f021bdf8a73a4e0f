/-
  No cell of these rows narrows 'for every input' (looked for: loops, veiled, ifaces, maps, wideKeys, modest, calm, conditions, laid).
  DERIVED. THE GIVEN ROWS OF THIS SEAT. 6 by the template 'for every input the law returns true; each argument reads behind the call as it read before'; 0 by the template 'total and deterministic' (their statements: YtkiolkceaibmgaaTotals.lean).
  GIVEN WITH THE SEED: the statements are not yours to turn. If you find one false, say at which input.
  Laid BY PROGRAM, IN A SANDBOX (cutbox-rows.mjs): the forced cells as the released guide's own fill.sh prints them over the translation 6c669416435ed9c1… (all of the seat's roots in one cut). By AI agents, Wed Nov 11 2026. No macro, syntax, notation, axiom, sorry.
-/
import Derived.Test.YtkiolkceaibmgaaChecked
import GoSem.Claim
import GoSem.ClaimJoined
import GoSem.ClaimMapViews
import Derived.JoinedTies
import Derived.KernelRfl
namespace Go.Proofs.Ytkiolkceaibmgaa
/- THE CELL 'sum', in the pinned program and in every row, IS THE sha256 OF THE DUMP (.gsa) THAT YtkiolkceaibmgaaProg.lean LOADS. Nothing in Lean hashes anything: it is a label: what it is worth is what the hold of that sum in a sandbox is worth. -/
noncomputable def Try.pinned : Pinned := { name := "ytkiolkceaibmgaa", sum := "6c669416435ed9c1ca9e527677c3f5933d52dc987b6cfb2f1a6ca9afb2e5fddb", checked := Try.checked }
namespace Rows
def none {H : Type} : Left H := { results := [], args := [] }

/-- 'regattalaw06.PrioTells': WHATEVER THE INPUT: true; the input reads as it did. -/
def prioTellsSpec : ChangeSpec := { name := "prioTells", fn := fun _ => fun
  | [d1, d2, d3] => { results := [.lit (.bool true)], args := [d1, d2, d3] }
  | _ => none }
def prioTellsRow : OpenClaim := { program := "ytkiolkceaibmgaa", sum := "6c669416435ed9c1ca9e527677c3f5933d52dc987b6cfb2f1a6ca9afb2e5fddb", func := "regatta/regattalaw06.PrioTells", spec := "prioTells", unfollowed := true, recurses := true, apart := false }
def PrioTellsSaid : Prop := prioTellsRow.holds Try.pinned (OpenSpec.ofChange prioTellsSpec)

/-- ITS FALSE NEIGHBOUR: 'it returns false'. Refute it at one input. -/
def prioTellsWrong : ChangeSpec := { name := "prioTells", fn := fun _ => fun
  | [d1, d2, d3] => { results := [.lit (.bool false)], args := [d1, d2, d3] }
  | _ => none }
def PrioTellsWrongFalsely : Prop := prioTellsRow.holds Try.pinned (OpenSpec.ofChange prioTellsWrong)

/-- 'regattalaw06.PrioOrder': WHATEVER THE INPUT: true; the input reads as it did. -/
def prioOrderSpec : ChangeSpec := { name := "prioOrder", fn := fun _ => fun
  | [d1, d2, d3] => { results := [.lit (.bool true)], args := [d1, d2, d3] }
  | _ => none }
def prioOrderRow : OpenClaim := { program := "ytkiolkceaibmgaa", sum := "6c669416435ed9c1ca9e527677c3f5933d52dc987b6cfb2f1a6ca9afb2e5fddb", func := "regatta/regattalaw06.PrioOrder", spec := "prioOrder", unfollowed := true, recurses := true, apart := false }
def PrioOrderSaid : Prop := prioOrderRow.holds Try.pinned (OpenSpec.ofChange prioOrderSpec)

/-- ITS FALSE NEIGHBOUR: 'it returns false'. Refute it at one input. -/
def prioOrderWrong : ChangeSpec := { name := "prioOrder", fn := fun _ => fun
  | [d1, d2, d3] => { results := [.lit (.bool false)], args := [d1, d2, d3] }
  | _ => none }
def PrioOrderWrongFalsely : Prop := prioOrderRow.holds Try.pinned (OpenSpec.ofChange prioOrderWrong)

/-- 'regattalaw06.PrioSorts': WHATEVER THE INPUT: true; the input reads as it did. -/
def prioSortsSpec : ChangeSpec := { name := "prioSorts", fn := fun _ => fun
  | [d] => { results := [.lit (.bool true)], args := [d] }
  | _ => none }
def prioSortsRow : OpenClaim := { program := "ytkiolkceaibmgaa", sum := "6c669416435ed9c1ca9e527677c3f5933d52dc987b6cfb2f1a6ca9afb2e5fddb", func := "regatta/regattalaw06.PrioSorts", spec := "prioSorts", unfollowed := true, recurses := true, apart := false }
def PrioSortsSaid : Prop := prioSortsRow.holds Try.pinned (OpenSpec.ofChange prioSortsSpec)

/-- ITS FALSE NEIGHBOUR: 'it returns false'. Refute it at one input. -/
def prioSortsWrong : ChangeSpec := { name := "prioSorts", fn := fun _ => fun
  | [d] => { results := [.lit (.bool false)], args := [d] }
  | _ => none }
def PrioSortsWrongFalsely : Prop := prioSortsRow.holds Try.pinned (OpenSpec.ofChange prioSortsWrong)

/-- 'regattalaw06.PrioPicks': WHATEVER THE INPUT: true; the input reads as it did. -/
def prioPicksSpec : ChangeSpec := { name := "prioPicks", fn := fun _ => fun
  | [d1, d2] => { results := [.lit (.bool true)], args := [d1, d2] }
  | _ => none }
def prioPicksRow : OpenClaim := { program := "ytkiolkceaibmgaa", sum := "6c669416435ed9c1ca9e527677c3f5933d52dc987b6cfb2f1a6ca9afb2e5fddb", func := "regatta/regattalaw06.PrioPicks", spec := "prioPicks", unfollowed := true, recurses := true, apart := false }
def PrioPicksSaid : Prop := prioPicksRow.holds Try.pinned (OpenSpec.ofChange prioPicksSpec)

/-- ITS FALSE NEIGHBOUR: 'it returns false'. Refute it at one input. -/
def prioPicksWrong : ChangeSpec := { name := "prioPicks", fn := fun _ => fun
  | [d1, d2] => { results := [.lit (.bool false)], args := [d1, d2] }
  | _ => none }
def PrioPicksWrongFalsely : Prop := prioPicksRow.holds Try.pinned (OpenSpec.ofChange prioPicksWrong)

/-- 'regattalaw06.PrioWindows': WHATEVER THE INPUT: true; the input reads as it did. -/
def prioWindowsSpec : ChangeSpec := { name := "prioWindows", fn := fun _ => fun
  | [d1, d2] => { results := [.lit (.bool true)], args := [d1, d2] }
  | _ => none }
def prioWindowsRow : OpenClaim := { program := "ytkiolkceaibmgaa", sum := "6c669416435ed9c1ca9e527677c3f5933d52dc987b6cfb2f1a6ca9afb2e5fddb", func := "regatta/regattalaw06.PrioWindows", spec := "prioWindows", unfollowed := true, recurses := true, apart := false }
def PrioWindowsSaid : Prop := prioWindowsRow.holds Try.pinned (OpenSpec.ofChange prioWindowsSpec)

/-- ITS FALSE NEIGHBOUR: 'it returns false'. Refute it at one input. -/
def prioWindowsWrong : ChangeSpec := { name := "prioWindows", fn := fun _ => fun
  | [d1, d2] => { results := [.lit (.bool false)], args := [d1, d2] }
  | _ => none }
def PrioWindowsWrongFalsely : Prop := prioWindowsRow.holds Try.pinned (OpenSpec.ofChange prioWindowsWrong)

/-- 'regattalaw06.PrioRank': WHATEVER THE INPUT: true; the input reads as it did. -/
def prioRankSpec : ChangeSpec := { name := "prioRank", fn := fun _ => fun
  | [d] => { results := [.lit (.bool true)], args := [d] }
  | _ => none }
def prioRankRow : OpenClaim := { program := "ytkiolkceaibmgaa", sum := "6c669416435ed9c1ca9e527677c3f5933d52dc987b6cfb2f1a6ca9afb2e5fddb", func := "regatta/regattalaw06.PrioRank", spec := "prioRank", unfollowed := true, recurses := true, apart := false }
def PrioRankSaid : Prop := prioRankRow.holds Try.pinned (OpenSpec.ofChange prioRankSpec)

/-- ITS FALSE NEIGHBOUR: 'it returns false'. Refute it at one input. -/
def prioRankWrong : ChangeSpec := { name := "prioRank", fn := fun _ => fun
  | [d] => { results := [.lit (.bool false)], args := [d] }
  | _ => none }
def PrioRankWrongFalsely : Prop := prioRankRow.holds Try.pinned (OpenSpec.ofChange prioRankWrong)

/- THE SECOND FORM. 'bulk': how many values and letters a reading holds, each counted each time it is reached (what is shared counts as often as it is met; a slice's spare places count too). A statement '..UptoSaid' is the law's where the arguments, and the package variables that the reading takes, are together of bulk at most 1048576: NARROWER than '..Said'. Prove '..Said' where nothing that the law and all that it calls make is longer than what came in: it says more and counts as full. Else prove '..UptoSaid'. A law counts once. -/
mutual
def uptoBulk {H : Type} : DataW H → Nat
  | .lit (.string bytes) => bytes.length + 1
  | .lit _ => 1
  | .nil => 1
  | .ptr d => uptoBulk d + 1
  | .slice elems spare => uptoBulkAll elems + uptoBulkAll spare + 1
  | .agg parts => uptoBulkAll parts + 1
  | .iface _ d => uptoBulk d + 1
  | .map entries => uptoBulkEntries entries + 1
  | .held _ => 1
def uptoBulkAll {H : Type} : List (DataW H) → Nat
  | [] => 0
  | d :: r => uptoBulk d + uptoBulkAll r
def uptoBulkEntries {H : Type} : List (Lit × DataW H) → Nat
  | [] => 0
  | x :: r => uptoBulkEntry x + uptoBulkEntries r
def uptoBulkEntry {H : Type} : Lit × DataW H → Nat
  | (.string bytes, d) => bytes.length + uptoBulk d + 1
  | (_, d) => uptoBulk d + 1
 end
def uptoSmall : (H : Type) → List (DataW H) → Bool := fun _ ds => decide (uptoBulkAll ds ≤ 1048576)
def OpenSpec.upto (s : _root_.Go.ChangeSpec) : _root_.Go.OpenSpec := { _root_.Go.OpenSpec.ofChange s with cond := some uptoSmall }

/-- 'regattalaw06.PrioTells', WHERE WHAT IT READS IS OF BULK AT MOST 1048576: true; the input reads as it did. -/
def prioTellsUptoRow : OpenClaim := { program := "ytkiolkceaibmgaa", sum := "6c669416435ed9c1ca9e527677c3f5933d52dc987b6cfb2f1a6ca9afb2e5fddb", func := "regatta/regattalaw06.PrioTells", spec := "prioTells", unfollowed := true, recurses := true, apart := false, narrowed := true }
def PrioTellsUptoSaid : Prop := prioTellsUptoRow.holds Try.pinned (OpenSpec.upto prioTellsSpec)

/-- 'regattalaw06.PrioOrder', WHERE WHAT IT READS IS OF BULK AT MOST 1048576: true; the input reads as it did. -/
def prioOrderUptoRow : OpenClaim := { program := "ytkiolkceaibmgaa", sum := "6c669416435ed9c1ca9e527677c3f5933d52dc987b6cfb2f1a6ca9afb2e5fddb", func := "regatta/regattalaw06.PrioOrder", spec := "prioOrder", unfollowed := true, recurses := true, apart := false, narrowed := true }
def PrioOrderUptoSaid : Prop := prioOrderUptoRow.holds Try.pinned (OpenSpec.upto prioOrderSpec)

/-- 'regattalaw06.PrioSorts', WHERE WHAT IT READS IS OF BULK AT MOST 1048576: true; the input reads as it did. -/
def prioSortsUptoRow : OpenClaim := { program := "ytkiolkceaibmgaa", sum := "6c669416435ed9c1ca9e527677c3f5933d52dc987b6cfb2f1a6ca9afb2e5fddb", func := "regatta/regattalaw06.PrioSorts", spec := "prioSorts", unfollowed := true, recurses := true, apart := false, narrowed := true }
def PrioSortsUptoSaid : Prop := prioSortsUptoRow.holds Try.pinned (OpenSpec.upto prioSortsSpec)

/-- 'regattalaw06.PrioPicks', WHERE WHAT IT READS IS OF BULK AT MOST 1048576: true; the input reads as it did. -/
def prioPicksUptoRow : OpenClaim := { program := "ytkiolkceaibmgaa", sum := "6c669416435ed9c1ca9e527677c3f5933d52dc987b6cfb2f1a6ca9afb2e5fddb", func := "regatta/regattalaw06.PrioPicks", spec := "prioPicks", unfollowed := true, recurses := true, apart := false, narrowed := true }
def PrioPicksUptoSaid : Prop := prioPicksUptoRow.holds Try.pinned (OpenSpec.upto prioPicksSpec)

/-- 'regattalaw06.PrioWindows', WHERE WHAT IT READS IS OF BULK AT MOST 1048576: true; the input reads as it did. -/
def prioWindowsUptoRow : OpenClaim := { program := "ytkiolkceaibmgaa", sum := "6c669416435ed9c1ca9e527677c3f5933d52dc987b6cfb2f1a6ca9afb2e5fddb", func := "regatta/regattalaw06.PrioWindows", spec := "prioWindows", unfollowed := true, recurses := true, apart := false, narrowed := true }
def PrioWindowsUptoSaid : Prop := prioWindowsUptoRow.holds Try.pinned (OpenSpec.upto prioWindowsSpec)

/-- 'regattalaw06.PrioRank', WHERE WHAT IT READS IS OF BULK AT MOST 1048576: true; the input reads as it did. -/
def prioRankUptoRow : OpenClaim := { program := "ytkiolkceaibmgaa", sum := "6c669416435ed9c1ca9e527677c3f5933d52dc987b6cfb2f1a6ca9afb2e5fddb", func := "regatta/regattalaw06.PrioRank", spec := "prioRank", unfollowed := true, recurses := true, apart := false, narrowed := true }
def PrioRankUptoSaid : Prop := prioRankUptoRow.holds Try.pinned (OpenSpec.upto prioRankSpec)

end Rows
end Go.Proofs.Ytkiolkceaibmgaa
