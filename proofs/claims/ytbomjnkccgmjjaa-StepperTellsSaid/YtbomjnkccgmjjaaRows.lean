/-
  No cell of these rows narrows 'for every input' (looked for: loops, veiled, ifaces, maps, wideKeys, modest, calm, conditions, laid).
  DERIVED. THE GIVEN ROWS OF THIS SEAT. 6 by the template 'for every input the law returns true; each argument reads behind the call as it read before'; 0 by the template 'total and deterministic' (their statements: YtbomjnkccgmjjaaTotals.lean).
  GIVEN WITH THE SEED: the statements are not yours to turn. If you find one false, say at which input.
  Laid BY PROGRAM, IN A SANDBOX (cutbox-rows.mjs): the forced cells as the released guide's own fill.sh prints them over the translation 092cb08960f9443e… (all of the seat's roots in one cut). By AI agents, Wed Nov 11 2026. No macro, syntax, notation, axiom, sorry.
-/
import Derived.Test.YtbomjnkccgmjjaaChecked
import GoSem.Claim
import GoSem.ClaimJoined
import GoSem.ClaimMapViews
import Derived.JoinedTies
import Derived.KernelRfl
namespace Go.Proofs.Ytbomjnkccgmjjaa
/- THE CELL 'sum', in the pinned program and in every row, IS THE sha256 OF THE DUMP (.gsa) THAT YtbomjnkccgmjjaaProg.lean LOADS. Nothing in Lean hashes anything: it is a label: what it is worth is what the hold of that sum in a sandbox is worth. -/
noncomputable def Try.pinned : Pinned := { name := "ytbomjnkccgmjjaa", sum := "092cb08960f9443e4e74615771105f56f9297096d69056bd6d7898db040eeaa5", checked := Try.checked }
namespace Rows
def none {H : Type} : Left H := { results := [], args := [] }

/-- 'regattalaw05.StepperTells': WHATEVER THE INPUT: true; the input reads as it did. -/
def stepperTellsSpec : ChangeSpec := { name := "stepperTells", fn := fun _ => fun
  | [d1, d2, d3] => { results := [.lit (.bool true)], args := [d1, d2, d3] }
  | _ => none }
def stepperTellsRow : OpenClaim := { program := "ytbomjnkccgmjjaa", sum := "092cb08960f9443e4e74615771105f56f9297096d69056bd6d7898db040eeaa5", func := "regatta/regattalaw05.StepperTells", spec := "stepperTells", apart := false }
def StepperTellsSaid : Prop := stepperTellsRow.holds Try.pinned (OpenSpec.ofChange stepperTellsSpec)

/-- ITS FALSE NEIGHBOUR: 'it returns false'. Refute it at one input. -/
def stepperTellsWrong : ChangeSpec := { name := "stepperTells", fn := fun _ => fun
  | [d1, d2, d3] => { results := [.lit (.bool false)], args := [d1, d2, d3] }
  | _ => none }
def StepperTellsWrongFalsely : Prop := stepperTellsRow.holds Try.pinned (OpenSpec.ofChange stepperTellsWrong)

/-- 'regattalaw05.StepperLong': WHATEVER THE INPUT: true; the input reads as it did. -/
def stepperLongSpec : ChangeSpec := { name := "stepperLong", fn := fun _ => fun
  | [d1, d2] => { results := [.lit (.bool true)], args := [d1, d2] }
  | _ => none }
def stepperLongRow : OpenClaim := { program := "ytbomjnkccgmjjaa", sum := "092cb08960f9443e4e74615771105f56f9297096d69056bd6d7898db040eeaa5", func := "regatta/regattalaw05.StepperLong", spec := "stepperLong", apart := false }
def StepperLongSaid : Prop := stepperLongRow.holds Try.pinned (OpenSpec.ofChange stepperLongSpec)

/-- ITS FALSE NEIGHBOUR: 'it returns false'. Refute it at one input. -/
def stepperLongWrong : ChangeSpec := { name := "stepperLong", fn := fun _ => fun
  | [d1, d2] => { results := [.lit (.bool false)], args := [d1, d2] }
  | _ => none }
def StepperLongWrongFalsely : Prop := stepperLongRow.holds Try.pinned (OpenSpec.ofChange stepperLongWrong)

/-- 'regattalaw05.StepperChain': WHATEVER THE INPUT: true; the input reads as it did. -/
def stepperChainSpec : ChangeSpec := { name := "stepperChain", fn := fun _ => fun
  | [d1, d2, d3] => { results := [.lit (.bool true)], args := [d1, d2, d3] }
  | _ => none }
def stepperChainRow : OpenClaim := { program := "ytbomjnkccgmjjaa", sum := "092cb08960f9443e4e74615771105f56f9297096d69056bd6d7898db040eeaa5", func := "regatta/regattalaw05.StepperChain", spec := "stepperChain", apart := false }
def StepperChainSaid : Prop := stepperChainRow.holds Try.pinned (OpenSpec.ofChange stepperChainSpec)

/-- ITS FALSE NEIGHBOUR: 'it returns false'. Refute it at one input. -/
def stepperChainWrong : ChangeSpec := { name := "stepperChain", fn := fun _ => fun
  | [d1, d2, d3] => { results := [.lit (.bool false)], args := [d1, d2, d3] }
  | _ => none }
def StepperChainWrongFalsely : Prop := stepperChainRow.holds Try.pinned (OpenSpec.ofChange stepperChainWrong)

/-- 'regattalaw05.StepperCopy': WHATEVER THE INPUT: true; the input reads as it did. -/
def stepperCopySpec : ChangeSpec := { name := "stepperCopy", fn := fun _ => fun
  | [d1, d2, d3] => { results := [.lit (.bool true)], args := [d1, d2, d3] }
  | _ => none }
def stepperCopyRow : OpenClaim := { program := "ytbomjnkccgmjjaa", sum := "092cb08960f9443e4e74615771105f56f9297096d69056bd6d7898db040eeaa5", func := "regatta/regattalaw05.StepperCopy", spec := "stepperCopy", apart := false }
def StepperCopySaid : Prop := stepperCopyRow.holds Try.pinned (OpenSpec.ofChange stepperCopySpec)

/-- ITS FALSE NEIGHBOUR: 'it returns false'. Refute it at one input. -/
def stepperCopyWrong : ChangeSpec := { name := "stepperCopy", fn := fun _ => fun
  | [d1, d2, d3] => { results := [.lit (.bool false)], args := [d1, d2, d3] }
  | _ => none }
def StepperCopyWrongFalsely : Prop := stepperCopyRow.holds Try.pinned (OpenSpec.ofChange stepperCopyWrong)

/-- 'regattalaw05.StepperShift': WHATEVER THE INPUT: true; the input reads as it did. -/
def stepperShiftSpec : ChangeSpec := { name := "stepperShift", fn := fun _ => fun
  | [d1, d2, d3] => { results := [.lit (.bool true)], args := [d1, d2, d3] }
  | _ => none }
def stepperShiftRow : OpenClaim := { program := "ytbomjnkccgmjjaa", sum := "092cb08960f9443e4e74615771105f56f9297096d69056bd6d7898db040eeaa5", func := "regatta/regattalaw05.StepperShift", spec := "stepperShift", apart := false }
def StepperShiftSaid : Prop := stepperShiftRow.holds Try.pinned (OpenSpec.ofChange stepperShiftSpec)

/-- ITS FALSE NEIGHBOUR: 'it returns false'. Refute it at one input. -/
def stepperShiftWrong : ChangeSpec := { name := "stepperShift", fn := fun _ => fun
  | [d1, d2, d3] => { results := [.lit (.bool false)], args := [d1, d2, d3] }
  | _ => none }
def StepperShiftWrongFalsely : Prop := stepperShiftRow.holds Try.pinned (OpenSpec.ofChange stepperShiftWrong)

/-- 'regattalaw05.StepperNil': WHATEVER THE INPUT: true; the input reads as it did. -/
def stepperNilSpec : ChangeSpec := { name := "stepperNil", fn := fun _ => fun
  | [d] => { results := [.lit (.bool true)], args := [d] }
  | _ => none }
def stepperNilRow : OpenClaim := { program := "ytbomjnkccgmjjaa", sum := "092cb08960f9443e4e74615771105f56f9297096d69056bd6d7898db040eeaa5", func := "regatta/regattalaw05.StepperNil", spec := "stepperNil", apart := false }
def StepperNilSaid : Prop := stepperNilRow.holds Try.pinned (OpenSpec.ofChange stepperNilSpec)

/-- ITS FALSE NEIGHBOUR: 'it returns false'. Refute it at one input. -/
def stepperNilWrong : ChangeSpec := { name := "stepperNil", fn := fun _ => fun
  | [d] => { results := [.lit (.bool false)], args := [d] }
  | _ => none }
def StepperNilWrongFalsely : Prop := stepperNilRow.holds Try.pinned (OpenSpec.ofChange stepperNilWrong)

/- THE SECOND FORM. 'bulk': how many values and letters a reading holds, each counted each time it is reached (what is shared counts as often as it is met; a slice's spare places count too). A statement '..UptoSaid' is the law's where the arguments, and the package variables that the reading takes, are together of bulk at most 1048576: NARROWER than '..Said'. Prove '..Said' where nothing that the law and all that it calls make is longer than what came in: it says more and counts as full. Else prove '..UptoSaid'. A law counts once. -/
mutual
def uptoBulk {H : Type} : DataW H → Nat
  | .lit (.string bytes) => bytes.length + 1
  | .lit _ => 1
  | .nil => 1
  | .ptr d => uptoBulk d + 1
  | .slice elems spare => uptoBulkAll elems + uptoBulkAll spare + 1
  | .agg parts => uptoBulkAll parts + 1
  | .iface _ d => uptoBulk d + 1
  | .map entries => uptoBulkEntries entries + 1
  | .held _ => 1
def uptoBulkAll {H : Type} : List (DataW H) → Nat
  | [] => 0
  | d :: r => uptoBulk d + uptoBulkAll r
def uptoBulkEntries {H : Type} : List (Lit × DataW H) → Nat
  | [] => 0
  | x :: r => uptoBulkEntry x + uptoBulkEntries r
def uptoBulkEntry {H : Type} : Lit × DataW H → Nat
  | (.string bytes, d) => bytes.length + uptoBulk d + 1
  | (_, d) => uptoBulk d + 1
 end
def uptoSmall : (H : Type) → List (DataW H) → Bool := fun _ ds => decide (uptoBulkAll ds ≤ 1048576)
def OpenSpec.upto (s : _root_.Go.ChangeSpec) : _root_.Go.OpenSpec := { _root_.Go.OpenSpec.ofChange s with cond := some uptoSmall }

/-- 'regattalaw05.StepperTells', WHERE WHAT IT READS IS OF BULK AT MOST 1048576: true; the input reads as it did. -/
def stepperTellsUptoRow : OpenClaim := { program := "ytbomjnkccgmjjaa", sum := "092cb08960f9443e4e74615771105f56f9297096d69056bd6d7898db040eeaa5", func := "regatta/regattalaw05.StepperTells", spec := "stepperTells", apart := false, narrowed := true }
def StepperTellsUptoSaid : Prop := stepperTellsUptoRow.holds Try.pinned (OpenSpec.upto stepperTellsSpec)

/-- 'regattalaw05.StepperLong', WHERE WHAT IT READS IS OF BULK AT MOST 1048576: true; the input reads as it did. -/
def stepperLongUptoRow : OpenClaim := { program := "ytbomjnkccgmjjaa", sum := "092cb08960f9443e4e74615771105f56f9297096d69056bd6d7898db040eeaa5", func := "regatta/regattalaw05.StepperLong", spec := "stepperLong", apart := false, narrowed := true }
def StepperLongUptoSaid : Prop := stepperLongUptoRow.holds Try.pinned (OpenSpec.upto stepperLongSpec)

/-- 'regattalaw05.StepperChain', WHERE WHAT IT READS IS OF BULK AT MOST 1048576: true; the input reads as it did. -/
def stepperChainUptoRow : OpenClaim := { program := "ytbomjnkccgmjjaa", sum := "092cb08960f9443e4e74615771105f56f9297096d69056bd6d7898db040eeaa5", func := "regatta/regattalaw05.StepperChain", spec := "stepperChain", apart := false, narrowed := true }
def StepperChainUptoSaid : Prop := stepperChainUptoRow.holds Try.pinned (OpenSpec.upto stepperChainSpec)

/-- 'regattalaw05.StepperCopy', WHERE WHAT IT READS IS OF BULK AT MOST 1048576: true; the input reads as it did. -/
def stepperCopyUptoRow : OpenClaim := { program := "ytbomjnkccgmjjaa", sum := "092cb08960f9443e4e74615771105f56f9297096d69056bd6d7898db040eeaa5", func := "regatta/regattalaw05.StepperCopy", spec := "stepperCopy", apart := false, narrowed := true }
def StepperCopyUptoSaid : Prop := stepperCopyUptoRow.holds Try.pinned (OpenSpec.upto stepperCopySpec)

/-- 'regattalaw05.StepperShift', WHERE WHAT IT READS IS OF BULK AT MOST 1048576: true; the input reads as it did. -/
def stepperShiftUptoRow : OpenClaim := { program := "ytbomjnkccgmjjaa", sum := "092cb08960f9443e4e74615771105f56f9297096d69056bd6d7898db040eeaa5", func := "regatta/regattalaw05.StepperShift", spec := "stepperShift", apart := false, narrowed := true }
def StepperShiftUptoSaid : Prop := stepperShiftUptoRow.holds Try.pinned (OpenSpec.upto stepperShiftSpec)

/-- 'regattalaw05.StepperNil', WHERE WHAT IT READS IS OF BULK AT MOST 1048576: true; the input reads as it did. -/
def stepperNilUptoRow : OpenClaim := { program := "ytbomjnkccgmjjaa", sum := "092cb08960f9443e4e74615771105f56f9297096d69056bd6d7898db040eeaa5", func := "regatta/regattalaw05.StepperNil", spec := "stepperNil", apart := false, narrowed := true }
def StepperNilUptoSaid : Prop := stepperNilUptoRow.holds Try.pinned (OpenSpec.upto stepperNilSpec)

end Rows
end Go.Proofs.Ytbomjnkccgmjjaa
