/-
  No cell of these rows narrows 'for every input' (looked for: loops, veiled, ifaces, maps, wideKeys, modest, calm, conditions, laid).
  DERIVED. THE GIVEN ROWS OF THIS SEAT. 5 by the template 'for every input the law returns true; each argument reads behind the call as it read before'; 0 by the template 'total and deterministic' (their statements: YtidfldngiagpdaaTotals.lean).
  GIVEN WITH THE SEED: the statements are not yours to turn. If you find one false, say at which input.
  Laid BY PROGRAM, IN A SANDBOX (cutbox-rows.mjs): the forced cells as the released guide's own fill.sh prints them over the translation 863bfbfe42d44ec8… (all of the seat's roots in one cut). By AI agents, Wed Nov 11 2026. No macro, syntax, notation, axiom, sorry.
-/
import Derived.Test.YtidfldngiagpdaaChecked
import GoSem.Claim
import GoSem.ClaimJoined
import GoSem.ClaimMapViews
import Derived.JoinedTies
import Derived.KernelRfl
namespace Go.Proofs.Ytidfldngiagpdaa
/- THE CELL 'sum', in the pinned program and in every row, IS THE sha256 OF THE DUMP (.gsa) THAT YtidfldngiagpdaaProg.lean LOADS. Nothing in Lean hashes anything: it is a label: what it is worth is what the hold of that sum in a sandbox is worth. -/
noncomputable def Try.pinned : Pinned := { name := "ytidfldngiagpdaa", sum := "863bfbfe42d44ec80c7de338d33912a61452fb977c5d84ec3f4eeb3e52ff68ed", checked := Try.checked }
namespace Rows
def none {H : Type} : Left H := { results := [], args := [] }

/-- 'regattalaw11.RuleBound': WHATEVER THE INPUT: true; the input reads as it did. -/
def ruleBoundSpec : ChangeSpec := { name := "ruleBound", fn := fun _ => fun
  | [d1, d2, d3] => { results := [.lit (.bool true)], args := [d1, d2, d3] }
  | _ => none }
def ruleBoundRow : OpenClaim := { program := "ytidfldngiagpdaa", sum := "863bfbfe42d44ec80c7de338d33912a61452fb977c5d84ec3f4eeb3e52ff68ed", func := "regatta/regattalaw11.RuleBound", spec := "ruleBound", unfollowed := true, recurses := true, apart := false }
def RuleBoundSaid : Prop := ruleBoundRow.holds Try.pinned (OpenSpec.ofChange ruleBoundSpec)

/-- ITS FALSE NEIGHBOUR: 'it returns false'. Refute it at one input. -/
def ruleBoundWrong : ChangeSpec := { name := "ruleBound", fn := fun _ => fun
  | [d1, d2, d3] => { results := [.lit (.bool false)], args := [d1, d2, d3] }
  | _ => none }
def RuleBoundWrongFalsely : Prop := ruleBoundRow.holds Try.pinned (OpenSpec.ofChange ruleBoundWrong)

/-- 'regattalaw11.RuleBehind': WHATEVER THE INPUT: true; the input reads as it did. -/
def ruleBehindSpec : ChangeSpec := { name := "ruleBehind", fn := fun _ => fun
  | [d1, d2, d3] => { results := [.lit (.bool true)], args := [d1, d2, d3] }
  | _ => none }
def ruleBehindRow : OpenClaim := { program := "ytidfldngiagpdaa", sum := "863bfbfe42d44ec80c7de338d33912a61452fb977c5d84ec3f4eeb3e52ff68ed", func := "regatta/regattalaw11.RuleBehind", spec := "ruleBehind", unfollowed := true, recurses := true, apart := false }
def RuleBehindSaid : Prop := ruleBehindRow.holds Try.pinned (OpenSpec.ofChange ruleBehindSpec)

/-- ITS FALSE NEIGHBOUR: 'it returns false'. Refute it at one input. -/
def ruleBehindWrong : ChangeSpec := { name := "ruleBehind", fn := fun _ => fun
  | [d1, d2, d3] => { results := [.lit (.bool false)], args := [d1, d2, d3] }
  | _ => none }
def RuleBehindWrongFalsely : Prop := ruleBehindRow.holds Try.pinned (OpenSpec.ofChange ruleBehindWrong)

/-- 'regattalaw11.RuleNext': WHATEVER THE INPUT: true; the input reads as it did. -/
def ruleNextSpec : ChangeSpec := { name := "ruleNext", fn := fun _ => fun
  | [d1, d2] => { results := [.lit (.bool true)], args := [d1, d2] }
  | _ => none }
def ruleNextRow : OpenClaim := { program := "ytidfldngiagpdaa", sum := "863bfbfe42d44ec80c7de338d33912a61452fb977c5d84ec3f4eeb3e52ff68ed", func := "regatta/regattalaw11.RuleNext", spec := "ruleNext", unfollowed := true, recurses := true, apart := false }
def RuleNextSaid : Prop := ruleNextRow.holds Try.pinned (OpenSpec.ofChange ruleNextSpec)

/-- ITS FALSE NEIGHBOUR: 'it returns false'. Refute it at one input. -/
def ruleNextWrong : ChangeSpec := { name := "ruleNext", fn := fun _ => fun
  | [d1, d2] => { results := [.lit (.bool false)], args := [d1, d2] }
  | _ => none }
def RuleNextWrongFalsely : Prop := ruleNextRow.holds Try.pinned (OpenSpec.ofChange ruleNextWrong)

/-- 'regattalaw11.RuleGroup': WHATEVER THE INPUT: true; the input reads as it did. -/
def ruleGroupSpec : ChangeSpec := { name := "ruleGroup", fn := fun _ => fun
  | [d1, d2, d3] => { results := [.lit (.bool true)], args := [d1, d2, d3] }
  | _ => none }
def ruleGroupRow : OpenClaim := { program := "ytidfldngiagpdaa", sum := "863bfbfe42d44ec80c7de338d33912a61452fb977c5d84ec3f4eeb3e52ff68ed", func := "regatta/regattalaw11.RuleGroup", spec := "ruleGroup", unfollowed := true, recurses := true, apart := false }
def RuleGroupSaid : Prop := ruleGroupRow.holds Try.pinned (OpenSpec.ofChange ruleGroupSpec)

/-- ITS FALSE NEIGHBOUR: 'it returns false'. Refute it at one input. -/
def ruleGroupWrong : ChangeSpec := { name := "ruleGroup", fn := fun _ => fun
  | [d1, d2, d3] => { results := [.lit (.bool false)], args := [d1, d2, d3] }
  | _ => none }
def RuleGroupWrongFalsely : Prop := ruleGroupRow.holds Try.pinned (OpenSpec.ofChange ruleGroupWrong)

/-- 'regattalaw11.RuleLater': WHATEVER THE INPUT: true; the input reads as it did. -/
def ruleLaterSpec : ChangeSpec := { name := "ruleLater", fn := fun _ => fun
  | [d1, d2, d3] => { results := [.lit (.bool true)], args := [d1, d2, d3] }
  | _ => none }
def ruleLaterRow : OpenClaim := { program := "ytidfldngiagpdaa", sum := "863bfbfe42d44ec80c7de338d33912a61452fb977c5d84ec3f4eeb3e52ff68ed", func := "regatta/regattalaw11.RuleLater", spec := "ruleLater", unfollowed := true, recurses := true, apart := false }
def RuleLaterSaid : Prop := ruleLaterRow.holds Try.pinned (OpenSpec.ofChange ruleLaterSpec)

/-- ITS FALSE NEIGHBOUR: 'it returns false'. Refute it at one input. -/
def ruleLaterWrong : ChangeSpec := { name := "ruleLater", fn := fun _ => fun
  | [d1, d2, d3] => { results := [.lit (.bool false)], args := [d1, d2, d3] }
  | _ => none }
def RuleLaterWrongFalsely : Prop := ruleLaterRow.holds Try.pinned (OpenSpec.ofChange ruleLaterWrong)

/- THE SECOND FORM. 'bulk': how many values and letters a reading holds, each counted each time it is reached (what is shared counts as often as it is met; a slice's spare places count too). A statement '..UptoSaid' is the law's where the arguments, and the package variables that the reading takes, are together of bulk at most 1048576: NARROWER than '..Said'. Prove '..Said' where nothing that the law and all that it calls make is longer than what came in: it says more and counts as full. Else prove '..UptoSaid'. A law counts once. -/
mutual
def uptoBulk {H : Type} : DataW H → Nat
  | .lit (.string bytes) => bytes.length + 1
  | .lit _ => 1
  | .nil => 1
  | .ptr d => uptoBulk d + 1
  | .slice elems spare => uptoBulkAll elems + uptoBulkAll spare + 1
  | .agg parts => uptoBulkAll parts + 1
  | .iface _ d => uptoBulk d + 1
  | .map entries => uptoBulkEntries entries + 1
  | .held _ => 1
def uptoBulkAll {H : Type} : List (DataW H) → Nat
  | [] => 0
  | d :: r => uptoBulk d + uptoBulkAll r
def uptoBulkEntries {H : Type} : List (Lit × DataW H) → Nat
  | [] => 0
  | x :: r => uptoBulkEntry x + uptoBulkEntries r
def uptoBulkEntry {H : Type} : Lit × DataW H → Nat
  | (.string bytes, d) => bytes.length + uptoBulk d + 1
  | (_, d) => uptoBulk d + 1
 end
def uptoSmall : (H : Type) → List (DataW H) → Bool := fun _ ds => decide (uptoBulkAll ds ≤ 1048576)
def OpenSpec.upto (s : _root_.Go.ChangeSpec) : _root_.Go.OpenSpec := { _root_.Go.OpenSpec.ofChange s with cond := some uptoSmall }

/-- 'regattalaw11.RuleBound', WHERE WHAT IT READS IS OF BULK AT MOST 1048576: true; the input reads as it did. -/
def ruleBoundUptoRow : OpenClaim := { program := "ytidfldngiagpdaa", sum := "863bfbfe42d44ec80c7de338d33912a61452fb977c5d84ec3f4eeb3e52ff68ed", func := "regatta/regattalaw11.RuleBound", spec := "ruleBound", unfollowed := true, recurses := true, apart := false, narrowed := true }
def RuleBoundUptoSaid : Prop := ruleBoundUptoRow.holds Try.pinned (OpenSpec.upto ruleBoundSpec)

/-- 'regattalaw11.RuleBehind', WHERE WHAT IT READS IS OF BULK AT MOST 1048576: true; the input reads as it did. -/
def ruleBehindUptoRow : OpenClaim := { program := "ytidfldngiagpdaa", sum := "863bfbfe42d44ec80c7de338d33912a61452fb977c5d84ec3f4eeb3e52ff68ed", func := "regatta/regattalaw11.RuleBehind", spec := "ruleBehind", unfollowed := true, recurses := true, apart := false, narrowed := true }
def RuleBehindUptoSaid : Prop := ruleBehindUptoRow.holds Try.pinned (OpenSpec.upto ruleBehindSpec)

/-- 'regattalaw11.RuleNext', WHERE WHAT IT READS IS OF BULK AT MOST 1048576: true; the input reads as it did. -/
def ruleNextUptoRow : OpenClaim := { program := "ytidfldngiagpdaa", sum := "863bfbfe42d44ec80c7de338d33912a61452fb977c5d84ec3f4eeb3e52ff68ed", func := "regatta/regattalaw11.RuleNext", spec := "ruleNext", unfollowed := true, recurses := true, apart := false, narrowed := true }
def RuleNextUptoSaid : Prop := ruleNextUptoRow.holds Try.pinned (OpenSpec.upto ruleNextSpec)

/-- 'regattalaw11.RuleGroup', WHERE WHAT IT READS IS OF BULK AT MOST 1048576: true; the input reads as it did. -/
def ruleGroupUptoRow : OpenClaim := { program := "ytidfldngiagpdaa", sum := "863bfbfe42d44ec80c7de338d33912a61452fb977c5d84ec3f4eeb3e52ff68ed", func := "regatta/regattalaw11.RuleGroup", spec := "ruleGroup", unfollowed := true, recurses := true, apart := false, narrowed := true }
def RuleGroupUptoSaid : Prop := ruleGroupUptoRow.holds Try.pinned (OpenSpec.upto ruleGroupSpec)

/-- 'regattalaw11.RuleLater', WHERE WHAT IT READS IS OF BULK AT MOST 1048576: true; the input reads as it did. -/
def ruleLaterUptoRow : OpenClaim := { program := "ytidfldngiagpdaa", sum := "863bfbfe42d44ec80c7de338d33912a61452fb977c5d84ec3f4eeb3e52ff68ed", func := "regatta/regattalaw11.RuleLater", spec := "ruleLater", unfollowed := true, recurses := true, apart := false, narrowed := true }
def RuleLaterUptoSaid : Prop := ruleLaterUptoRow.holds Try.pinned (OpenSpec.upto ruleLaterSpec)

end Rows
end Go.Proofs.Ytidfldngiagpdaa
