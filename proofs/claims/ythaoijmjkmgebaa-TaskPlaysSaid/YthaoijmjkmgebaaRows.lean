/-
  No cell of these rows narrows 'for every input' (looked for: loops, veiled, ifaces, maps, wideKeys, modest, calm, conditions, laid).
  DERIVED. THE GIVEN ROWS OF THIS SEAT. 6 by the template 'for every input the law returns true; each argument reads behind the call as it read before'; 0 by the template 'total and deterministic' (their statements: YthaoijmjkmgebaaTotals.lean).
  GIVEN WITH THE SEED: the statements are not yours to turn. If you find one false, say at which input.
  Laid BY PROGRAM, IN A SANDBOX (cutbox-rows.mjs): the forced cells as the released guide's own fill.sh prints them over the translation 645d55843e3501ff… (all of the seat's roots in one cut). By AI agents, Wed Nov 11 2026. No macro, syntax, notation, axiom, sorry.
-/
import Derived.Test.YthaoijmjkmgebaaChecked
import GoSem.Claim
import GoSem.ClaimJoined
import GoSem.ClaimMapViews
import Derived.JoinedTies
import Derived.KernelRfl
namespace Go.Proofs.Ythaoijmjkmgebaa
/- THE CELL 'sum', in the pinned program and in every row, IS THE sha256 OF THE DUMP (.gsa) THAT YthaoijmjkmgebaaProg.lean LOADS. Nothing in Lean hashes anything: it is a label: what it is worth is what the hold of that sum in a sandbox is worth. -/
noncomputable def Try.pinned : Pinned := { name := "ythaoijmjkmgebaa", sum := "645d55843e3501fff2ad57faa9e2b7680fd75d962fd23889a13e4e907dce938b", checked := Try.checked }
namespace Rows
def none {H : Type} : Left H := { results := [], args := [] }

/-- 'regattalaw10.TaskPlays': WHATEVER THE INPUT: true; the input reads as it did. -/
def taskPlaysSpec : ChangeSpec := { name := "taskPlays", fn := fun _ => fun
  | [d1, d2, d3] => { results := [.lit (.bool true)], args := [d1, d2, d3] }
  | _ => none }
def taskPlaysRow : OpenClaim := { program := "ythaoijmjkmgebaa", sum := "645d55843e3501fff2ad57faa9e2b7680fd75d962fd23889a13e4e907dce938b", func := "regatta/regattalaw10.TaskPlays", spec := "taskPlays", unfollowed := true, recurses := true, apart := false }
def TaskPlaysSaid : Prop := taskPlaysRow.holds Try.pinned (OpenSpec.ofChange taskPlaysSpec)

/-- ITS FALSE NEIGHBOUR: 'it returns false'. Refute it at one input. -/
def taskPlaysWrong : ChangeSpec := { name := "taskPlays", fn := fun _ => fun
  | [d1, d2, d3] => { results := [.lit (.bool false)], args := [d1, d2, d3] }
  | _ => none }
def TaskPlaysWrongFalsely : Prop := taskPlaysRow.holds Try.pinned (OpenSpec.ofChange taskPlaysWrong)

/-- 'regattalaw10.TaskOrder': WHATEVER THE INPUT: true; the input reads as it did. -/
def taskOrderSpec : ChangeSpec := { name := "taskOrder", fn := fun _ => fun
  | [d1, d2] => { results := [.lit (.bool true)], args := [d1, d2] }
  | _ => none }
def taskOrderRow : OpenClaim := { program := "ythaoijmjkmgebaa", sum := "645d55843e3501fff2ad57faa9e2b7680fd75d962fd23889a13e4e907dce938b", func := "regatta/regattalaw10.TaskOrder", spec := "taskOrder", unfollowed := true, recurses := true, apart := false }
def TaskOrderSaid : Prop := taskOrderRow.holds Try.pinned (OpenSpec.ofChange taskOrderSpec)

/-- ITS FALSE NEIGHBOUR: 'it returns false'. Refute it at one input. -/
def taskOrderWrong : ChangeSpec := { name := "taskOrder", fn := fun _ => fun
  | [d1, d2] => { results := [.lit (.bool false)], args := [d1, d2] }
  | _ => none }
def TaskOrderWrongFalsely : Prop := taskOrderRow.holds Try.pinned (OpenSpec.ofChange taskOrderWrong)

/-- 'regattalaw10.TaskTimely': WHATEVER THE INPUT: true; the input reads as it did. -/
def taskTimelySpec : ChangeSpec := { name := "taskTimely", fn := fun _ => fun
  | [d1, d2, d3] => { results := [.lit (.bool true)], args := [d1, d2, d3] }
  | _ => none }
def taskTimelyRow : OpenClaim := { program := "ythaoijmjkmgebaa", sum := "645d55843e3501fff2ad57faa9e2b7680fd75d962fd23889a13e4e907dce938b", func := "regatta/regattalaw10.TaskTimely", spec := "taskTimely", unfollowed := true, recurses := true, apart := false }
def TaskTimelySaid : Prop := taskTimelyRow.holds Try.pinned (OpenSpec.ofChange taskTimelySpec)

/-- ITS FALSE NEIGHBOUR: 'it returns false'. Refute it at one input. -/
def taskTimelyWrong : ChangeSpec := { name := "taskTimely", fn := fun _ => fun
  | [d1, d2, d3] => { results := [.lit (.bool false)], args := [d1, d2, d3] }
  | _ => none }
def TaskTimelyWrongFalsely : Prop := taskTimelyRow.holds Try.pinned (OpenSpec.ofChange taskTimelyWrong)

/-- 'regattalaw10.TaskCut': WHATEVER THE INPUT: true; the input reads as it did. -/
def taskCutSpec : ChangeSpec := { name := "taskCut", fn := fun _ => fun
  | [d1, d2, d3] => { results := [.lit (.bool true)], args := [d1, d2, d3] }
  | _ => none }
def taskCutRow : OpenClaim := { program := "ythaoijmjkmgebaa", sum := "645d55843e3501fff2ad57faa9e2b7680fd75d962fd23889a13e4e907dce938b", func := "regatta/regattalaw10.TaskCut", spec := "taskCut", unfollowed := true, recurses := true, apart := false }
def TaskCutSaid : Prop := taskCutRow.holds Try.pinned (OpenSpec.ofChange taskCutSpec)

/-- ITS FALSE NEIGHBOUR: 'it returns false'. Refute it at one input. -/
def taskCutWrong : ChangeSpec := { name := "taskCut", fn := fun _ => fun
  | [d1, d2, d3] => { results := [.lit (.bool false)], args := [d1, d2, d3] }
  | _ => none }
def TaskCutWrongFalsely : Prop := taskCutRow.holds Try.pinned (OpenSpec.ofChange taskCutWrong)

/-- 'regattalaw10.TaskFull': WHATEVER THE INPUT: true; the input reads as it did. -/
def taskFullSpec : ChangeSpec := { name := "taskFull", fn := fun _ => fun
  | [d1, d2, d3] => { results := [.lit (.bool true)], args := [d1, d2, d3] }
  | _ => none }
def taskFullRow : OpenClaim := { program := "ythaoijmjkmgebaa", sum := "645d55843e3501fff2ad57faa9e2b7680fd75d962fd23889a13e4e907dce938b", func := "regatta/regattalaw10.TaskFull", spec := "taskFull", unfollowed := true, recurses := true, apart := false }
def TaskFullSaid : Prop := taskFullRow.holds Try.pinned (OpenSpec.ofChange taskFullSpec)

/-- ITS FALSE NEIGHBOUR: 'it returns false'. Refute it at one input. -/
def taskFullWrong : ChangeSpec := { name := "taskFull", fn := fun _ => fun
  | [d1, d2, d3] => { results := [.lit (.bool false)], args := [d1, d2, d3] }
  | _ => none }
def TaskFullWrongFalsely : Prop := taskFullRow.holds Try.pinned (OpenSpec.ofChange taskFullWrong)

/-- 'regattalaw10.TaskNil': WHATEVER THE INPUT: true; the input reads as it did. -/
def taskNilSpec : ChangeSpec := { name := "taskNil", fn := fun _ => fun
  | [d1, d2] => { results := [.lit (.bool true)], args := [d1, d2] }
  | _ => none }
def taskNilRow : OpenClaim := { program := "ythaoijmjkmgebaa", sum := "645d55843e3501fff2ad57faa9e2b7680fd75d962fd23889a13e4e907dce938b", func := "regatta/regattalaw10.TaskNil", spec := "taskNil", unfollowed := true, recurses := true, apart := false }
def TaskNilSaid : Prop := taskNilRow.holds Try.pinned (OpenSpec.ofChange taskNilSpec)

/-- ITS FALSE NEIGHBOUR: 'it returns false'. Refute it at one input. -/
def taskNilWrong : ChangeSpec := { name := "taskNil", fn := fun _ => fun
  | [d1, d2] => { results := [.lit (.bool false)], args := [d1, d2] }
  | _ => none }
def TaskNilWrongFalsely : Prop := taskNilRow.holds Try.pinned (OpenSpec.ofChange taskNilWrong)

/- THE SECOND FORM. 'bulk': how many values and letters a reading holds, each counted each time it is reached (what is shared counts as often as it is met; a slice's spare places count too). A statement '..UptoSaid' is the law's where the arguments, and the package variables that the reading takes, are together of bulk at most 1048576: NARROWER than '..Said'. Prove '..Said' where nothing that the law and all that it calls make is longer than what came in: it says more and counts as full. Else prove '..UptoSaid'. A law counts once. -/
mutual
def uptoBulk {H : Type} : DataW H → Nat
  | .lit (.string bytes) => bytes.length + 1
  | .lit _ => 1
  | .nil => 1
  | .ptr d => uptoBulk d + 1
  | .slice elems spare => uptoBulkAll elems + uptoBulkAll spare + 1
  | .agg parts => uptoBulkAll parts + 1
  | .iface _ d => uptoBulk d + 1
  | .map entries => uptoBulkEntries entries + 1
  | .held _ => 1
def uptoBulkAll {H : Type} : List (DataW H) → Nat
  | [] => 0
  | d :: r => uptoBulk d + uptoBulkAll r
def uptoBulkEntries {H : Type} : List (Lit × DataW H) → Nat
  | [] => 0
  | x :: r => uptoBulkEntry x + uptoBulkEntries r
def uptoBulkEntry {H : Type} : Lit × DataW H → Nat
  | (.string bytes, d) => bytes.length + uptoBulk d + 1
  | (_, d) => uptoBulk d + 1
 end
def uptoSmall : (H : Type) → List (DataW H) → Bool := fun _ ds => decide (uptoBulkAll ds ≤ 1048576)
def OpenSpec.upto (s : _root_.Go.ChangeSpec) : _root_.Go.OpenSpec := { _root_.Go.OpenSpec.ofChange s with cond := some uptoSmall }

/-- 'regattalaw10.TaskPlays', WHERE WHAT IT READS IS OF BULK AT MOST 1048576: true; the input reads as it did. -/
def taskPlaysUptoRow : OpenClaim := { program := "ythaoijmjkmgebaa", sum := "645d55843e3501fff2ad57faa9e2b7680fd75d962fd23889a13e4e907dce938b", func := "regatta/regattalaw10.TaskPlays", spec := "taskPlays", unfollowed := true, recurses := true, apart := false, narrowed := true }
def TaskPlaysUptoSaid : Prop := taskPlaysUptoRow.holds Try.pinned (OpenSpec.upto taskPlaysSpec)

/-- 'regattalaw10.TaskOrder', WHERE WHAT IT READS IS OF BULK AT MOST 1048576: true; the input reads as it did. -/
def taskOrderUptoRow : OpenClaim := { program := "ythaoijmjkmgebaa", sum := "645d55843e3501fff2ad57faa9e2b7680fd75d962fd23889a13e4e907dce938b", func := "regatta/regattalaw10.TaskOrder", spec := "taskOrder", unfollowed := true, recurses := true, apart := false, narrowed := true }
def TaskOrderUptoSaid : Prop := taskOrderUptoRow.holds Try.pinned (OpenSpec.upto taskOrderSpec)

/-- 'regattalaw10.TaskTimely', WHERE WHAT IT READS IS OF BULK AT MOST 1048576: true; the input reads as it did. -/
def taskTimelyUptoRow : OpenClaim := { program := "ythaoijmjkmgebaa", sum := "645d55843e3501fff2ad57faa9e2b7680fd75d962fd23889a13e4e907dce938b", func := "regatta/regattalaw10.TaskTimely", spec := "taskTimely", unfollowed := true, recurses := true, apart := false, narrowed := true }
def TaskTimelyUptoSaid : Prop := taskTimelyUptoRow.holds Try.pinned (OpenSpec.upto taskTimelySpec)

/-- 'regattalaw10.TaskCut', WHERE WHAT IT READS IS OF BULK AT MOST 1048576: true; the input reads as it did. -/
def taskCutUptoRow : OpenClaim := { program := "ythaoijmjkmgebaa", sum := "645d55843e3501fff2ad57faa9e2b7680fd75d962fd23889a13e4e907dce938b", func := "regatta/regattalaw10.TaskCut", spec := "taskCut", unfollowed := true, recurses := true, apart := false, narrowed := true }
def TaskCutUptoSaid : Prop := taskCutUptoRow.holds Try.pinned (OpenSpec.upto taskCutSpec)

/-- 'regattalaw10.TaskFull', WHERE WHAT IT READS IS OF BULK AT MOST 1048576: true; the input reads as it did. -/
def taskFullUptoRow : OpenClaim := { program := "ythaoijmjkmgebaa", sum := "645d55843e3501fff2ad57faa9e2b7680fd75d962fd23889a13e4e907dce938b", func := "regatta/regattalaw10.TaskFull", spec := "taskFull", unfollowed := true, recurses := true, apart := false, narrowed := true }
def TaskFullUptoSaid : Prop := taskFullUptoRow.holds Try.pinned (OpenSpec.upto taskFullSpec)

/-- 'regattalaw10.TaskNil', WHERE WHAT IT READS IS OF BULK AT MOST 1048576: true; the input reads as it did. -/
def taskNilUptoRow : OpenClaim := { program := "ythaoijmjkmgebaa", sum := "645d55843e3501fff2ad57faa9e2b7680fd75d962fd23889a13e4e907dce938b", func := "regatta/regattalaw10.TaskNil", spec := "taskNil", unfollowed := true, recurses := true, apart := false, narrowed := true }
def TaskNilUptoSaid : Prop := taskNilUptoRow.holds Try.pinned (OpenSpec.upto taskNilSpec)

end Rows
end Go.Proofs.Ythaoijmjkmgebaa
