/-
  No cell of these rows narrows 'for every input' (looked for: loops, veiled, ifaces, maps, wideKeys, modest, calm, conditions, laid).
  DERIVED. THE GIVEN ROWS OF THIS SEAT. 6 by the template 'for every input the law returns true; each argument reads behind the call as it read before'; 0 by the template 'total and deterministic' (their statements: YtnmiiebfpeoafaaTotals.lean).
  GIVEN WITH THE SEED: the statements are not yours to turn. If you find one false, say at which input.
  Laid BY PROGRAM, IN A SANDBOX (cutbox-rows.mjs): the forced cells as the released guide's own fill.sh prints them over the translation b2cffda5dbe34fef… (all of the seat's roots in one cut). By AI agents, Wed Nov 11 2026. No macro, syntax, notation, axiom, sorry.
-/
import Derived.Test.YtnmiiebfpeoafaaChecked
import GoSem.Claim
import GoSem.ClaimJoined
import GoSem.ClaimMapViews
import Derived.JoinedTies
import Derived.KernelRfl
namespace Go.Proofs.Ytnmiiebfpeoafaa
/- THE CELL 'sum', in the pinned program and in every row, IS THE sha256 OF THE DUMP (.gsa) THAT YtnmiiebfpeoafaaProg.lean LOADS. Nothing in Lean hashes anything: it is a label: what it is worth is what the hold of that sum in a sandbox is worth. -/
noncomputable def Try.pinned : Pinned := { name := "ytnmiiebfpeoafaa", sum := "b2cffda5dbe34fefba9a103aab84972c1d9763283d14126886b6eb22c4e363dc", checked := Try.checked }
namespace Rows
def none {H : Type} : Left H := { results := [], args := [] }

/-- 'regattalaw09.FluidTells': WHATEVER THE INPUT: true; the input reads as it did. -/
def fluidTellsSpec : ChangeSpec := { name := "fluidTells", fn := fun _ => fun
  | [d1, d2, d3] => { results := [.lit (.bool true)], args := [d1, d2, d3] }
  | _ => none }
def fluidTellsRow : OpenClaim := { program := "ytnmiiebfpeoafaa", sum := "b2cffda5dbe34fefba9a103aab84972c1d9763283d14126886b6eb22c4e363dc", func := "regatta/regattalaw09.FluidTells", spec := "fluidTells", unfollowed := true, recurses := true, apart := false }
def FluidTellsSaid : Prop := fluidTellsRow.holds Try.pinned (OpenSpec.ofChange fluidTellsSpec)

/-- ITS FALSE NEIGHBOUR: 'it returns false'. Refute it at one input. -/
def fluidTellsWrong : ChangeSpec := { name := "fluidTells", fn := fun _ => fun
  | [d1, d2, d3] => { results := [.lit (.bool false)], args := [d1, d2, d3] }
  | _ => none }
def FluidTellsWrongFalsely : Prop := fluidTellsRow.holds Try.pinned (OpenSpec.ofChange fluidTellsWrong)

/-- 'regattalaw09.FluidBounds': WHATEVER THE INPUT: true; the input reads as it did. -/
def fluidBoundsSpec : ChangeSpec := { name := "fluidBounds", fn := fun _ => fun
  | [d1, d2, d3] => { results := [.lit (.bool true)], args := [d1, d2, d3] }
  | _ => none }
def fluidBoundsRow : OpenClaim := { program := "ytnmiiebfpeoafaa", sum := "b2cffda5dbe34fefba9a103aab84972c1d9763283d14126886b6eb22c4e363dc", func := "regatta/regattalaw09.FluidBounds", spec := "fluidBounds", unfollowed := true, recurses := true, apart := false }
def FluidBoundsSaid : Prop := fluidBoundsRow.holds Try.pinned (OpenSpec.ofChange fluidBoundsSpec)

/-- ITS FALSE NEIGHBOUR: 'it returns false'. Refute it at one input. -/
def fluidBoundsWrong : ChangeSpec := { name := "fluidBounds", fn := fun _ => fun
  | [d1, d2, d3] => { results := [.lit (.bool false)], args := [d1, d2, d3] }
  | _ => none }
def FluidBoundsWrongFalsely : Prop := fluidBoundsRow.holds Try.pinned (OpenSpec.ofChange fluidBoundsWrong)

/-- 'regattalaw09.FluidWindows': WHATEVER THE INPUT: true; the input reads as it did. -/
def fluidWindowsSpec : ChangeSpec := { name := "fluidWindows", fn := fun _ => fun
  | [d1, d2] => { results := [.lit (.bool true)], args := [d1, d2] }
  | _ => none }
def fluidWindowsRow : OpenClaim := { program := "ytnmiiebfpeoafaa", sum := "b2cffda5dbe34fefba9a103aab84972c1d9763283d14126886b6eb22c4e363dc", func := "regatta/regattalaw09.FluidWindows", spec := "fluidWindows", unfollowed := true, recurses := true, apart := false }
def FluidWindowsSaid : Prop := fluidWindowsRow.holds Try.pinned (OpenSpec.ofChange fluidWindowsSpec)

/-- ITS FALSE NEIGHBOUR: 'it returns false'. Refute it at one input. -/
def fluidWindowsWrong : ChangeSpec := { name := "fluidWindows", fn := fun _ => fun
  | [d1, d2] => { results := [.lit (.bool false)], args := [d1, d2] }
  | _ => none }
def FluidWindowsWrongFalsely : Prop := fluidWindowsRow.holds Try.pinned (OpenSpec.ofChange fluidWindowsWrong)

/-- 'regattalaw09.FluidFollows': WHATEVER THE INPUT: true; the input reads as it did. -/
def fluidFollowsSpec : ChangeSpec := { name := "fluidFollows", fn := fun _ => fun
  | [d1, d2, d3] => { results := [.lit (.bool true)], args := [d1, d2, d3] }
  | _ => none }
def fluidFollowsRow : OpenClaim := { program := "ytnmiiebfpeoafaa", sum := "b2cffda5dbe34fefba9a103aab84972c1d9763283d14126886b6eb22c4e363dc", func := "regatta/regattalaw09.FluidFollows", spec := "fluidFollows", unfollowed := true, recurses := true, apart := false }
def FluidFollowsSaid : Prop := fluidFollowsRow.holds Try.pinned (OpenSpec.ofChange fluidFollowsSpec)

/-- ITS FALSE NEIGHBOUR: 'it returns false'. Refute it at one input. -/
def fluidFollowsWrong : ChangeSpec := { name := "fluidFollows", fn := fun _ => fun
  | [d1, d2, d3] => { results := [.lit (.bool false)], args := [d1, d2, d3] }
  | _ => none }
def FluidFollowsWrongFalsely : Prop := fluidFollowsRow.holds Try.pinned (OpenSpec.ofChange fluidFollowsWrong)

/-- 'regattalaw09.FluidDue': WHATEVER THE INPUT: true; the input reads as it did. -/
def fluidDueSpec : ChangeSpec := { name := "fluidDue", fn := fun _ => fun
  | [d1, d2] => { results := [.lit (.bool true)], args := [d1, d2] }
  | _ => none }
def fluidDueRow : OpenClaim := { program := "ytnmiiebfpeoafaa", sum := "b2cffda5dbe34fefba9a103aab84972c1d9763283d14126886b6eb22c4e363dc", func := "regatta/regattalaw09.FluidDue", spec := "fluidDue", unfollowed := true, recurses := true, apart := false }
def FluidDueSaid : Prop := fluidDueRow.holds Try.pinned (OpenSpec.ofChange fluidDueSpec)

/-- ITS FALSE NEIGHBOUR: 'it returns false'. Refute it at one input. -/
def fluidDueWrong : ChangeSpec := { name := "fluidDue", fn := fun _ => fun
  | [d1, d2] => { results := [.lit (.bool false)], args := [d1, d2] }
  | _ => none }
def FluidDueWrongFalsely : Prop := fluidDueRow.holds Try.pinned (OpenSpec.ofChange fluidDueWrong)

/-- 'regattalaw09.FluidLag': WHATEVER THE INPUT: true; the input reads as it did. -/
def fluidLagSpec : ChangeSpec := { name := "fluidLag", fn := fun _ => fun
  | [d1, d2] => { results := [.lit (.bool true)], args := [d1, d2] }
  | _ => none }
def fluidLagRow : OpenClaim := { program := "ytnmiiebfpeoafaa", sum := "b2cffda5dbe34fefba9a103aab84972c1d9763283d14126886b6eb22c4e363dc", func := "regatta/regattalaw09.FluidLag", spec := "fluidLag", unfollowed := true, recurses := true, apart := false }
def FluidLagSaid : Prop := fluidLagRow.holds Try.pinned (OpenSpec.ofChange fluidLagSpec)

/-- ITS FALSE NEIGHBOUR: 'it returns false'. Refute it at one input. -/
def fluidLagWrong : ChangeSpec := { name := "fluidLag", fn := fun _ => fun
  | [d1, d2] => { results := [.lit (.bool false)], args := [d1, d2] }
  | _ => none }
def FluidLagWrongFalsely : Prop := fluidLagRow.holds Try.pinned (OpenSpec.ofChange fluidLagWrong)

/- THE SECOND FORM. 'bulk': how many values and letters a reading holds, each counted each time it is reached (what is shared counts as often as it is met; a slice's spare places count too). A statement '..UptoSaid' is the law's where the arguments, and the package variables that the reading takes, are together of bulk at most 1048576: NARROWER than '..Said'. Prove '..Said' where nothing that the law and all that it calls make is longer than what came in: it says more and counts as full. Else prove '..UptoSaid'. A law counts once. -/
mutual
def uptoBulk {H : Type} : DataW H → Nat
  | .lit (.string bytes) => bytes.length + 1
  | .lit _ => 1
  | .nil => 1
  | .ptr d => uptoBulk d + 1
  | .slice elems spare => uptoBulkAll elems + uptoBulkAll spare + 1
  | .agg parts => uptoBulkAll parts + 1
  | .iface _ d => uptoBulk d + 1
  | .map entries => uptoBulkEntries entries + 1
  | .held _ => 1
def uptoBulkAll {H : Type} : List (DataW H) → Nat
  | [] => 0
  | d :: r => uptoBulk d + uptoBulkAll r
def uptoBulkEntries {H : Type} : List (Lit × DataW H) → Nat
  | [] => 0
  | x :: r => uptoBulkEntry x + uptoBulkEntries r
def uptoBulkEntry {H : Type} : Lit × DataW H → Nat
  | (.string bytes, d) => bytes.length + uptoBulk d + 1
  | (_, d) => uptoBulk d + 1
 end
def uptoSmall : (H : Type) → List (DataW H) → Bool := fun _ ds => decide (uptoBulkAll ds ≤ 1048576)
def OpenSpec.upto (s : _root_.Go.ChangeSpec) : _root_.Go.OpenSpec := { _root_.Go.OpenSpec.ofChange s with cond := some uptoSmall }

/-- 'regattalaw09.FluidTells', WHERE WHAT IT READS IS OF BULK AT MOST 1048576: true; the input reads as it did. -/
def fluidTellsUptoRow : OpenClaim := { program := "ytnmiiebfpeoafaa", sum := "b2cffda5dbe34fefba9a103aab84972c1d9763283d14126886b6eb22c4e363dc", func := "regatta/regattalaw09.FluidTells", spec := "fluidTells", unfollowed := true, recurses := true, apart := false, narrowed := true }
def FluidTellsUptoSaid : Prop := fluidTellsUptoRow.holds Try.pinned (OpenSpec.upto fluidTellsSpec)

/-- 'regattalaw09.FluidBounds', WHERE WHAT IT READS IS OF BULK AT MOST 1048576: true; the input reads as it did. -/
def fluidBoundsUptoRow : OpenClaim := { program := "ytnmiiebfpeoafaa", sum := "b2cffda5dbe34fefba9a103aab84972c1d9763283d14126886b6eb22c4e363dc", func := "regatta/regattalaw09.FluidBounds", spec := "fluidBounds", unfollowed := true, recurses := true, apart := false, narrowed := true }
def FluidBoundsUptoSaid : Prop := fluidBoundsUptoRow.holds Try.pinned (OpenSpec.upto fluidBoundsSpec)

/-- 'regattalaw09.FluidWindows', WHERE WHAT IT READS IS OF BULK AT MOST 1048576: true; the input reads as it did. -/
def fluidWindowsUptoRow : OpenClaim := { program := "ytnmiiebfpeoafaa", sum := "b2cffda5dbe34fefba9a103aab84972c1d9763283d14126886b6eb22c4e363dc", func := "regatta/regattalaw09.FluidWindows", spec := "fluidWindows", unfollowed := true, recurses := true, apart := false, narrowed := true }
def FluidWindowsUptoSaid : Prop := fluidWindowsUptoRow.holds Try.pinned (OpenSpec.upto fluidWindowsSpec)

/-- 'regattalaw09.FluidFollows', WHERE WHAT IT READS IS OF BULK AT MOST 1048576: true; the input reads as it did. -/
def fluidFollowsUptoRow : OpenClaim := { program := "ytnmiiebfpeoafaa", sum := "b2cffda5dbe34fefba9a103aab84972c1d9763283d14126886b6eb22c4e363dc", func := "regatta/regattalaw09.FluidFollows", spec := "fluidFollows", unfollowed := true, recurses := true, apart := false, narrowed := true }
def FluidFollowsUptoSaid : Prop := fluidFollowsUptoRow.holds Try.pinned (OpenSpec.upto fluidFollowsSpec)

/-- 'regattalaw09.FluidDue', WHERE WHAT IT READS IS OF BULK AT MOST 1048576: true; the input reads as it did. -/
def fluidDueUptoRow : OpenClaim := { program := "ytnmiiebfpeoafaa", sum := "b2cffda5dbe34fefba9a103aab84972c1d9763283d14126886b6eb22c4e363dc", func := "regatta/regattalaw09.FluidDue", spec := "fluidDue", unfollowed := true, recurses := true, apart := false, narrowed := true }
def FluidDueUptoSaid : Prop := fluidDueUptoRow.holds Try.pinned (OpenSpec.upto fluidDueSpec)

/-- 'regattalaw09.FluidLag', WHERE WHAT IT READS IS OF BULK AT MOST 1048576: true; the input reads as it did. -/
def fluidLagUptoRow : OpenClaim := { program := "ytnmiiebfpeoafaa", sum := "b2cffda5dbe34fefba9a103aab84972c1d9763283d14126886b6eb22c4e363dc", func := "regatta/regattalaw09.FluidLag", spec := "fluidLag", unfollowed := true, recurses := true, apart := false, narrowed := true }
def FluidLagUptoSaid : Prop := fluidLagUptoRow.holds Try.pinned (OpenSpec.upto fluidLagSpec)

end Rows
end Go.Proofs.Ytnmiiebfpeoafaa
