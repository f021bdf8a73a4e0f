/-
  No cell of these rows narrows 'for every input' (looked for: loops, veiled, ifaces, maps, wideKeys, modest, calm, conditions, laid).
  DERIVED. THE GIVEN ROWS OF THIS SEAT. 6 by the template 'for every input the law returns true; each argument reads behind the call as it read before'; 0 by the template 'total and deterministic' (their statements: YtmalcnebejgajaaTotals.lean).
  GIVEN WITH THE SEED: the statements are not yours to turn. If you find one false, say at which input.
  Laid BY PROGRAM, IN A SANDBOX (cutbox-rows.mjs): the forced cells as the released guide's own fill.sh prints them over the translation 78d2c3cb03629785… (all of the seat's roots in one cut). By AI agents, Wed Nov 11 2026. No macro, syntax, notation, axiom, sorry.
-/
import Derived.Test.YtmalcnebejgajaaChecked
import GoSem.Claim
import GoSem.ClaimJoined
import GoSem.ClaimMapViews
import Derived.JoinedTies
import Derived.KernelRfl
namespace Go.Proofs.Ytmalcnebejgajaa
/- THE CELL 'sum', in the pinned program and in every row, IS THE sha256 OF THE DUMP (.gsa) THAT YtmalcnebejgajaaProg.lean LOADS. Nothing in Lean hashes anything: it is a label: what it is worth is what the hold of that sum in a sandbox is worth. -/
noncomputable def Try.pinned : Pinned := { name := "ytmalcnebejgajaa", sum := "78d2c3cb03629785e033feea15dc0b0b90d81518e0dc879c6535ac48c44bef21", checked := Try.checked }
namespace Rows
def none {H : Type} : Left H := { results := [], args := [] }

/-- 'regattalaw01.ExactSums': WHATEVER THE INPUT: true; the input reads as it did. -/
def exactSumsSpec : ChangeSpec := { name := "exactSums", fn := fun _ => fun
  | [d1, d2] => { results := [.lit (.bool true)], args := [d1, d2] }
  | _ => none }
def exactSumsRow : OpenClaim := { program := "ytmalcnebejgajaa", sum := "78d2c3cb03629785e033feea15dc0b0b90d81518e0dc879c6535ac48c44bef21", func := "regatta/regattalaw01.ExactSums", spec := "exactSums", apart := false }
def ExactSumsSaid : Prop := exactSumsRow.holds Try.pinned (OpenSpec.ofChange exactSumsSpec)

/-- ITS FALSE NEIGHBOUR: 'it returns false'. Refute it at one input. -/
def exactSumsWrong : ChangeSpec := { name := "exactSums", fn := fun _ => fun
  | [d1, d2] => { results := [.lit (.bool false)], args := [d1, d2] }
  | _ => none }
def ExactSumsWrongFalsely : Prop := exactSumsRow.holds Try.pinned (OpenSpec.ofChange exactSumsWrong)

/-- 'regattalaw01.ExactParts': WHATEVER THE INPUT: true; the input reads as it did. -/
def exactPartsSpec : ChangeSpec := { name := "exactParts", fn := fun _ => fun
  | [d1, d2, d3] => { results := [.lit (.bool true)], args := [d1, d2, d3] }
  | _ => none }
def exactPartsRow : OpenClaim := { program := "ytmalcnebejgajaa", sum := "78d2c3cb03629785e033feea15dc0b0b90d81518e0dc879c6535ac48c44bef21", func := "regatta/regattalaw01.ExactParts", spec := "exactParts", recurses := true, apart := false }
def ExactPartsSaid : Prop := exactPartsRow.holds Try.pinned (OpenSpec.ofChange exactPartsSpec)

/-- ITS FALSE NEIGHBOUR: 'it returns false'. Refute it at one input. -/
def exactPartsWrong : ChangeSpec := { name := "exactParts", fn := fun _ => fun
  | [d1, d2, d3] => { results := [.lit (.bool false)], args := [d1, d2, d3] }
  | _ => none }
def ExactPartsWrongFalsely : Prop := exactPartsRow.holds Try.pinned (OpenSpec.ofChange exactPartsWrong)

/-- 'regattalaw01.ExactBack': WHATEVER THE INPUT: true; the input reads as it did. -/
def exactBackSpec : ChangeSpec := { name := "exactBack", fn := fun _ => fun
  | [d1, d2] => { results := [.lit (.bool true)], args := [d1, d2] }
  | _ => none }
def exactBackRow : OpenClaim := { program := "ytmalcnebejgajaa", sum := "78d2c3cb03629785e033feea15dc0b0b90d81518e0dc879c6535ac48c44bef21", func := "regatta/regattalaw01.ExactBack", spec := "exactBack", apart := false }
def ExactBackSaid : Prop := exactBackRow.holds Try.pinned (OpenSpec.ofChange exactBackSpec)

/-- ITS FALSE NEIGHBOUR: 'it returns false'. Refute it at one input. -/
def exactBackWrong : ChangeSpec := { name := "exactBack", fn := fun _ => fun
  | [d1, d2] => { results := [.lit (.bool false)], args := [d1, d2] }
  | _ => none }
def ExactBackWrongFalsely : Prop := exactBackRow.holds Try.pinned (OpenSpec.ofChange exactBackWrong)

/-- 'regattalaw01.ExactBetween': WHATEVER THE INPUT: true; the input reads as it did. -/
def exactBetweenSpec : ChangeSpec := { name := "exactBetween", fn := fun _ => fun
  | [d1, d2] => { results := [.lit (.bool true)], args := [d1, d2] }
  | _ => none }
def exactBetweenRow : OpenClaim := { program := "ytmalcnebejgajaa", sum := "78d2c3cb03629785e033feea15dc0b0b90d81518e0dc879c6535ac48c44bef21", func := "regatta/regattalaw01.ExactBetween", spec := "exactBetween", apart := false }
def ExactBetweenSaid : Prop := exactBetweenRow.holds Try.pinned (OpenSpec.ofChange exactBetweenSpec)

/-- ITS FALSE NEIGHBOUR: 'it returns false'. Refute it at one input. -/
def exactBetweenWrong : ChangeSpec := { name := "exactBetween", fn := fun _ => fun
  | [d1, d2] => { results := [.lit (.bool false)], args := [d1, d2] }
  | _ => none }
def ExactBetweenWrongFalsely : Prop := exactBetweenRow.holds Try.pinned (OpenSpec.ofChange exactBetweenWrong)

/-- 'regattalaw01.ExactCommon': WHATEVER THE INPUT: true; the input reads as it did. -/
def exactCommonSpec : ChangeSpec := { name := "exactCommon", fn := fun _ => fun
  | [d1, d2] => { results := [.lit (.bool true)], args := [d1, d2] }
  | _ => none }
def exactCommonRow : OpenClaim := { program := "ytmalcnebejgajaa", sum := "78d2c3cb03629785e033feea15dc0b0b90d81518e0dc879c6535ac48c44bef21", func := "regatta/regattalaw01.ExactCommon", spec := "exactCommon", apart := false }
def ExactCommonSaid : Prop := exactCommonRow.holds Try.pinned (OpenSpec.ofChange exactCommonSpec)

/-- ITS FALSE NEIGHBOUR: 'it returns false'. Refute it at one input. -/
def exactCommonWrong : ChangeSpec := { name := "exactCommon", fn := fun _ => fun
  | [d1, d2] => { results := [.lit (.bool false)], args := [d1, d2] }
  | _ => none }
def ExactCommonWrongFalsely : Prop := exactCommonRow.holds Try.pinned (OpenSpec.ofChange exactCommonWrong)

/-- 'regattalaw01.ExactRow': WHATEVER THE INPUT: true; the input reads as it did. -/
def exactRowSpec : ChangeSpec := { name := "exactRow", fn := fun _ => fun
  | [d] => { results := [.lit (.bool true)], args := [d] }
  | _ => none }
def exactRowRow : OpenClaim := { program := "ytmalcnebejgajaa", sum := "78d2c3cb03629785e033feea15dc0b0b90d81518e0dc879c6535ac48c44bef21", func := "regatta/regattalaw01.ExactRow", spec := "exactRow", apart := false }
def ExactRowSaid : Prop := exactRowRow.holds Try.pinned (OpenSpec.ofChange exactRowSpec)

/-- ITS FALSE NEIGHBOUR: 'it returns false'. Refute it at one input. -/
def exactRowWrong : ChangeSpec := { name := "exactRow", fn := fun _ => fun
  | [d] => { results := [.lit (.bool false)], args := [d] }
  | _ => none }
def ExactRowWrongFalsely : Prop := exactRowRow.holds Try.pinned (OpenSpec.ofChange exactRowWrong)

/- THE SECOND FORM. 'bulk': how many values and letters a reading holds, each counted each time it is reached (what is shared counts as often as it is met; a slice's spare places count too). A statement '..UptoSaid' is the law's where the arguments, and the package variables that the reading takes, are together of bulk at most 1048576: NARROWER than '..Said'. Prove '..Said' where nothing that the law and all that it calls make is longer than what came in: it says more and counts as full. Else prove '..UptoSaid'. A law counts once. -/
mutual
def uptoBulk {H : Type} : DataW H → Nat
  | .lit (.string bytes) => bytes.length + 1
  | .lit _ => 1
  | .nil => 1
  | .ptr d => uptoBulk d + 1
  | .slice elems spare => uptoBulkAll elems + uptoBulkAll spare + 1
  | .agg parts => uptoBulkAll parts + 1
  | .iface _ d => uptoBulk d + 1
  | .map entries => uptoBulkEntries entries + 1
  | .held _ => 1
def uptoBulkAll {H : Type} : List (DataW H) → Nat
  | [] => 0
  | d :: r => uptoBulk d + uptoBulkAll r
def uptoBulkEntries {H : Type} : List (Lit × DataW H) → Nat
  | [] => 0
  | x :: r => uptoBulkEntry x + uptoBulkEntries r
def uptoBulkEntry {H : Type} : Lit × DataW H → Nat
  | (.string bytes, d) => bytes.length + uptoBulk d + 1
  | (_, d) => uptoBulk d + 1
 end
def uptoSmall : (H : Type) → List (DataW H) → Bool := fun _ ds => decide (uptoBulkAll ds ≤ 1048576)
def OpenSpec.upto (s : _root_.Go.ChangeSpec) : _root_.Go.OpenSpec := { _root_.Go.OpenSpec.ofChange s with cond := some uptoSmall }

/-- 'regattalaw01.ExactSums', WHERE WHAT IT READS IS OF BULK AT MOST 1048576: true; the input reads as it did. -/
def exactSumsUptoRow : OpenClaim := { program := "ytmalcnebejgajaa", sum := "78d2c3cb03629785e033feea15dc0b0b90d81518e0dc879c6535ac48c44bef21", func := "regatta/regattalaw01.ExactSums", spec := "exactSums", apart := false, narrowed := true }
def ExactSumsUptoSaid : Prop := exactSumsUptoRow.holds Try.pinned (OpenSpec.upto exactSumsSpec)

/-- 'regattalaw01.ExactParts', WHERE WHAT IT READS IS OF BULK AT MOST 1048576: true; the input reads as it did. -/
def exactPartsUptoRow : OpenClaim := { program := "ytmalcnebejgajaa", sum := "78d2c3cb03629785e033feea15dc0b0b90d81518e0dc879c6535ac48c44bef21", func := "regatta/regattalaw01.ExactParts", spec := "exactParts", recurses := true, apart := false, narrowed := true }
def ExactPartsUptoSaid : Prop := exactPartsUptoRow.holds Try.pinned (OpenSpec.upto exactPartsSpec)

/-- 'regattalaw01.ExactBack', WHERE WHAT IT READS IS OF BULK AT MOST 1048576: true; the input reads as it did. -/
def exactBackUptoRow : OpenClaim := { program := "ytmalcnebejgajaa", sum := "78d2c3cb03629785e033feea15dc0b0b90d81518e0dc879c6535ac48c44bef21", func := "regatta/regattalaw01.ExactBack", spec := "exactBack", apart := false, narrowed := true }
def ExactBackUptoSaid : Prop := exactBackUptoRow.holds Try.pinned (OpenSpec.upto exactBackSpec)

/-- 'regattalaw01.ExactBetween', WHERE WHAT IT READS IS OF BULK AT MOST 1048576: true; the input reads as it did. -/
def exactBetweenUptoRow : OpenClaim := { program := "ytmalcnebejgajaa", sum := "78d2c3cb03629785e033feea15dc0b0b90d81518e0dc879c6535ac48c44bef21", func := "regatta/regattalaw01.ExactBetween", spec := "exactBetween", apart := false, narrowed := true }
def ExactBetweenUptoSaid : Prop := exactBetweenUptoRow.holds Try.pinned (OpenSpec.upto exactBetweenSpec)

/-- 'regattalaw01.ExactCommon', WHERE WHAT IT READS IS OF BULK AT MOST 1048576: true; the input reads as it did. -/
def exactCommonUptoRow : OpenClaim := { program := "ytmalcnebejgajaa", sum := "78d2c3cb03629785e033feea15dc0b0b90d81518e0dc879c6535ac48c44bef21", func := "regatta/regattalaw01.ExactCommon", spec := "exactCommon", apart := false, narrowed := true }
def ExactCommonUptoSaid : Prop := exactCommonUptoRow.holds Try.pinned (OpenSpec.upto exactCommonSpec)

/-- 'regattalaw01.ExactRow', WHERE WHAT IT READS IS OF BULK AT MOST 1048576: true; the input reads as it did. -/
def exactRowUptoRow : OpenClaim := { program := "ytmalcnebejgajaa", sum := "78d2c3cb03629785e033feea15dc0b0b90d81518e0dc879c6535ac48c44bef21", func := "regatta/regattalaw01.ExactRow", spec := "exactRow", apart := false, narrowed := true }
def ExactRowUptoSaid : Prop := exactRowUptoRow.holds Try.pinned (OpenSpec.upto exactRowSpec)

end Rows
end Go.Proofs.Ytmalcnebejgajaa
