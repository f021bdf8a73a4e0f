/-
  No cell of these rows narrows 'for every input' (looked for: loops, veiled, ifaces, maps, wideKeys, modest, calm, conditions, laid).
  DERIVED. THE GIVEN ROWS OF THIS SEAT. 4 by the template 'for every input the law returns true; each argument reads behind the call as it read before'; 0 by the template 'total and deterministic' (their statements: YtgkmhnkndjfcaaaTotals.lean).
  GIVEN WITH THE SEED: the statements are not yours to turn. If you find one false, say at which input.
  Laid BY PROGRAM, IN A SANDBOX (cutbox-rows.mjs): the forced cells as the released guide's own fill.sh prints them over the translation f2cda5d5a73be309… (all of the seat's roots in one cut). By AI agents, Wed Nov 11 2026. No macro, syntax, notation, axiom, sorry.
-/
import Derived.Test.YtgkmhnkndjfcaaaChecked
import GoSem.Claim
import GoSem.ClaimJoined
import GoSem.ClaimMapViews
import Derived.JoinedTies
import Derived.KernelRfl
namespace Go.Proofs.Ytgkmhnkndjfcaaa
/- THE CELL 'sum', in the pinned program and in every row, IS THE sha256 OF THE DUMP (.gsa) THAT YtgkmhnkndjfcaaaProg.lean LOADS. Nothing in Lean hashes anything: it is a label: what it is worth is what the hold of that sum in a sandbox is worth. -/
noncomputable def Try.pinned : Pinned := { name := "ytgkmhnkndjfcaaa", sum := "f2cda5d5a73be3095887202774fd2fc516f24acc7ca3c1742edc615d3c224a23", checked := Try.checked }
namespace Rows
def none {H : Type} : Left H := { results := [], args := [] }

/-- 'regattalaw17.SeatsPlay': WHATEVER THE INPUT: true; the input reads as it did. -/
def seatsPlaySpec : ChangeSpec := { name := "seatsPlay", fn := fun _ => fun
  | [d1, d2] => { results := [.lit (.bool true)], args := [d1, d2] }
  | _ => none }
def seatsPlayRow : OpenClaim := { program := "ytgkmhnkndjfcaaa", sum := "f2cda5d5a73be3095887202774fd2fc516f24acc7ca3c1742edc615d3c224a23", func := "regatta/regattalaw17.SeatsPlay", spec := "seatsPlay", apart := false }
def SeatsPlaySaid : Prop := seatsPlayRow.holds Try.pinned (OpenSpec.ofChange seatsPlaySpec)

/-- ITS FALSE NEIGHBOUR: 'it returns false'. Refute it at one input. -/
def seatsPlayWrong : ChangeSpec := { name := "seatsPlay", fn := fun _ => fun
  | [d1, d2] => { results := [.lit (.bool false)], args := [d1, d2] }
  | _ => none }
def SeatsPlayWrongFalsely : Prop := seatsPlayRow.holds Try.pinned (OpenSpec.ofChange seatsPlayWrong)

/-- 'regattalaw17.SeatsOnce': WHATEVER THE INPUT: true; the input reads as it did. -/
def seatsOnceSpec : ChangeSpec := { name := "seatsOnce", fn := fun _ => fun
  | [d1, d2] => { results := [.lit (.bool true)], args := [d1, d2] }
  | _ => none }
def seatsOnceRow : OpenClaim := { program := "ytgkmhnkndjfcaaa", sum := "f2cda5d5a73be3095887202774fd2fc516f24acc7ca3c1742edc615d3c224a23", func := "regatta/regattalaw17.SeatsOnce", spec := "seatsOnce", apart := false }
def SeatsOnceSaid : Prop := seatsOnceRow.holds Try.pinned (OpenSpec.ofChange seatsOnceSpec)

/-- ITS FALSE NEIGHBOUR: 'it returns false'. Refute it at one input. -/
def seatsOnceWrong : ChangeSpec := { name := "seatsOnce", fn := fun _ => fun
  | [d1, d2] => { results := [.lit (.bool false)], args := [d1, d2] }
  | _ => none }
def SeatsOnceWrongFalsely : Prop := seatsOnceRow.holds Try.pinned (OpenSpec.ofChange seatsOnceWrong)

/-- 'regattalaw17.SeatsTurn': WHATEVER THE INPUT: true; the input reads as it did. -/
def seatsTurnSpec : ChangeSpec := { name := "seatsTurn", fn := fun _ => fun
  | [d1, d2] => { results := [.lit (.bool true)], args := [d1, d2] }
  | _ => none }
def seatsTurnRow : OpenClaim := { program := "ytgkmhnkndjfcaaa", sum := "f2cda5d5a73be3095887202774fd2fc516f24acc7ca3c1742edc615d3c224a23", func := "regatta/regattalaw17.SeatsTurn", spec := "seatsTurn", apart := false }
def SeatsTurnSaid : Prop := seatsTurnRow.holds Try.pinned (OpenSpec.ofChange seatsTurnSpec)

/-- ITS FALSE NEIGHBOUR: 'it returns false'. Refute it at one input. -/
def seatsTurnWrong : ChangeSpec := { name := "seatsTurn", fn := fun _ => fun
  | [d1, d2] => { results := [.lit (.bool false)], args := [d1, d2] }
  | _ => none }
def SeatsTurnWrongFalsely : Prop := seatsTurnRow.holds Try.pinned (OpenSpec.ofChange seatsTurnWrong)

/-- 'regattalaw17.SeatsNil': WHATEVER THE INPUT: true; the input reads as it did. -/
def seatsNilSpec : ChangeSpec := { name := "seatsNil", fn := fun _ => fun
  | [d] => { results := [.lit (.bool true)], args := [d] }
  | _ => none }
def seatsNilRow : OpenClaim := { program := "ytgkmhnkndjfcaaa", sum := "f2cda5d5a73be3095887202774fd2fc516f24acc7ca3c1742edc615d3c224a23", func := "regatta/regattalaw17.SeatsNil", spec := "seatsNil", apart := false }
def SeatsNilSaid : Prop := seatsNilRow.holds Try.pinned (OpenSpec.ofChange seatsNilSpec)

/-- ITS FALSE NEIGHBOUR: 'it returns false'. Refute it at one input. -/
def seatsNilWrong : ChangeSpec := { name := "seatsNil", fn := fun _ => fun
  | [d] => { results := [.lit (.bool false)], args := [d] }
  | _ => none }
def SeatsNilWrongFalsely : Prop := seatsNilRow.holds Try.pinned (OpenSpec.ofChange seatsNilWrong)

/- THE SECOND FORM. 'bulk': how many values and letters a reading holds, each counted each time it is reached (what is shared counts as often as it is met; a slice's spare places count too). A statement '..UptoSaid' is the law's where the arguments, and the package variables that the reading takes, are together of bulk at most 1048576: NARROWER than '..Said'. Prove '..Said' where nothing that the law and all that it calls make is longer than what came in: it says more and counts as full. Else prove '..UptoSaid'. A law counts once. -/
mutual
def uptoBulk {H : Type} : DataW H → Nat
  | .lit (.string bytes) => bytes.length + 1
  | .lit _ => 1
  | .nil => 1
  | .ptr d => uptoBulk d + 1
  | .slice elems spare => uptoBulkAll elems + uptoBulkAll spare + 1
  | .agg parts => uptoBulkAll parts + 1
  | .iface _ d => uptoBulk d + 1
  | .map entries => uptoBulkEntries entries + 1
  | .held _ => 1
def uptoBulkAll {H : Type} : List (DataW H) → Nat
  | [] => 0
  | d :: r => uptoBulk d + uptoBulkAll r
def uptoBulkEntries {H : Type} : List (Lit × DataW H) → Nat
  | [] => 0
  | x :: r => uptoBulkEntry x + uptoBulkEntries r
def uptoBulkEntry {H : Type} : Lit × DataW H → Nat
  | (.string bytes, d) => bytes.length + uptoBulk d + 1
  | (_, d) => uptoBulk d + 1
 end
def uptoSmall : (H : Type) → List (DataW H) → Bool := fun _ ds => decide (uptoBulkAll ds ≤ 1048576)
def OpenSpec.upto (s : _root_.Go.ChangeSpec) : _root_.Go.OpenSpec := { _root_.Go.OpenSpec.ofChange s with cond := some uptoSmall }

/-- 'regattalaw17.SeatsPlay', WHERE WHAT IT READS IS OF BULK AT MOST 1048576: true; the input reads as it did. -/
def seatsPlayUptoRow : OpenClaim := { program := "ytgkmhnkndjfcaaa", sum := "f2cda5d5a73be3095887202774fd2fc516f24acc7ca3c1742edc615d3c224a23", func := "regatta/regattalaw17.SeatsPlay", spec := "seatsPlay", apart := false, narrowed := true }
def SeatsPlayUptoSaid : Prop := seatsPlayUptoRow.holds Try.pinned (OpenSpec.upto seatsPlaySpec)

/-- 'regattalaw17.SeatsOnce', WHERE WHAT IT READS IS OF BULK AT MOST 1048576: true; the input reads as it did. -/
def seatsOnceUptoRow : OpenClaim := { program := "ytgkmhnkndjfcaaa", sum := "f2cda5d5a73be3095887202774fd2fc516f24acc7ca3c1742edc615d3c224a23", func := "regatta/regattalaw17.SeatsOnce", spec := "seatsOnce", apart := false, narrowed := true }
def SeatsOnceUptoSaid : Prop := seatsOnceUptoRow.holds Try.pinned (OpenSpec.upto seatsOnceSpec)

/-- 'regattalaw17.SeatsTurn', WHERE WHAT IT READS IS OF BULK AT MOST 1048576: true; the input reads as it did. -/
def seatsTurnUptoRow : OpenClaim := { program := "ytgkmhnkndjfcaaa", sum := "f2cda5d5a73be3095887202774fd2fc516f24acc7ca3c1742edc615d3c224a23", func := "regatta/regattalaw17.SeatsTurn", spec := "seatsTurn", apart := false, narrowed := true }
def SeatsTurnUptoSaid : Prop := seatsTurnUptoRow.holds Try.pinned (OpenSpec.upto seatsTurnSpec)

/-- 'regattalaw17.SeatsNil', WHERE WHAT IT READS IS OF BULK AT MOST 1048576: true; the input reads as it did. -/
def seatsNilUptoRow : OpenClaim := { program := "ytgkmhnkndjfcaaa", sum := "f2cda5d5a73be3095887202774fd2fc516f24acc7ca3c1742edc615d3c224a23", func := "regatta/regattalaw17.SeatsNil", spec := "seatsNil", apart := false, narrowed := true }
def SeatsNilUptoSaid : Prop := seatsNilUptoRow.holds Try.pinned (OpenSpec.upto seatsNilSpec)

end Rows
end Go.Proofs.Ytgkmhnkndjfcaaa
