/-
  No cell of these rows narrows 'for every input' (looked for: loops, veiled, ifaces, maps, wideKeys, modest, calm, conditions, laid).
  DERIVED. THE GIVEN ROWS OF THIS SEAT. 5 by the template 'for every input the law returns true; each argument reads behind the call as it read before'; 0 by the template 'total and deterministic' (their statements: YtgfhlllddfdapaaTotals.lean).
  GIVEN WITH THE SEED: the statements are not yours to turn. If you find one false, say at which input.
  Laid BY PROGRAM, IN A SANDBOX (cutbox-rows.mjs): the forced cells as the released guide's own fill.sh prints them over the translation ccd3ba5da0fce368… (all of the seat's roots in one cut). By AI agents, Wed Nov 11 2026. No macro, syntax, notation, axiom, sorry.
-/
import Derived.Test.YtgfhlllddfdapaaChecked
import GoSem.Claim
import GoSem.ClaimJoined
import GoSem.ClaimMapViews
import Derived.JoinedTies
import Derived.KernelRfl
namespace Go.Proofs.Ytgfhlllddfdapaa
/- THE CELL 'sum', in the pinned program and in every row, IS THE sha256 OF THE DUMP (.gsa) THAT YtgfhlllddfdapaaProg.lean LOADS. Nothing in Lean hashes anything: it is a label: what it is worth is what the hold of that sum in a sandbox is worth. -/
noncomputable def Try.pinned : Pinned := { name := "ytgfhlllddfdapaa", sum := "ccd3ba5da0fce36820f2078638e48e3540415d338070ebddae0b32faf26a86d4", checked := Try.checked }
namespace Rows
def none {H : Type} : Left H := { results := [], args := [] }

/-- 'regattalaw04.WindowNext': WHATEVER THE INPUT: true; the input reads as it did. -/
def windowNextSpec : ChangeSpec := { name := "windowNext", fn := fun _ => fun
  | [d1, d2] => { results := [.lit (.bool true)], args := [d1, d2] }
  | _ => none }
def windowNextRow : OpenClaim := { program := "ytgfhlllddfdapaa", sum := "ccd3ba5da0fce36820f2078638e48e3540415d338070ebddae0b32faf26a86d4", func := "regatta/regattalaw04.WindowNext", spec := "windowNext", unfollowed := true, recurses := true, apart := false }
def WindowNextSaid : Prop := windowNextRow.holds Try.pinned (OpenSpec.ofChange windowNextSpec)

/-- ITS FALSE NEIGHBOUR: 'it returns false'. Refute it at one input. -/
def windowNextWrong : ChangeSpec := { name := "windowNext", fn := fun _ => fun
  | [d1, d2] => { results := [.lit (.bool false)], args := [d1, d2] }
  | _ => none }
def WindowNextWrongFalsely : Prop := windowNextRow.holds Try.pinned (OpenSpec.ofChange windowNextWrong)

/-- 'regattalaw04.WindowRound': WHATEVER THE INPUT: true; the input reads as it did. -/
def windowRoundSpec : ChangeSpec := { name := "windowRound", fn := fun _ => fun
  | [d1, d2] => { results := [.lit (.bool true)], args := [d1, d2] }
  | _ => none }
def windowRoundRow : OpenClaim := { program := "ytgfhlllddfdapaa", sum := "ccd3ba5da0fce36820f2078638e48e3540415d338070ebddae0b32faf26a86d4", func := "regatta/regattalaw04.WindowRound", spec := "windowRound", unfollowed := true, recurses := true, apart := false }
def WindowRoundSaid : Prop := windowRoundRow.holds Try.pinned (OpenSpec.ofChange windowRoundSpec)

/-- ITS FALSE NEIGHBOUR: 'it returns false'. Refute it at one input. -/
def windowRoundWrong : ChangeSpec := { name := "windowRound", fn := fun _ => fun
  | [d1, d2] => { results := [.lit (.bool false)], args := [d1, d2] }
  | _ => none }
def WindowRoundWrongFalsely : Prop := windowRoundRow.holds Try.pinned (OpenSpec.ofChange windowRoundWrong)

/-- 'regattalaw04.WindowLag': WHATEVER THE INPUT: true; the input reads as it did. -/
def windowLagSpec : ChangeSpec := { name := "windowLag", fn := fun _ => fun
  | [d1, d2] => { results := [.lit (.bool true)], args := [d1, d2] }
  | _ => none }
def windowLagRow : OpenClaim := { program := "ytgfhlllddfdapaa", sum := "ccd3ba5da0fce36820f2078638e48e3540415d338070ebddae0b32faf26a86d4", func := "regatta/regattalaw04.WindowLag", spec := "windowLag", unfollowed := true, recurses := true, apart := false }
def WindowLagSaid : Prop := windowLagRow.holds Try.pinned (OpenSpec.ofChange windowLagSpec)

/-- ITS FALSE NEIGHBOUR: 'it returns false'. Refute it at one input. -/
def windowLagWrong : ChangeSpec := { name := "windowLag", fn := fun _ => fun
  | [d1, d2] => { results := [.lit (.bool false)], args := [d1, d2] }
  | _ => none }
def WindowLagWrongFalsely : Prop := windowLagRow.holds Try.pinned (OpenSpec.ofChange windowLagWrong)

/-- 'regattalaw04.WindowGroups': WHATEVER THE INPUT: true; the input reads as it did. -/
def windowGroupsSpec : ChangeSpec := { name := "windowGroups", fn := fun _ => fun
  | [d1, d2] => { results := [.lit (.bool true)], args := [d1, d2] }
  | _ => none }
def windowGroupsRow : OpenClaim := { program := "ytgfhlllddfdapaa", sum := "ccd3ba5da0fce36820f2078638e48e3540415d338070ebddae0b32faf26a86d4", func := "regatta/regattalaw04.WindowGroups", spec := "windowGroups", unfollowed := true, recurses := true, apart := false }
def WindowGroupsSaid : Prop := windowGroupsRow.holds Try.pinned (OpenSpec.ofChange windowGroupsSpec)

/-- ITS FALSE NEIGHBOUR: 'it returns false'. Refute it at one input. -/
def windowGroupsWrong : ChangeSpec := { name := "windowGroups", fn := fun _ => fun
  | [d1, d2] => { results := [.lit (.bool false)], args := [d1, d2] }
  | _ => none }
def WindowGroupsWrongFalsely : Prop := windowGroupsRow.holds Try.pinned (OpenSpec.ofChange windowGroupsWrong)

/-- 'regattalaw04.WindowShort': WHATEVER THE INPUT: true; the input reads as it did. -/
def windowShortSpec : ChangeSpec := { name := "windowShort", fn := fun _ => fun
  | [d1, d2] => { results := [.lit (.bool true)], args := [d1, d2] }
  | _ => none }
def windowShortRow : OpenClaim := { program := "ytgfhlllddfdapaa", sum := "ccd3ba5da0fce36820f2078638e48e3540415d338070ebddae0b32faf26a86d4", func := "regatta/regattalaw04.WindowShort", spec := "windowShort", unfollowed := true, recurses := true, apart := false }
def WindowShortSaid : Prop := windowShortRow.holds Try.pinned (OpenSpec.ofChange windowShortSpec)

/-- ITS FALSE NEIGHBOUR: 'it returns false'. Refute it at one input. -/
def windowShortWrong : ChangeSpec := { name := "windowShort", fn := fun _ => fun
  | [d1, d2] => { results := [.lit (.bool false)], args := [d1, d2] }
  | _ => none }
def WindowShortWrongFalsely : Prop := windowShortRow.holds Try.pinned (OpenSpec.ofChange windowShortWrong)

/- THE SECOND FORM. 'bulk': how many values and letters a reading holds, each counted each time it is reached (what is shared counts as often as it is met; a slice's spare places count too). A statement '..UptoSaid' is the law's where the arguments, and the package variables that the reading takes, are together of bulk at most 1048576: NARROWER than '..Said'. Prove '..Said' where nothing that the law and all that it calls make is longer than what came in: it says more and counts as full. Else prove '..UptoSaid'. A law counts once. -/
mutual
def uptoBulk {H : Type} : DataW H → Nat
  | .lit (.string bytes) => bytes.length + 1
  | .lit _ => 1
  | .nil => 1
  | .ptr d => uptoBulk d + 1
  | .slice elems spare => uptoBulkAll elems + uptoBulkAll spare + 1
  | .agg parts => uptoBulkAll parts + 1
  | .iface _ d => uptoBulk d + 1
  | .map entries => uptoBulkEntries entries + 1
  | .held _ => 1
def uptoBulkAll {H : Type} : List (DataW H) → Nat
  | [] => 0
  | d :: r => uptoBulk d + uptoBulkAll r
def uptoBulkEntries {H : Type} : List (Lit × DataW H) → Nat
  | [] => 0
  | x :: r => uptoBulkEntry x + uptoBulkEntries r
def uptoBulkEntry {H : Type} : Lit × DataW H → Nat
  | (.string bytes, d) => bytes.length + uptoBulk d + 1
  | (_, d) => uptoBulk d + 1
 end
def uptoSmall : (H : Type) → List (DataW H) → Bool := fun _ ds => decide (uptoBulkAll ds ≤ 1048576)
def OpenSpec.upto (s : _root_.Go.ChangeSpec) : _root_.Go.OpenSpec := { _root_.Go.OpenSpec.ofChange s with cond := some uptoSmall }

/-- 'regattalaw04.WindowNext', WHERE WHAT IT READS IS OF BULK AT MOST 1048576: true; the input reads as it did. -/
def windowNextUptoRow : OpenClaim := { program := "ytgfhlllddfdapaa", sum := "ccd3ba5da0fce36820f2078638e48e3540415d338070ebddae0b32faf26a86d4", func := "regatta/regattalaw04.WindowNext", spec := "windowNext", unfollowed := true, recurses := true, apart := false, narrowed := true }
def WindowNextUptoSaid : Prop := windowNextUptoRow.holds Try.pinned (OpenSpec.upto windowNextSpec)

/-- 'regattalaw04.WindowRound', WHERE WHAT IT READS IS OF BULK AT MOST 1048576: true; the input reads as it did. -/
def windowRoundUptoRow : OpenClaim := { program := "ytgfhlllddfdapaa", sum := "ccd3ba5da0fce36820f2078638e48e3540415d338070ebddae0b32faf26a86d4", func := "regatta/regattalaw04.WindowRound", spec := "windowRound", unfollowed := true, recurses := true, apart := false, narrowed := true }
def WindowRoundUptoSaid : Prop := windowRoundUptoRow.holds Try.pinned (OpenSpec.upto windowRoundSpec)

/-- 'regattalaw04.WindowLag', WHERE WHAT IT READS IS OF BULK AT MOST 1048576: true; the input reads as it did. -/
def windowLagUptoRow : OpenClaim := { program := "ytgfhlllddfdapaa", sum := "ccd3ba5da0fce36820f2078638e48e3540415d338070ebddae0b32faf26a86d4", func := "regatta/regattalaw04.WindowLag", spec := "windowLag", unfollowed := true, recurses := true, apart := false, narrowed := true }
def WindowLagUptoSaid : Prop := windowLagUptoRow.holds Try.pinned (OpenSpec.upto windowLagSpec)

/-- 'regattalaw04.WindowGroups', WHERE WHAT IT READS IS OF BULK AT MOST 1048576: true; the input reads as it did. -/
def windowGroupsUptoRow : OpenClaim := { program := "ytgfhlllddfdapaa", sum := "ccd3ba5da0fce36820f2078638e48e3540415d338070ebddae0b32faf26a86d4", func := "regatta/regattalaw04.WindowGroups", spec := "windowGroups", unfollowed := true, recurses := true, apart := false, narrowed := true }
def WindowGroupsUptoSaid : Prop := windowGroupsUptoRow.holds Try.pinned (OpenSpec.upto windowGroupsSpec)

/-- 'regattalaw04.WindowShort', WHERE WHAT IT READS IS OF BULK AT MOST 1048576: true; the input reads as it did. -/
def windowShortUptoRow : OpenClaim := { program := "ytgfhlllddfdapaa", sum := "ccd3ba5da0fce36820f2078638e48e3540415d338070ebddae0b32faf26a86d4", func := "regatta/regattalaw04.WindowShort", spec := "windowShort", unfollowed := true, recurses := true, apart := false, narrowed := true }
def WindowShortUptoSaid : Prop := windowShortUptoRow.holds Try.pinned (OpenSpec.upto windowShortSpec)

end Rows
end Go.Proofs.Ytgfhlllddfdapaa
