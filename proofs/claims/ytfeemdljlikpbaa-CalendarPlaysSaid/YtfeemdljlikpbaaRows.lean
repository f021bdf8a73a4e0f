/-
  No cell of these rows narrows 'for every input' (looked for: loops, veiled, ifaces, maps, wideKeys, modest, calm, conditions, laid).
  DERIVED. THE GIVEN ROWS OF THIS SEAT. 5 by the template 'for every input the law returns true; each argument reads behind the call as it read before'; 0 by the template 'total and deterministic' (their statements: YtfeemdljlikpbaaTotals.lean).
  GIVEN WITH THE SEED: the statements are not yours to turn. If you find one false, say at which input.
  Laid BY PROGRAM, IN A SANDBOX (cutbox-rows.mjs): the forced cells as the released guide's own fill.sh prints them over the translation 997ff186a62e250d… (all of the seat's roots in one cut). By AI agents, Wed Nov 11 2026. No macro, syntax, notation, axiom, sorry.
-/
import Derived.Test.YtfeemdljlikpbaaChecked
import GoSem.Claim
import GoSem.ClaimJoined
import GoSem.ClaimMapViews
import Derived.JoinedTies
import Derived.KernelRfl
namespace Go.Proofs.Ytfeemdljlikpbaa
/- THE CELL 'sum', in the pinned program and in every row, IS THE sha256 OF THE DUMP (.gsa) THAT YtfeemdljlikpbaaProg.lean LOADS. Nothing in Lean hashes anything: it is a label: what it is worth is what the hold of that sum in a sandbox is worth. -/
noncomputable def Try.pinned : Pinned := { name := "ytfeemdljlikpbaa", sum := "997ff186a62e250d857aa1587c8237d004e7a8d70c37bf7434dec4da11a78e7c", checked := Try.checked }
namespace Rows
def none {H : Type} : Left H := { results := [], args := [] }

/-- 'regattalaw08.CalendarPlays': WHATEVER THE INPUT: true; the input reads as it did. -/
def calendarPlaysSpec : ChangeSpec := { name := "calendarPlays", fn := fun _ => fun
  | [d] => { results := [.lit (.bool true)], args := [d] }
  | _ => none }
def calendarPlaysRow : OpenClaim := { program := "ytfeemdljlikpbaa", sum := "997ff186a62e250d857aa1587c8237d004e7a8d70c37bf7434dec4da11a78e7c", func := "regatta/regattalaw08.CalendarPlays", spec := "calendarPlays", unfollowed := true, recurses := true, apart := false }
def CalendarPlaysSaid : Prop := calendarPlaysRow.holds Try.pinned (OpenSpec.ofChange calendarPlaysSpec)

/-- ITS FALSE NEIGHBOUR: 'it returns false'. Refute it at one input. -/
def calendarPlaysWrong : ChangeSpec := { name := "calendarPlays", fn := fun _ => fun
  | [d] => { results := [.lit (.bool false)], args := [d] }
  | _ => none }
def CalendarPlaysWrongFalsely : Prop := calendarPlaysRow.holds Try.pinned (OpenSpec.ofChange calendarPlaysWrong)

/-- 'regattalaw08.CalendarDue': WHATEVER THE INPUT: true; the input reads as it did. -/
def calendarDueSpec : ChangeSpec := { name := "calendarDue", fn := fun _ => fun
  | [d1, d2] => { results := [.lit (.bool true)], args := [d1, d2] }
  | _ => none }
def calendarDueRow : OpenClaim := { program := "ytfeemdljlikpbaa", sum := "997ff186a62e250d857aa1587c8237d004e7a8d70c37bf7434dec4da11a78e7c", func := "regatta/regattalaw08.CalendarDue", spec := "calendarDue", unfollowed := true, recurses := true, apart := false }
def CalendarDueSaid : Prop := calendarDueRow.holds Try.pinned (OpenSpec.ofChange calendarDueSpec)

/-- ITS FALSE NEIGHBOUR: 'it returns false'. Refute it at one input. -/
def calendarDueWrong : ChangeSpec := { name := "calendarDue", fn := fun _ => fun
  | [d1, d2] => { results := [.lit (.bool false)], args := [d1, d2] }
  | _ => none }
def CalendarDueWrongFalsely : Prop := calendarDueRow.holds Try.pinned (OpenSpec.ofChange calendarDueWrong)

/-- 'regattalaw08.CalendarDrop': WHATEVER THE INPUT: true; the input reads as it did. -/
def calendarDropSpec : ChangeSpec := { name := "calendarDrop", fn := fun _ => fun
  | [d1, d2] => { results := [.lit (.bool true)], args := [d1, d2] }
  | _ => none }
def calendarDropRow : OpenClaim := { program := "ytfeemdljlikpbaa", sum := "997ff186a62e250d857aa1587c8237d004e7a8d70c37bf7434dec4da11a78e7c", func := "regatta/regattalaw08.CalendarDrop", spec := "calendarDrop", unfollowed := true, recurses := true, apart := false }
def CalendarDropSaid : Prop := calendarDropRow.holds Try.pinned (OpenSpec.ofChange calendarDropSpec)

/-- ITS FALSE NEIGHBOUR: 'it returns false'. Refute it at one input. -/
def calendarDropWrong : ChangeSpec := { name := "calendarDrop", fn := fun _ => fun
  | [d1, d2] => { results := [.lit (.bool false)], args := [d1, d2] }
  | _ => none }
def CalendarDropWrongFalsely : Prop := calendarDropRow.holds Try.pinned (OpenSpec.ofChange calendarDropWrong)

/-- 'regattalaw08.CalendarNil': WHATEVER THE INPUT: true; the input reads as it did. -/
def calendarNilSpec : ChangeSpec := { name := "calendarNil", fn := fun _ => fun
  | [d] => { results := [.lit (.bool true)], args := [d] }
  | _ => none }
def calendarNilRow : OpenClaim := { program := "ytfeemdljlikpbaa", sum := "997ff186a62e250d857aa1587c8237d004e7a8d70c37bf7434dec4da11a78e7c", func := "regatta/regattalaw08.CalendarNil", spec := "calendarNil", unfollowed := true, recurses := true, apart := false }
def CalendarNilSaid : Prop := calendarNilRow.holds Try.pinned (OpenSpec.ofChange calendarNilSpec)

/-- ITS FALSE NEIGHBOUR: 'it returns false'. Refute it at one input. -/
def calendarNilWrong : ChangeSpec := { name := "calendarNil", fn := fun _ => fun
  | [d] => { results := [.lit (.bool false)], args := [d] }
  | _ => none }
def CalendarNilWrongFalsely : Prop := calendarNilRow.holds Try.pinned (OpenSpec.ofChange calendarNilWrong)

/-- 'regattalaw08.CalendarNext': WHATEVER THE INPUT: true; the input reads as it did. -/
def calendarNextSpec : ChangeSpec := { name := "calendarNext", fn := fun _ => fun
  | [d] => { results := [.lit (.bool true)], args := [d] }
  | _ => none }
def calendarNextRow : OpenClaim := { program := "ytfeemdljlikpbaa", sum := "997ff186a62e250d857aa1587c8237d004e7a8d70c37bf7434dec4da11a78e7c", func := "regatta/regattalaw08.CalendarNext", spec := "calendarNext", unfollowed := true, recurses := true, apart := false }
def CalendarNextSaid : Prop := calendarNextRow.holds Try.pinned (OpenSpec.ofChange calendarNextSpec)

/-- ITS FALSE NEIGHBOUR: 'it returns false'. Refute it at one input. -/
def calendarNextWrong : ChangeSpec := { name := "calendarNext", fn := fun _ => fun
  | [d] => { results := [.lit (.bool false)], args := [d] }
  | _ => none }
def CalendarNextWrongFalsely : Prop := calendarNextRow.holds Try.pinned (OpenSpec.ofChange calendarNextWrong)

/- THE SECOND FORM. 'bulk': how many values and letters a reading holds, each counted each time it is reached (what is shared counts as often as it is met; a slice's spare places count too). A statement '..UptoSaid' is the law's where the arguments, and the package variables that the reading takes, are together of bulk at most 1048576: NARROWER than '..Said'. Prove '..Said' where nothing that the law and all that it calls make is longer than what came in: it says more and counts as full. Else prove '..UptoSaid'. A law counts once. -/
mutual
def uptoBulk {H : Type} : DataW H → Nat
  | .lit (.string bytes) => bytes.length + 1
  | .lit _ => 1
  | .nil => 1
  | .ptr d => uptoBulk d + 1
  | .slice elems spare => uptoBulkAll elems + uptoBulkAll spare + 1
  | .agg parts => uptoBulkAll parts + 1
  | .iface _ d => uptoBulk d + 1
  | .map entries => uptoBulkEntries entries + 1
  | .held _ => 1
def uptoBulkAll {H : Type} : List (DataW H) → Nat
  | [] => 0
  | d :: r => uptoBulk d + uptoBulkAll r
def uptoBulkEntries {H : Type} : List (Lit × DataW H) → Nat
  | [] => 0
  | x :: r => uptoBulkEntry x + uptoBulkEntries r
def uptoBulkEntry {H : Type} : Lit × DataW H → Nat
  | (.string bytes, d) => bytes.length + uptoBulk d + 1
  | (_, d) => uptoBulk d + 1
 end
def uptoSmall : (H : Type) → List (DataW H) → Bool := fun _ ds => decide (uptoBulkAll ds ≤ 1048576)
def OpenSpec.upto (s : _root_.Go.ChangeSpec) : _root_.Go.OpenSpec := { _root_.Go.OpenSpec.ofChange s with cond := some uptoSmall }

/-- 'regattalaw08.CalendarPlays', WHERE WHAT IT READS IS OF BULK AT MOST 1048576: true; the input reads as it did. -/
def calendarPlaysUptoRow : OpenClaim := { program := "ytfeemdljlikpbaa", sum := "997ff186a62e250d857aa1587c8237d004e7a8d70c37bf7434dec4da11a78e7c", func := "regatta/regattalaw08.CalendarPlays", spec := "calendarPlays", unfollowed := true, recurses := true, apart := false, narrowed := true }
def CalendarPlaysUptoSaid : Prop := calendarPlaysUptoRow.holds Try.pinned (OpenSpec.upto calendarPlaysSpec)

/-- 'regattalaw08.CalendarDue', WHERE WHAT IT READS IS OF BULK AT MOST 1048576: true; the input reads as it did. -/
def calendarDueUptoRow : OpenClaim := { program := "ytfeemdljlikpbaa", sum := "997ff186a62e250d857aa1587c8237d004e7a8d70c37bf7434dec4da11a78e7c", func := "regatta/regattalaw08.CalendarDue", spec := "calendarDue", unfollowed := true, recurses := true, apart := false, narrowed := true }
def CalendarDueUptoSaid : Prop := calendarDueUptoRow.holds Try.pinned (OpenSpec.upto calendarDueSpec)

/-- 'regattalaw08.CalendarDrop', WHERE WHAT IT READS IS OF BULK AT MOST 1048576: true; the input reads as it did. -/
def calendarDropUptoRow : OpenClaim := { program := "ytfeemdljlikpbaa", sum := "997ff186a62e250d857aa1587c8237d004e7a8d70c37bf7434dec4da11a78e7c", func := "regatta/regattalaw08.CalendarDrop", spec := "calendarDrop", unfollowed := true, recurses := true, apart := false, narrowed := true }
def CalendarDropUptoSaid : Prop := calendarDropUptoRow.holds Try.pinned (OpenSpec.upto calendarDropSpec)

/-- 'regattalaw08.CalendarNil', WHERE WHAT IT READS IS OF BULK AT MOST 1048576: true; the input reads as it did. -/
def calendarNilUptoRow : OpenClaim := { program := "ytfeemdljlikpbaa", sum := "997ff186a62e250d857aa1587c8237d004e7a8d70c37bf7434dec4da11a78e7c", func := "regatta/regattalaw08.CalendarNil", spec := "calendarNil", unfollowed := true, recurses := true, apart := false, narrowed := true }
def CalendarNilUptoSaid : Prop := calendarNilUptoRow.holds Try.pinned (OpenSpec.upto calendarNilSpec)

/-- 'regattalaw08.CalendarNext', WHERE WHAT IT READS IS OF BULK AT MOST 1048576: true; the input reads as it did. -/
def calendarNextUptoRow : OpenClaim := { program := "ytfeemdljlikpbaa", sum := "997ff186a62e250d857aa1587c8237d004e7a8d70c37bf7434dec4da11a78e7c", func := "regatta/regattalaw08.CalendarNext", spec := "calendarNext", unfollowed := true, recurses := true, apart := false, narrowed := true }
def CalendarNextUptoSaid : Prop := calendarNextUptoRow.holds Try.pinned (OpenSpec.upto calendarNextSpec)

end Rows
end Go.Proofs.Ytfeemdljlikpbaa
