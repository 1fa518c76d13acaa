/-
  NARROWER THAN 'FOR EVERY INPUT', by the rows' own cells (each row's printed sentence says how): Passed: laid · Formatted: laid.
  DERIVED. THE GIVEN ROWS OF THIS SEAT. 2 by the template 'for every input the law returns true; each argument reads behind the call as it read before'; 0 by the template 'total and deterministic' (their statements: YtmnajomkfnkmeaaDoorTotals.lean).
  GIVEN WITH THE SEED: the statements are not yours to turn. If you find one false, say at which input.
  Laid BY PROGRAM, IN A SANDBOX (cutbox-rows.mjs): the forced cells as the released guide's own fill.sh prints them over the translation e500cf082b543c86… (all of the seat's roots in one cut). By AI agents, Wed Nov 11 2026. No macro, syntax, notation, axiom, sorry.
-/
import Derived.Test.YtmnajomkfnkmeaaDoorChecked
import GoSem.Claim
import GoSem.ClaimJoined
import GoSem.ClaimMapViews
import Derived.JoinedTies
import Derived.KernelRfl
namespace Go.Proofs.YtmnajomkfnkmeaaDoor
/- THE CELL 'sum', in the pinned program and in every row, IS THE sha256 OF THE DUMP (.gsa) THAT YtmnajomkfnkmeaaDoorProg.lean LOADS. Nothing in Lean hashes anything: it is a label: what it is worth is what the hold of that sum in a sandbox is worth. -/
noncomputable def Tryd.pinned : Pinned := { name := "ytmnajomkfnkmeaadoor", sum := "e500cf082b543c86c9d9743a67b6ab7119aaf8985bee22f255d2042dfaaa2999", checked := Tryd.checked }
namespace Rows
def none {H : Type} : Left H := { results := [], args := [] }

/- WHAT THE LISTED PACKAGE-LEVEL VARIABLES READ AS WHEN THE CALL BEGINS. Each datum BY PROGRAM (the guide's laid-datum.mjs) off the statement by which the dump's own 'gosem.cut.vars' lays the variable. In a bare row this is a premise. The card (YtmnajomkfnkmeaaDoorCards.lean) ties it to the program's text. -/
def laid_doorkeeper_passes_ErrNumber {H : Type} : DataW H := .iface "*errors.errorString" (.ptr (.agg [.lit (.string [112, 97, 115, 115, 101, 115, 58, 32, 97, 32, 115, 101, 115, 115, 105, 111, 110, 39, 115, 32, 110, 117, 109, 98, 101, 114, 32, 105, 115, 32, 110, 111, 116, 32, 48, 32, 116, 111, 32, 52, 48, 57, 53])]))
def laid_doorkeeper_passes_digits {H : Type} : DataW H := .agg [.lit (.int .u8 48), .lit (.int .u8 49), .lit (.int .u8 50), .lit (.int .u8 51), .lit (.int .u8 52), .lit (.int .u8 53), .lit (.int .u8 54), .lit (.int .u8 55), .lit (.int .u8 56), .lit (.int .u8 57), .lit (.int .u8 97), .lit (.int .u8 98), .lit (.int .u8 99), .lit (.int .u8 100), .lit (.int .u8 101), .lit (.int .u8 102)]
def laid_doorkeeper_layout_ErrSize {H : Type} : DataW H := .iface "*errors.errorString" (.ptr (.agg [.lit (.string [108, 97, 121, 111, 117, 116, 58, 32, 97, 32, 100, 105, 115, 107, 32, 104, 97, 115, 32, 110, 111, 116, 32, 49, 50, 32, 116, 111, 32, 50, 48, 48, 32, 115, 101, 99, 116, 111, 114, 115])]))

/-- 'doorkeeperlaw.Passed': WHATEVER THE INPUT: true; the input reads as it did. -/
def passedSpec : ChangeSpec := { name := "passed", fn := fun _ => fun
  | [d1, d2] => { results := [.lit (.bool true)], args := [d1, d2] }
  | _ => none }
def passedRow : OpenClaim := { program := "ytmnajomkfnkmeaadoor", sum := "e500cf082b543c86c9d9743a67b6ab7119aaf8985bee22f255d2042dfaaa2999", func := "doorkeeper/doorkeeperlaw.Passed", spec := "passed", named := ["doorkeeper/passes.ErrNumber", "doorkeeper/passes.digits"], apart := false, laid := [("doorkeeper/passes.ErrNumber", laid_doorkeeper_passes_ErrNumber), ("doorkeeper/passes.digits", laid_doorkeeper_passes_digits)] }
def PassedSaid : Prop := passedRow.holds Tryd.pinned (OpenSpec.ofChange passedSpec)

/-- ITS FALSE NEIGHBOUR: 'it returns false'. Refute it at one input. -/
def passedWrong : ChangeSpec := { name := "passed", fn := fun _ => fun
  | [d1, d2] => { results := [.lit (.bool false)], args := [d1, d2] }
  | _ => none }
def PassedWrongFalsely : Prop := passedRow.holds Tryd.pinned (OpenSpec.ofChange passedWrong)

/-- 'doorkeeperlaw.Formatted': WHATEVER THE INPUT: true; the input reads as it did. -/
def formattedSpec : ChangeSpec := { name := "formatted", fn := fun _ => fun
  | [d] => { results := [.lit (.bool true)], args := [d] }
  | _ => none }
def formattedRow : OpenClaim := { program := "ytmnajomkfnkmeaadoor", sum := "e500cf082b543c86c9d9743a67b6ab7119aaf8985bee22f255d2042dfaaa2999", func := "doorkeeper/doorkeeperlaw.Formatted", spec := "formatted", inPlace := ["internal/abi.NoEscape", "internal/bytealg.MakeNoZero"], named := ["doorkeeper/layout.ErrSize"], apart := false, laid := [("doorkeeper/layout.ErrSize", laid_doorkeeper_layout_ErrSize)] }
def FormattedSaid : Prop := formattedRow.holds Tryd.pinned (OpenSpec.ofChange formattedSpec)

/-- ITS FALSE NEIGHBOUR: 'it returns false'. Refute it at one input. -/
def formattedWrong : ChangeSpec := { name := "formatted", fn := fun _ => fun
  | [d] => { results := [.lit (.bool false)], args := [d] }
  | _ => none }
def FormattedWrongFalsely : Prop := formattedRow.holds Tryd.pinned (OpenSpec.ofChange formattedWrong)

/- THE SECOND FORM. 'bulk': how many values and letters a reading holds, each counted each time it is reached (what is shared counts as often as it is met; a slice's spare places count too). A statement '..UptoSaid' is the law's where the arguments, and the package variables that the reading takes, are together of bulk at most 1048576: NARROWER than '..Said'. Prove '..Said' where nothing that the law and all that it calls make is longer than what came in: it says more and counts as full. Else prove '..UptoSaid'. A law counts once. -/
mutual
def uptoBulk {H : Type} : DataW H → Nat
  | .lit (.string bytes) => bytes.length + 1
  | .lit _ => 1
  | .nil => 1
  | .ptr d => uptoBulk d + 1
  | .slice elems spare => uptoBulkAll elems + uptoBulkAll spare + 1
  | .agg parts => uptoBulkAll parts + 1
  | .iface _ d => uptoBulk d + 1
  | .map entries => uptoBulkEntries entries + 1
  | .held _ => 1
def uptoBulkAll {H : Type} : List (DataW H) → Nat
  | [] => 0
  | d :: r => uptoBulk d + uptoBulkAll r
def uptoBulkEntries {H : Type} : List (Lit × DataW H) → Nat
  | [] => 0
  | x :: r => uptoBulkEntry x + uptoBulkEntries r
def uptoBulkEntry {H : Type} : Lit × DataW H → Nat
  | (.string bytes, d) => bytes.length + uptoBulk d + 1
  | (_, d) => uptoBulk d + 1
 end
def uptoSmall : (H : Type) → List (DataW H) → Bool := fun _ ds => decide (uptoBulkAll ds ≤ 1048576)
def OpenSpec.upto (s : _root_.Go.ChangeSpec) : _root_.Go.OpenSpec := { _root_.Go.OpenSpec.ofChange s with cond := some uptoSmall }

/-- 'doorkeeperlaw.Passed', WHERE WHAT IT READS IS OF BULK AT MOST 1048576: true; the input reads as it did. -/
def passedUptoRow : OpenClaim := { program := "ytmnajomkfnkmeaadoor", sum := "e500cf082b543c86c9d9743a67b6ab7119aaf8985bee22f255d2042dfaaa2999", func := "doorkeeper/doorkeeperlaw.Passed", spec := "passed", named := ["doorkeeper/passes.ErrNumber", "doorkeeper/passes.digits"], apart := false, laid := [("doorkeeper/passes.ErrNumber", laid_doorkeeper_passes_ErrNumber), ("doorkeeper/passes.digits", laid_doorkeeper_passes_digits)], narrowed := true }
def PassedUptoSaid : Prop := passedUptoRow.holds Tryd.pinned (OpenSpec.upto passedSpec)

/-- 'doorkeeperlaw.Formatted', WHERE WHAT IT READS IS OF BULK AT MOST 1048576: true; the input reads as it did. -/
def formattedUptoRow : OpenClaim := { program := "ytmnajomkfnkmeaadoor", sum := "e500cf082b543c86c9d9743a67b6ab7119aaf8985bee22f255d2042dfaaa2999", func := "doorkeeper/doorkeeperlaw.Formatted", spec := "formatted", inPlace := ["internal/abi.NoEscape", "internal/bytealg.MakeNoZero"], named := ["doorkeeper/layout.ErrSize"], apart := false, laid := [("doorkeeper/layout.ErrSize", laid_doorkeeper_layout_ErrSize)], narrowed := true }
def FormattedUptoSaid : Prop := formattedUptoRow.holds Tryd.pinned (OpenSpec.upto formattedSpec)

end Rows
end Go.Proofs.YtmnajomkfnkmeaaDoor
