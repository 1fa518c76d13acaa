/-
  NARROWER THAN 'FOR EVERY INPUT', by the rows' own cells (each row's printed sentence says how): Opened: laid · Served: laid · All: laid · Known: laid · One: laid · Lived: laid · Gone: laid · Reopened: laid · Survives: laid.
  DERIVED. THE GIVEN ROWS OF THIS SEAT. 9 by the template 'for every input the law returns true; each argument reads behind the call as it read before'; 0 by the template 'total and deterministic' (their statements: YtmnajomkfnkmeaaGreatDoorTotals.lean).
  GIVEN WITH THE SEED: the statements are not yours to turn. If you find one false, say at which input.
  Laid BY PROGRAM, IN A SANDBOX (cutbox-rows.mjs): the forced cells as the released guide's own fill.sh prints them over the translation b41c5b119217acb9… (all of the seat's roots in one cut). By AI agents, Wed Nov 11 2026. No macro, syntax, notation, axiom, sorry.
-/
import Derived.Test.YtmnajomkfnkmeaaGreatDoorChecked
import GoSem.Claim
import GoSem.ClaimJoined
import GoSem.ClaimMapViews
import Derived.JoinedTies
import Derived.KernelRfl
namespace Go.Proofs.YtmnajomkfnkmeaaGreatDoor
/- THE CELL 'sum', in the pinned program and in every row, IS THE sha256 OF THE DUMP (.gsa) THAT YtmnajomkfnkmeaaGreatDoorProg.lean LOADS. Nothing in Lean hashes anything: it is a label: what it is worth is what the hold of that sum in a sandbox is worth. -/
noncomputable def Tryz.pinned : Pinned := { name := "ytmnajomkfnkmeaagreatdoor", sum := "b41c5b119217acb9b468e1d777da293f4458b439cb16d53d1feb4e36e98e2bfe", checked := Tryz.checked }
namespace Rows
def none {H : Type} : Left H := { results := [], args := [] }

/- WHAT THE LISTED PACKAGE-LEVEL VARIABLES READ AS WHEN THE CALL BEGINS. Each datum BY PROGRAM (the guide's laid-datum.mjs) off the statement by which the dump's own 'gosem.cut.vars' lays the variable. In a bare row this is a premise. The card (YtmnajomkfnkmeaaGreatDoorCards.lean) ties it to the program's text. -/
def laid_doorkeeper_layout_ErrSize {H : Type} : DataW H := .iface "*errors.errorString" (.ptr (.agg [.lit (.string [108, 97, 121, 111, 117, 116, 58, 32, 97, 32, 100, 105, 115, 107, 32, 104, 97, 115, 32, 110, 111, 116, 32, 49, 50, 32, 116, 111, 32, 50, 48, 48, 32, 115, 101, 99, 116, 111, 114, 115])]))
def laid_doorkeeper_layout_ErrHead {H : Type} : DataW H := .iface "*errors.errorString" (.ptr (.agg [.lit (.string [108, 97, 121, 111, 117, 116, 58, 32, 110, 101, 105, 116, 104, 101, 114, 32, 111, 102, 32, 116, 104, 101, 32, 115, 101, 99, 116, 111, 114, 115, 32, 48, 32, 97, 110, 100, 32, 49, 32, 105, 115, 32, 97, 32, 104, 101, 97, 100])]))
def laid_doorkeeper_layout_ErrRecord {H : Type} : DataW H := .iface "*errors.errorString" (.ptr (.agg [.lit (.string [108, 97, 121, 111, 117, 116, 58, 32, 110, 111, 32, 115, 117, 99, 104, 32, 114, 101, 99, 111, 114, 100])]))
def laid_doorkeeper_drive_ErrDown {H : Type} : DataW H := .iface "*errors.errorString" (.ptr (.agg [.lit (.string [100, 114, 105, 118, 101, 58, 32, 116, 104, 101, 32, 112, 111, 119, 101, 114, 32, 105, 115, 32, 103, 111, 110, 101])]))
def laid_doorkeeper_passes_ErrNumber {H : Type} : DataW H := .iface "*errors.errorString" (.ptr (.agg [.lit (.string [112, 97, 115, 115, 101, 115, 58, 32, 97, 32, 115, 101, 115, 115, 105, 111, 110, 39, 115, 32, 110, 117, 109, 98, 101, 114, 32, 105, 115, 32, 110, 111, 116, 32, 48, 32, 116, 111, 32, 52, 48, 57, 53])]))
def laid_doorkeeper_passes_ErrPass {H : Type} : DataW H := .iface "*errors.errorString" (.ptr (.agg [.lit (.string [112, 97, 115, 115, 101, 115, 58, 32, 110, 111, 32, 112, 97, 115, 115, 32, 119, 105, 116, 104, 32, 116, 104, 105, 115, 32, 115, 101, 99, 114, 101, 116])]))
def laid_doorkeeper_passes_digits {H : Type} : DataW H := .agg [.lit (.int .u8 48), .lit (.int .u8 49), .lit (.int .u8 50), .lit (.int .u8 51), .lit (.int .u8 52), .lit (.int .u8 53), .lit (.int .u8 54), .lit (.int .u8 55), .lit (.int .u8 56), .lit (.int .u8 57), .lit (.int .u8 97), .lit (.int .u8 98), .lit (.int .u8 99), .lit (.int .u8 100), .lit (.int .u8 101), .lit (.int .u8 102)]
def laid_doorkeeper_sessions_ErrUnfit {H : Type} : DataW H := .iface "*errors.errorString" (.ptr (.agg [.lit (.string [115, 101, 115, 115, 105, 111, 110, 115, 58, 32, 117, 110, 102, 105, 116])]))
def laid_doorkeeper_journal_ErrFull {H : Type} : DataW H := .iface "*errors.errorString" (.ptr (.agg [.lit (.string [106, 111, 117, 114, 110, 97, 108, 58, 32, 110, 111, 32, 114, 111, 111, 109])]))

/-- 'doorkeeperlaw.Opened': WHATEVER THE INPUT: true; the input reads as it did. -/
def openedSpec : ChangeSpec := { name := "opened", fn := fun _ => fun
  | [d1, d2] => { results := [.lit (.bool true)], args := [d1, d2] }
  | _ => none }
def openedRow : OpenClaim := { program := "ytmnajomkfnkmeaagreatdoor", sum := "b41c5b119217acb9b468e1d777da293f4458b439cb16d53d1feb4e36e98e2bfe", func := "doorkeeper/doorkeeperlaw.Opened", spec := "opened", inPlace := ["internal/abi.NoEscape", "internal/bytealg.MakeNoZero", "internal/bytealg.abigen_runtime_cmpstring", "slices.overlaps[doorkeeper/sessions.value]", "internal/reflectlite.TypeOf"], unfollowed := true, recurses := true, named := ["doorkeeper/layout.ErrSize", "doorkeeper/layout.ErrHead", "doorkeeper/layout.ErrRecord", "doorkeeper/sessions.ErrUnfit", "doorkeeper/journal.ErrFull", "doorkeeper/drive.ErrDown", "doorkeeper/passes.ErrNumber", "doorkeeper/passes.digits", "doorkeeper/passes.ErrPass"], apart := false, laid := [("doorkeeper/layout.ErrSize", laid_doorkeeper_layout_ErrSize), ("doorkeeper/layout.ErrHead", laid_doorkeeper_layout_ErrHead), ("doorkeeper/layout.ErrRecord", laid_doorkeeper_layout_ErrRecord), ("doorkeeper/drive.ErrDown", laid_doorkeeper_drive_ErrDown), ("doorkeeper/passes.ErrNumber", laid_doorkeeper_passes_ErrNumber), ("doorkeeper/passes.ErrPass", laid_doorkeeper_passes_ErrPass), ("doorkeeper/passes.digits", laid_doorkeeper_passes_digits), ("doorkeeper/sessions.ErrUnfit", laid_doorkeeper_sessions_ErrUnfit), ("doorkeeper/journal.ErrFull", laid_doorkeeper_journal_ErrFull)] }
def OpenedSaid : Prop := openedRow.holds Tryz.pinned (OpenSpec.ofChange openedSpec)

/-- ITS FALSE NEIGHBOUR: 'it returns false'. Refute it at one input. -/
def openedWrong : ChangeSpec := { name := "opened", fn := fun _ => fun
  | [d1, d2] => { results := [.lit (.bool false)], args := [d1, d2] }
  | _ => none }
def OpenedWrongFalsely : Prop := openedRow.holds Tryz.pinned (OpenSpec.ofChange openedWrong)

/-- 'doorkeeperlaw.Served': WHATEVER THE INPUT: true; the input reads as it did. -/
def servedSpec : ChangeSpec := { name := "served", fn := fun _ => fun
  | [d] => { results := [.lit (.bool true)], args := [d] }
  | _ => none }
def servedRow : OpenClaim := { program := "ytmnajomkfnkmeaagreatdoor", sum := "b41c5b119217acb9b468e1d777da293f4458b439cb16d53d1feb4e36e98e2bfe", func := "doorkeeper/doorkeeperlaw.Served", spec := "served", inPlace := ["internal/abi.NoEscape", "internal/bytealg.MakeNoZero", "internal/bytealg.abigen_runtime_cmpstring", "slices.overlaps[doorkeeper/sessions.value]", "internal/reflectlite.TypeOf"], unfollowed := true, recurses := true, named := ["doorkeeper/layout.ErrSize", "doorkeeper/layout.ErrHead", "doorkeeper/layout.ErrRecord", "doorkeeper/sessions.ErrUnfit", "doorkeeper/journal.ErrFull", "doorkeeper/drive.ErrDown", "doorkeeper/passes.ErrNumber", "doorkeeper/passes.digits", "doorkeeper/passes.ErrPass"], apart := false, laid := [("doorkeeper/layout.ErrSize", laid_doorkeeper_layout_ErrSize), ("doorkeeper/layout.ErrHead", laid_doorkeeper_layout_ErrHead), ("doorkeeper/layout.ErrRecord", laid_doorkeeper_layout_ErrRecord), ("doorkeeper/drive.ErrDown", laid_doorkeeper_drive_ErrDown), ("doorkeeper/passes.ErrNumber", laid_doorkeeper_passes_ErrNumber), ("doorkeeper/passes.ErrPass", laid_doorkeeper_passes_ErrPass), ("doorkeeper/passes.digits", laid_doorkeeper_passes_digits), ("doorkeeper/sessions.ErrUnfit", laid_doorkeeper_sessions_ErrUnfit), ("doorkeeper/journal.ErrFull", laid_doorkeeper_journal_ErrFull)] }
def ServedSaid : Prop := servedRow.holds Tryz.pinned (OpenSpec.ofChange servedSpec)

/-- ITS FALSE NEIGHBOUR: 'it returns false'. Refute it at one input. -/
def servedWrong : ChangeSpec := { name := "served", fn := fun _ => fun
  | [d] => { results := [.lit (.bool false)], args := [d] }
  | _ => none }
def ServedWrongFalsely : Prop := servedRow.holds Tryz.pinned (OpenSpec.ofChange servedWrong)

/-- 'doorkeeperlaw.All': WHATEVER THE INPUT: true; the input reads as it did. -/
def allSpec : ChangeSpec := { name := "all", fn := fun _ => fun
  | [d] => { results := [.lit (.bool true)], args := [d] }
  | _ => none }
def allRow : OpenClaim := { program := "ytmnajomkfnkmeaagreatdoor", sum := "b41c5b119217acb9b468e1d777da293f4458b439cb16d53d1feb4e36e98e2bfe", func := "doorkeeper/doorkeeperlaw.All", spec := "all", inPlace := ["internal/abi.NoEscape", "internal/bytealg.MakeNoZero", "internal/bytealg.abigen_runtime_cmpstring", "slices.overlaps[doorkeeper/sessions.value]", "internal/reflectlite.TypeOf"], unfollowed := true, recurses := true, named := ["doorkeeper/layout.ErrSize", "doorkeeper/layout.ErrHead", "doorkeeper/layout.ErrRecord", "doorkeeper/sessions.ErrUnfit", "doorkeeper/journal.ErrFull", "doorkeeper/drive.ErrDown", "doorkeeper/passes.ErrNumber", "doorkeeper/passes.digits", "doorkeeper/passes.ErrPass"], apart := false, laid := [("doorkeeper/layout.ErrSize", laid_doorkeeper_layout_ErrSize), ("doorkeeper/layout.ErrHead", laid_doorkeeper_layout_ErrHead), ("doorkeeper/layout.ErrRecord", laid_doorkeeper_layout_ErrRecord), ("doorkeeper/drive.ErrDown", laid_doorkeeper_drive_ErrDown), ("doorkeeper/passes.ErrNumber", laid_doorkeeper_passes_ErrNumber), ("doorkeeper/passes.ErrPass", laid_doorkeeper_passes_ErrPass), ("doorkeeper/passes.digits", laid_doorkeeper_passes_digits), ("doorkeeper/sessions.ErrUnfit", laid_doorkeeper_sessions_ErrUnfit), ("doorkeeper/journal.ErrFull", laid_doorkeeper_journal_ErrFull)] }
def AllSaid : Prop := allRow.holds Tryz.pinned (OpenSpec.ofChange allSpec)

/-- ITS FALSE NEIGHBOUR: 'it returns false'. Refute it at one input. -/
def allWrong : ChangeSpec := { name := "all", fn := fun _ => fun
  | [d] => { results := [.lit (.bool false)], args := [d] }
  | _ => none }
def AllWrongFalsely : Prop := allRow.holds Tryz.pinned (OpenSpec.ofChange allWrong)

/-- 'doorkeeperkeep.Known': WHATEVER THE INPUT: true; the input reads as it did. -/
def knownSpec : ChangeSpec := { name := "known", fn := fun _ => fun
  | [d] => { results := [.lit (.bool true)], args := [d] }
  | _ => none }
def knownRow : OpenClaim := { program := "ytmnajomkfnkmeaagreatdoor", sum := "b41c5b119217acb9b468e1d777da293f4458b439cb16d53d1feb4e36e98e2bfe", func := "doorkeeper/doorkeeperkeep.Known", spec := "known", inPlace := ["internal/abi.NoEscape", "internal/bytealg.MakeNoZero", "internal/bytealg.abigen_runtime_cmpstring", "slices.overlaps[doorkeeper/sessions.value]", "internal/reflectlite.TypeOf"], unfollowed := true, recurses := true, named := ["doorkeeper/passes.ErrNumber", "doorkeeper/passes.digits", "doorkeeper/layout.ErrSize", "doorkeeper/layout.ErrHead", "doorkeeper/layout.ErrRecord", "doorkeeper/sessions.ErrUnfit", "doorkeeper/journal.ErrFull", "doorkeeper/drive.ErrDown", "doorkeeper/passes.ErrPass"], apart := false, laid := [("doorkeeper/layout.ErrSize", laid_doorkeeper_layout_ErrSize), ("doorkeeper/layout.ErrHead", laid_doorkeeper_layout_ErrHead), ("doorkeeper/layout.ErrRecord", laid_doorkeeper_layout_ErrRecord), ("doorkeeper/drive.ErrDown", laid_doorkeeper_drive_ErrDown), ("doorkeeper/passes.ErrNumber", laid_doorkeeper_passes_ErrNumber), ("doorkeeper/passes.ErrPass", laid_doorkeeper_passes_ErrPass), ("doorkeeper/passes.digits", laid_doorkeeper_passes_digits), ("doorkeeper/sessions.ErrUnfit", laid_doorkeeper_sessions_ErrUnfit), ("doorkeeper/journal.ErrFull", laid_doorkeeper_journal_ErrFull)] }
def KnownSaid : Prop := knownRow.holds Tryz.pinned (OpenSpec.ofChange knownSpec)

/-- ITS FALSE NEIGHBOUR: 'it returns false'. Refute it at one input. -/
def knownWrong : ChangeSpec := { name := "known", fn := fun _ => fun
  | [d] => { results := [.lit (.bool false)], args := [d] }
  | _ => none }
def KnownWrongFalsely : Prop := knownRow.holds Tryz.pinned (OpenSpec.ofChange knownWrong)

/-- 'doorkeeperkeep.One': WHATEVER THE INPUT: true; the input reads as it did. -/
def oneSpec : ChangeSpec := { name := "one", fn := fun _ => fun
  | [d1, d2, d3, d4] => { results := [.lit (.bool true)], args := [d1, d2, d3, d4] }
  | _ => none }
def oneRow : OpenClaim := { program := "ytmnajomkfnkmeaagreatdoor", sum := "b41c5b119217acb9b468e1d777da293f4458b439cb16d53d1feb4e36e98e2bfe", func := "doorkeeper/doorkeeperkeep.One", spec := "one", inPlace := ["internal/abi.NoEscape", "internal/bytealg.MakeNoZero", "internal/bytealg.abigen_runtime_cmpstring", "slices.overlaps[doorkeeper/sessions.value]", "internal/reflectlite.TypeOf"], unfollowed := true, recurses := true, named := ["doorkeeper/layout.ErrSize", "doorkeeper/layout.ErrHead", "doorkeeper/layout.ErrRecord", "doorkeeper/sessions.ErrUnfit", "doorkeeper/journal.ErrFull", "doorkeeper/drive.ErrDown", "doorkeeper/passes.ErrNumber", "doorkeeper/passes.digits", "doorkeeper/passes.ErrPass"], apart := false, laid := [("doorkeeper/layout.ErrSize", laid_doorkeeper_layout_ErrSize), ("doorkeeper/layout.ErrHead", laid_doorkeeper_layout_ErrHead), ("doorkeeper/layout.ErrRecord", laid_doorkeeper_layout_ErrRecord), ("doorkeeper/drive.ErrDown", laid_doorkeeper_drive_ErrDown), ("doorkeeper/passes.ErrNumber", laid_doorkeeper_passes_ErrNumber), ("doorkeeper/passes.ErrPass", laid_doorkeeper_passes_ErrPass), ("doorkeeper/passes.digits", laid_doorkeeper_passes_digits), ("doorkeeper/sessions.ErrUnfit", laid_doorkeeper_sessions_ErrUnfit), ("doorkeeper/journal.ErrFull", laid_doorkeeper_journal_ErrFull)] }
def OneSaid : Prop := oneRow.holds Tryz.pinned (OpenSpec.ofChange oneSpec)

/-- ITS FALSE NEIGHBOUR: 'it returns false'. Refute it at one input. -/
def oneWrong : ChangeSpec := { name := "one", fn := fun _ => fun
  | [d1, d2, d3, d4] => { results := [.lit (.bool false)], args := [d1, d2, d3, d4] }
  | _ => none }
def OneWrongFalsely : Prop := oneRow.holds Tryz.pinned (OpenSpec.ofChange oneWrong)

/-- 'doorkeeperkeep.Lived': WHATEVER THE INPUT: true; the input reads as it did. -/
def livedSpec : ChangeSpec := { name := "lived", fn := fun _ => fun
  | [d1, d2] => { results := [.lit (.bool true)], args := [d1, d2] }
  | _ => none }
def livedRow : OpenClaim := { program := "ytmnajomkfnkmeaagreatdoor", sum := "b41c5b119217acb9b468e1d777da293f4458b439cb16d53d1feb4e36e98e2bfe", func := "doorkeeper/doorkeeperkeep.Lived", spec := "lived", inPlace := ["internal/abi.NoEscape", "internal/bytealg.MakeNoZero", "internal/bytealg.abigen_runtime_cmpstring", "slices.overlaps[doorkeeper/sessions.value]", "internal/reflectlite.TypeOf"], unfollowed := true, recurses := true, named := ["doorkeeper/layout.ErrSize", "doorkeeper/layout.ErrHead", "doorkeeper/layout.ErrRecord", "doorkeeper/sessions.ErrUnfit", "doorkeeper/journal.ErrFull", "doorkeeper/drive.ErrDown", "doorkeeper/passes.ErrNumber", "doorkeeper/passes.digits", "doorkeeper/passes.ErrPass"], apart := false, laid := [("doorkeeper/layout.ErrSize", laid_doorkeeper_layout_ErrSize), ("doorkeeper/layout.ErrHead", laid_doorkeeper_layout_ErrHead), ("doorkeeper/layout.ErrRecord", laid_doorkeeper_layout_ErrRecord), ("doorkeeper/drive.ErrDown", laid_doorkeeper_drive_ErrDown), ("doorkeeper/passes.ErrNumber", laid_doorkeeper_passes_ErrNumber), ("doorkeeper/passes.ErrPass", laid_doorkeeper_passes_ErrPass), ("doorkeeper/passes.digits", laid_doorkeeper_passes_digits), ("doorkeeper/sessions.ErrUnfit", laid_doorkeeper_sessions_ErrUnfit), ("doorkeeper/journal.ErrFull", laid_doorkeeper_journal_ErrFull)] }
def LivedSaid : Prop := livedRow.holds Tryz.pinned (OpenSpec.ofChange livedSpec)

/-- ITS FALSE NEIGHBOUR: 'it returns false'. Refute it at one input. -/
def livedWrong : ChangeSpec := { name := "lived", fn := fun _ => fun
  | [d1, d2] => { results := [.lit (.bool false)], args := [d1, d2] }
  | _ => none }
def LivedWrongFalsely : Prop := livedRow.holds Tryz.pinned (OpenSpec.ofChange livedWrong)

/-- 'doorkeeperkeep.Gone': WHATEVER THE INPUT: true; the input reads as it did. -/
def goneSpec : ChangeSpec := { name := "gone", fn := fun _ => fun
  | [d1, d2, d3, d4] => { results := [.lit (.bool true)], args := [d1, d2, d3, d4] }
  | _ => none }
def goneRow : OpenClaim := { program := "ytmnajomkfnkmeaagreatdoor", sum := "b41c5b119217acb9b468e1d777da293f4458b439cb16d53d1feb4e36e98e2bfe", func := "doorkeeper/doorkeeperkeep.Gone", spec := "gone", inPlace := ["internal/abi.NoEscape", "internal/bytealg.MakeNoZero", "internal/bytealg.abigen_runtime_cmpstring", "slices.overlaps[doorkeeper/sessions.value]", "internal/reflectlite.TypeOf"], unfollowed := true, recurses := true, named := ["doorkeeper/layout.ErrSize", "doorkeeper/layout.ErrHead", "doorkeeper/layout.ErrRecord", "doorkeeper/sessions.ErrUnfit", "doorkeeper/journal.ErrFull", "doorkeeper/drive.ErrDown", "doorkeeper/passes.ErrNumber", "doorkeeper/passes.digits", "doorkeeper/passes.ErrPass"], apart := false, laid := [("doorkeeper/layout.ErrSize", laid_doorkeeper_layout_ErrSize), ("doorkeeper/layout.ErrHead", laid_doorkeeper_layout_ErrHead), ("doorkeeper/layout.ErrRecord", laid_doorkeeper_layout_ErrRecord), ("doorkeeper/drive.ErrDown", laid_doorkeeper_drive_ErrDown), ("doorkeeper/passes.ErrNumber", laid_doorkeeper_passes_ErrNumber), ("doorkeeper/passes.ErrPass", laid_doorkeeper_passes_ErrPass), ("doorkeeper/passes.digits", laid_doorkeeper_passes_digits), ("doorkeeper/sessions.ErrUnfit", laid_doorkeeper_sessions_ErrUnfit), ("doorkeeper/journal.ErrFull", laid_doorkeeper_journal_ErrFull)] }
def GoneSaid : Prop := goneRow.holds Tryz.pinned (OpenSpec.ofChange goneSpec)

/-- ITS FALSE NEIGHBOUR: 'it returns false'. Refute it at one input. -/
def goneWrong : ChangeSpec := { name := "gone", fn := fun _ => fun
  | [d1, d2, d3, d4] => { results := [.lit (.bool false)], args := [d1, d2, d3, d4] }
  | _ => none }
def GoneWrongFalsely : Prop := goneRow.holds Tryz.pinned (OpenSpec.ofChange goneWrong)

/-- 'doorkeeperkeep.Reopened': WHATEVER THE INPUT: true; the input reads as it did. -/
def reopenedSpec : ChangeSpec := { name := "reopened", fn := fun _ => fun
  | [d1, d2, d3] => { results := [.lit (.bool true)], args := [d1, d2, d3] }
  | _ => none }
def reopenedRow : OpenClaim := { program := "ytmnajomkfnkmeaagreatdoor", sum := "b41c5b119217acb9b468e1d777da293f4458b439cb16d53d1feb4e36e98e2bfe", func := "doorkeeper/doorkeeperkeep.Reopened", spec := "reopened", inPlace := ["internal/abi.NoEscape", "internal/bytealg.MakeNoZero", "internal/bytealg.abigen_runtime_cmpstring", "slices.overlaps[doorkeeper/sessions.value]", "internal/reflectlite.TypeOf"], unfollowed := true, recurses := true, named := ["doorkeeper/layout.ErrSize", "doorkeeper/layout.ErrHead", "doorkeeper/layout.ErrRecord", "doorkeeper/sessions.ErrUnfit", "doorkeeper/journal.ErrFull", "doorkeeper/drive.ErrDown", "doorkeeper/passes.ErrNumber", "doorkeeper/passes.digits", "doorkeeper/passes.ErrPass"], apart := false, laid := [("doorkeeper/layout.ErrSize", laid_doorkeeper_layout_ErrSize), ("doorkeeper/layout.ErrHead", laid_doorkeeper_layout_ErrHead), ("doorkeeper/layout.ErrRecord", laid_doorkeeper_layout_ErrRecord), ("doorkeeper/drive.ErrDown", laid_doorkeeper_drive_ErrDown), ("doorkeeper/passes.ErrNumber", laid_doorkeeper_passes_ErrNumber), ("doorkeeper/passes.ErrPass", laid_doorkeeper_passes_ErrPass), ("doorkeeper/passes.digits", laid_doorkeeper_passes_digits), ("doorkeeper/sessions.ErrUnfit", laid_doorkeeper_sessions_ErrUnfit), ("doorkeeper/journal.ErrFull", laid_doorkeeper_journal_ErrFull)] }
def ReopenedSaid : Prop := reopenedRow.holds Tryz.pinned (OpenSpec.ofChange reopenedSpec)

/-- ITS FALSE NEIGHBOUR: 'it returns false'. Refute it at one input. -/
def reopenedWrong : ChangeSpec := { name := "reopened", fn := fun _ => fun
  | [d1, d2, d3] => { results := [.lit (.bool false)], args := [d1, d2, d3] }
  | _ => none }
def ReopenedWrongFalsely : Prop := reopenedRow.holds Tryz.pinned (OpenSpec.ofChange reopenedWrong)

/-- 'doorkeeperkeep.Survives': WHATEVER THE INPUT: true; the input reads as it did. -/
def survivesSpec : ChangeSpec := { name := "survives", fn := fun _ => fun
  | [d1, d2, d3, d4, d5, d6] => { results := [.lit (.bool true)], args := [d1, d2, d3, d4, d5, d6] }
  | _ => none }
def survivesRow : OpenClaim := { program := "ytmnajomkfnkmeaagreatdoor", sum := "b41c5b119217acb9b468e1d777da293f4458b439cb16d53d1feb4e36e98e2bfe", func := "doorkeeper/doorkeeperkeep.Survives", spec := "survives", inPlace := ["internal/abi.NoEscape", "internal/bytealg.MakeNoZero", "internal/bytealg.abigen_runtime_cmpstring", "slices.overlaps[doorkeeper/sessions.value]", "internal/reflectlite.TypeOf"], unfollowed := true, recurses := true, named := ["doorkeeper/layout.ErrSize", "doorkeeper/layout.ErrHead", "doorkeeper/layout.ErrRecord", "doorkeeper/sessions.ErrUnfit", "doorkeeper/journal.ErrFull", "doorkeeper/drive.ErrDown", "doorkeeper/passes.ErrNumber", "doorkeeper/passes.digits", "doorkeeper/passes.ErrPass"], apart := false, laid := [("doorkeeper/layout.ErrSize", laid_doorkeeper_layout_ErrSize), ("doorkeeper/layout.ErrHead", laid_doorkeeper_layout_ErrHead), ("doorkeeper/layout.ErrRecord", laid_doorkeeper_layout_ErrRecord), ("doorkeeper/drive.ErrDown", laid_doorkeeper_drive_ErrDown), ("doorkeeper/passes.ErrNumber", laid_doorkeeper_passes_ErrNumber), ("doorkeeper/passes.ErrPass", laid_doorkeeper_passes_ErrPass), ("doorkeeper/passes.digits", laid_doorkeeper_passes_digits), ("doorkeeper/sessions.ErrUnfit", laid_doorkeeper_sessions_ErrUnfit), ("doorkeeper/journal.ErrFull", laid_doorkeeper_journal_ErrFull)] }
def SurvivesSaid : Prop := survivesRow.holds Tryz.pinned (OpenSpec.ofChange survivesSpec)

/-- ITS FALSE NEIGHBOUR: 'it returns false'. Refute it at one input. -/
def survivesWrong : ChangeSpec := { name := "survives", fn := fun _ => fun
  | [d1, d2, d3, d4, d5, d6] => { results := [.lit (.bool false)], args := [d1, d2, d3, d4, d5, d6] }
  | _ => none }
def SurvivesWrongFalsely : Prop := survivesRow.holds Tryz.pinned (OpenSpec.ofChange survivesWrong)

/- THE SECOND FORM. 'bulk': how many values and letters a reading holds, each counted each time it is reached (what is shared counts as often as it is met; a slice's spare places count too). A statement '..UptoSaid' is the law's where the arguments, and the package variables that the reading takes, are together of bulk at most 1048576: NARROWER than '..Said'. Prove '..Said' where nothing that the law and all that it calls make is longer than what came in: it says more and counts as full. Else prove '..UptoSaid'. A law counts once. -/
mutual
def uptoBulk {H : Type} : DataW H → Nat
  | .lit (.string bytes) => bytes.length + 1
  | .lit _ => 1
  | .nil => 1
  | .ptr d => uptoBulk d + 1
  | .slice elems spare => uptoBulkAll elems + uptoBulkAll spare + 1
  | .agg parts => uptoBulkAll parts + 1
  | .iface _ d => uptoBulk d + 1
  | .map entries => uptoBulkEntries entries + 1
  | .held _ => 1
def uptoBulkAll {H : Type} : List (DataW H) → Nat
  | [] => 0
  | d :: r => uptoBulk d + uptoBulkAll r
def uptoBulkEntries {H : Type} : List (Lit × DataW H) → Nat
  | [] => 0
  | x :: r => uptoBulkEntry x + uptoBulkEntries r
def uptoBulkEntry {H : Type} : Lit × DataW H → Nat
  | (.string bytes, d) => bytes.length + uptoBulk d + 1
  | (_, d) => uptoBulk d + 1
 end
def uptoSmall : (H : Type) → List (DataW H) → Bool := fun _ ds => decide (uptoBulkAll ds ≤ 1048576)
def OpenSpec.upto (s : _root_.Go.ChangeSpec) : _root_.Go.OpenSpec := { _root_.Go.OpenSpec.ofChange s with cond := some uptoSmall }

/-- 'doorkeeperlaw.Opened', WHERE WHAT IT READS IS OF BULK AT MOST 1048576: true; the input reads as it did. -/
def openedUptoRow : OpenClaim := { program := "ytmnajomkfnkmeaagreatdoor", sum := "b41c5b119217acb9b468e1d777da293f4458b439cb16d53d1feb4e36e98e2bfe", func := "doorkeeper/doorkeeperlaw.Opened", spec := "opened", inPlace := ["internal/abi.NoEscape", "internal/bytealg.MakeNoZero", "internal/bytealg.abigen_runtime_cmpstring", "slices.overlaps[doorkeeper/sessions.value]", "internal/reflectlite.TypeOf"], unfollowed := true, recurses := true, named := ["doorkeeper/layout.ErrSize", "doorkeeper/layout.ErrHead", "doorkeeper/layout.ErrRecord", "doorkeeper/sessions.ErrUnfit", "doorkeeper/journal.ErrFull", "doorkeeper/drive.ErrDown", "doorkeeper/passes.ErrNumber", "doorkeeper/passes.digits", "doorkeeper/passes.ErrPass"], apart := false, laid := [("doorkeeper/layout.ErrSize", laid_doorkeeper_layout_ErrSize), ("doorkeeper/layout.ErrHead", laid_doorkeeper_layout_ErrHead), ("doorkeeper/layout.ErrRecord", laid_doorkeeper_layout_ErrRecord), ("doorkeeper/drive.ErrDown", laid_doorkeeper_drive_ErrDown), ("doorkeeper/passes.ErrNumber", laid_doorkeeper_passes_ErrNumber), ("doorkeeper/passes.ErrPass", laid_doorkeeper_passes_ErrPass), ("doorkeeper/passes.digits", laid_doorkeeper_passes_digits), ("doorkeeper/sessions.ErrUnfit", laid_doorkeeper_sessions_ErrUnfit), ("doorkeeper/journal.ErrFull", laid_doorkeeper_journal_ErrFull)], narrowed := true }
def OpenedUptoSaid : Prop := openedUptoRow.holds Tryz.pinned (OpenSpec.upto openedSpec)

/-- 'doorkeeperlaw.Served', WHERE WHAT IT READS IS OF BULK AT MOST 1048576: true; the input reads as it did. -/
def servedUptoRow : OpenClaim := { program := "ytmnajomkfnkmeaagreatdoor", sum := "b41c5b119217acb9b468e1d777da293f4458b439cb16d53d1feb4e36e98e2bfe", func := "doorkeeper/doorkeeperlaw.Served", spec := "served", inPlace := ["internal/abi.NoEscape", "internal/bytealg.MakeNoZero", "internal/bytealg.abigen_runtime_cmpstring", "slices.overlaps[doorkeeper/sessions.value]", "internal/reflectlite.TypeOf"], unfollowed := true, recurses := true, named := ["doorkeeper/layout.ErrSize", "doorkeeper/layout.ErrHead", "doorkeeper/layout.ErrRecord", "doorkeeper/sessions.ErrUnfit", "doorkeeper/journal.ErrFull", "doorkeeper/drive.ErrDown", "doorkeeper/passes.ErrNumber", "doorkeeper/passes.digits", "doorkeeper/passes.ErrPass"], apart := false, laid := [("doorkeeper/layout.ErrSize", laid_doorkeeper_layout_ErrSize), ("doorkeeper/layout.ErrHead", laid_doorkeeper_layout_ErrHead), ("doorkeeper/layout.ErrRecord", laid_doorkeeper_layout_ErrRecord), ("doorkeeper/drive.ErrDown", laid_doorkeeper_drive_ErrDown), ("doorkeeper/passes.ErrNumber", laid_doorkeeper_passes_ErrNumber), ("doorkeeper/passes.ErrPass", laid_doorkeeper_passes_ErrPass), ("doorkeeper/passes.digits", laid_doorkeeper_passes_digits), ("doorkeeper/sessions.ErrUnfit", laid_doorkeeper_sessions_ErrUnfit), ("doorkeeper/journal.ErrFull", laid_doorkeeper_journal_ErrFull)], narrowed := true }
def ServedUptoSaid : Prop := servedUptoRow.holds Tryz.pinned (OpenSpec.upto servedSpec)

/-- 'doorkeeperlaw.All', WHERE WHAT IT READS IS OF BULK AT MOST 1048576: true; the input reads as it did. -/
def allUptoRow : OpenClaim := { program := "ytmnajomkfnkmeaagreatdoor", sum := "b41c5b119217acb9b468e1d777da293f4458b439cb16d53d1feb4e36e98e2bfe", func := "doorkeeper/doorkeeperlaw.All", spec := "all", inPlace := ["internal/abi.NoEscape", "internal/bytealg.MakeNoZero", "internal/bytealg.abigen_runtime_cmpstring", "slices.overlaps[doorkeeper/sessions.value]", "internal/reflectlite.TypeOf"], unfollowed := true, recurses := true, named := ["doorkeeper/layout.ErrSize", "doorkeeper/layout.ErrHead", "doorkeeper/layout.ErrRecord", "doorkeeper/sessions.ErrUnfit", "doorkeeper/journal.ErrFull", "doorkeeper/drive.ErrDown", "doorkeeper/passes.ErrNumber", "doorkeeper/passes.digits", "doorkeeper/passes.ErrPass"], apart := false, laid := [("doorkeeper/layout.ErrSize", laid_doorkeeper_layout_ErrSize), ("doorkeeper/layout.ErrHead", laid_doorkeeper_layout_ErrHead), ("doorkeeper/layout.ErrRecord", laid_doorkeeper_layout_ErrRecord), ("doorkeeper/drive.ErrDown", laid_doorkeeper_drive_ErrDown), ("doorkeeper/passes.ErrNumber", laid_doorkeeper_passes_ErrNumber), ("doorkeeper/passes.ErrPass", laid_doorkeeper_passes_ErrPass), ("doorkeeper/passes.digits", laid_doorkeeper_passes_digits), ("doorkeeper/sessions.ErrUnfit", laid_doorkeeper_sessions_ErrUnfit), ("doorkeeper/journal.ErrFull", laid_doorkeeper_journal_ErrFull)], narrowed := true }
def AllUptoSaid : Prop := allUptoRow.holds Tryz.pinned (OpenSpec.upto allSpec)

/-- 'doorkeeperkeep.Known', WHERE WHAT IT READS IS OF BULK AT MOST 1048576: true; the input reads as it did. -/
def knownUptoRow : OpenClaim := { program := "ytmnajomkfnkmeaagreatdoor", sum := "b41c5b119217acb9b468e1d777da293f4458b439cb16d53d1feb4e36e98e2bfe", func := "doorkeeper/doorkeeperkeep.Known", spec := "known", inPlace := ["internal/abi.NoEscape", "internal/bytealg.MakeNoZero", "internal/bytealg.abigen_runtime_cmpstring", "slices.overlaps[doorkeeper/sessions.value]", "internal/reflectlite.TypeOf"], unfollowed := true, recurses := true, named := ["doorkeeper/passes.ErrNumber", "doorkeeper/passes.digits", "doorkeeper/layout.ErrSize", "doorkeeper/layout.ErrHead", "doorkeeper/layout.ErrRecord", "doorkeeper/sessions.ErrUnfit", "doorkeeper/journal.ErrFull", "doorkeeper/drive.ErrDown", "doorkeeper/passes.ErrPass"], apart := false, laid := [("doorkeeper/layout.ErrSize", laid_doorkeeper_layout_ErrSize), ("doorkeeper/layout.ErrHead", laid_doorkeeper_layout_ErrHead), ("doorkeeper/layout.ErrRecord", laid_doorkeeper_layout_ErrRecord), ("doorkeeper/drive.ErrDown", laid_doorkeeper_drive_ErrDown), ("doorkeeper/passes.ErrNumber", laid_doorkeeper_passes_ErrNumber), ("doorkeeper/passes.ErrPass", laid_doorkeeper_passes_ErrPass), ("doorkeeper/passes.digits", laid_doorkeeper_passes_digits), ("doorkeeper/sessions.ErrUnfit", laid_doorkeeper_sessions_ErrUnfit), ("doorkeeper/journal.ErrFull", laid_doorkeeper_journal_ErrFull)], narrowed := true }
def KnownUptoSaid : Prop := knownUptoRow.holds Tryz.pinned (OpenSpec.upto knownSpec)

/-- 'doorkeeperkeep.One', WHERE WHAT IT READS IS OF BULK AT MOST 1048576: true; the input reads as it did. -/
def oneUptoRow : OpenClaim := { program := "ytmnajomkfnkmeaagreatdoor", sum := "b41c5b119217acb9b468e1d777da293f4458b439cb16d53d1feb4e36e98e2bfe", func := "doorkeeper/doorkeeperkeep.One", spec := "one", inPlace := ["internal/abi.NoEscape", "internal/bytealg.MakeNoZero", "internal/bytealg.abigen_runtime_cmpstring", "slices.overlaps[doorkeeper/sessions.value]", "internal/reflectlite.TypeOf"], unfollowed := true, recurses := true, named := ["doorkeeper/layout.ErrSize", "doorkeeper/layout.ErrHead", "doorkeeper/layout.ErrRecord", "doorkeeper/sessions.ErrUnfit", "doorkeeper/journal.ErrFull", "doorkeeper/drive.ErrDown", "doorkeeper/passes.ErrNumber", "doorkeeper/passes.digits", "doorkeeper/passes.ErrPass"], apart := false, laid := [("doorkeeper/layout.ErrSize", laid_doorkeeper_layout_ErrSize), ("doorkeeper/layout.ErrHead", laid_doorkeeper_layout_ErrHead), ("doorkeeper/layout.ErrRecord", laid_doorkeeper_layout_ErrRecord), ("doorkeeper/drive.ErrDown", laid_doorkeeper_drive_ErrDown), ("doorkeeper/passes.ErrNumber", laid_doorkeeper_passes_ErrNumber), ("doorkeeper/passes.ErrPass", laid_doorkeeper_passes_ErrPass), ("doorkeeper/passes.digits", laid_doorkeeper_passes_digits), ("doorkeeper/sessions.ErrUnfit", laid_doorkeeper_sessions_ErrUnfit), ("doorkeeper/journal.ErrFull", laid_doorkeeper_journal_ErrFull)], narrowed := true }
def OneUptoSaid : Prop := oneUptoRow.holds Tryz.pinned (OpenSpec.upto oneSpec)

/-- 'doorkeeperkeep.Lived', WHERE WHAT IT READS IS OF BULK AT MOST 1048576: true; the input reads as it did. -/
def livedUptoRow : OpenClaim := { program := "ytmnajomkfnkmeaagreatdoor", sum := "b41c5b119217acb9b468e1d777da293f4458b439cb16d53d1feb4e36e98e2bfe", func := "doorkeeper/doorkeeperkeep.Lived", spec := "lived", inPlace := ["internal/abi.NoEscape", "internal/bytealg.MakeNoZero", "internal/bytealg.abigen_runtime_cmpstring", "slices.overlaps[doorkeeper/sessions.value]", "internal/reflectlite.TypeOf"], unfollowed := true, recurses := true, named := ["doorkeeper/layout.ErrSize", "doorkeeper/layout.ErrHead", "doorkeeper/layout.ErrRecord", "doorkeeper/sessions.ErrUnfit", "doorkeeper/journal.ErrFull", "doorkeeper/drive.ErrDown", "doorkeeper/passes.ErrNumber", "doorkeeper/passes.digits", "doorkeeper/passes.ErrPass"], apart := false, laid := [("doorkeeper/layout.ErrSize", laid_doorkeeper_layout_ErrSize), ("doorkeeper/layout.ErrHead", laid_doorkeeper_layout_ErrHead), ("doorkeeper/layout.ErrRecord", laid_doorkeeper_layout_ErrRecord), ("doorkeeper/drive.ErrDown", laid_doorkeeper_drive_ErrDown), ("doorkeeper/passes.ErrNumber", laid_doorkeeper_passes_ErrNumber), ("doorkeeper/passes.ErrPass", laid_doorkeeper_passes_ErrPass), ("doorkeeper/passes.digits", laid_doorkeeper_passes_digits), ("doorkeeper/sessions.ErrUnfit", laid_doorkeeper_sessions_ErrUnfit), ("doorkeeper/journal.ErrFull", laid_doorkeeper_journal_ErrFull)], narrowed := true }
def LivedUptoSaid : Prop := livedUptoRow.holds Tryz.pinned (OpenSpec.upto livedSpec)

/-- 'doorkeeperkeep.Gone', WHERE WHAT IT READS IS OF BULK AT MOST 1048576: true; the input reads as it did. -/
def goneUptoRow : OpenClaim := { program := "ytmnajomkfnkmeaagreatdoor", sum := "b41c5b119217acb9b468e1d777da293f4458b439cb16d53d1feb4e36e98e2bfe", func := "doorkeeper/doorkeeperkeep.Gone", spec := "gone", inPlace := ["internal/abi.NoEscape", "internal/bytealg.MakeNoZero", "internal/bytealg.abigen_runtime_cmpstring", "slices.overlaps[doorkeeper/sessions.value]", "internal/reflectlite.TypeOf"], unfollowed := true, recurses := true, named := ["doorkeeper/layout.ErrSize", "doorkeeper/layout.ErrHead", "doorkeeper/layout.ErrRecord", "doorkeeper/sessions.ErrUnfit", "doorkeeper/journal.ErrFull", "doorkeeper/drive.ErrDown", "doorkeeper/passes.ErrNumber", "doorkeeper/passes.digits", "doorkeeper/passes.ErrPass"], apart := false, laid := [("doorkeeper/layout.ErrSize", laid_doorkeeper_layout_ErrSize), ("doorkeeper/layout.ErrHead", laid_doorkeeper_layout_ErrHead), ("doorkeeper/layout.ErrRecord", laid_doorkeeper_layout_ErrRecord), ("doorkeeper/drive.ErrDown", laid_doorkeeper_drive_ErrDown), ("doorkeeper/passes.ErrNumber", laid_doorkeeper_passes_ErrNumber), ("doorkeeper/passes.ErrPass", laid_doorkeeper_passes_ErrPass), ("doorkeeper/passes.digits", laid_doorkeeper_passes_digits), ("doorkeeper/sessions.ErrUnfit", laid_doorkeeper_sessions_ErrUnfit), ("doorkeeper/journal.ErrFull", laid_doorkeeper_journal_ErrFull)], narrowed := true }
def GoneUptoSaid : Prop := goneUptoRow.holds Tryz.pinned (OpenSpec.upto goneSpec)

/-- 'doorkeeperkeep.Reopened', WHERE WHAT IT READS IS OF BULK AT MOST 1048576: true; the input reads as it did. -/
def reopenedUptoRow : OpenClaim := { program := "ytmnajomkfnkmeaagreatdoor", sum := "b41c5b119217acb9b468e1d777da293f4458b439cb16d53d1feb4e36e98e2bfe", func := "doorkeeper/doorkeeperkeep.Reopened", spec := "reopened", inPlace := ["internal/abi.NoEscape", "internal/bytealg.MakeNoZero", "internal/bytealg.abigen_runtime_cmpstring", "slices.overlaps[doorkeeper/sessions.value]", "internal/reflectlite.TypeOf"], unfollowed := true, recurses := true, named := ["doorkeeper/layout.ErrSize", "doorkeeper/layout.ErrHead", "doorkeeper/layout.ErrRecord", "doorkeeper/sessions.ErrUnfit", "doorkeeper/journal.ErrFull", "doorkeeper/drive.ErrDown", "doorkeeper/passes.ErrNumber", "doorkeeper/passes.digits", "doorkeeper/passes.ErrPass"], apart := false, laid := [("doorkeeper/layout.ErrSize", laid_doorkeeper_layout_ErrSize), ("doorkeeper/layout.ErrHead", laid_doorkeeper_layout_ErrHead), ("doorkeeper/layout.ErrRecord", laid_doorkeeper_layout_ErrRecord), ("doorkeeper/drive.ErrDown", laid_doorkeeper_drive_ErrDown), ("doorkeeper/passes.ErrNumber", laid_doorkeeper_passes_ErrNumber), ("doorkeeper/passes.ErrPass", laid_doorkeeper_passes_ErrPass), ("doorkeeper/passes.digits", laid_doorkeeper_passes_digits), ("doorkeeper/sessions.ErrUnfit", laid_doorkeeper_sessions_ErrUnfit), ("doorkeeper/journal.ErrFull", laid_doorkeeper_journal_ErrFull)], narrowed := true }
def ReopenedUptoSaid : Prop := reopenedUptoRow.holds Tryz.pinned (OpenSpec.upto reopenedSpec)

/-- 'doorkeeperkeep.Survives', WHERE WHAT IT READS IS OF BULK AT MOST 1048576: true; the input reads as it did. -/
def survivesUptoRow : OpenClaim := { program := "ytmnajomkfnkmeaagreatdoor", sum := "b41c5b119217acb9b468e1d777da293f4458b439cb16d53d1feb4e36e98e2bfe", func := "doorkeeper/doorkeeperkeep.Survives", spec := "survives", inPlace := ["internal/abi.NoEscape", "internal/bytealg.MakeNoZero", "internal/bytealg.abigen_runtime_cmpstring", "slices.overlaps[doorkeeper/sessions.value]", "internal/reflectlite.TypeOf"], unfollowed := true, recurses := true, named := ["doorkeeper/layout.ErrSize", "doorkeeper/layout.ErrHead", "doorkeeper/layout.ErrRecord", "doorkeeper/sessions.ErrUnfit", "doorkeeper/journal.ErrFull", "doorkeeper/drive.ErrDown", "doorkeeper/passes.ErrNumber", "doorkeeper/passes.digits", "doorkeeper/passes.ErrPass"], apart := false, laid := [("doorkeeper/layout.ErrSize", laid_doorkeeper_layout_ErrSize), ("doorkeeper/layout.ErrHead", laid_doorkeeper_layout_ErrHead), ("doorkeeper/layout.ErrRecord", laid_doorkeeper_layout_ErrRecord), ("doorkeeper/drive.ErrDown", laid_doorkeeper_drive_ErrDown), ("doorkeeper/passes.ErrNumber", laid_doorkeeper_passes_ErrNumber), ("doorkeeper/passes.ErrPass", laid_doorkeeper_passes_ErrPass), ("doorkeeper/passes.digits", laid_doorkeeper_passes_digits), ("doorkeeper/sessions.ErrUnfit", laid_doorkeeper_sessions_ErrUnfit), ("doorkeeper/journal.ErrFull", laid_doorkeeper_journal_ErrFull)], narrowed := true }
def SurvivesUptoSaid : Prop := survivesUptoRow.holds Tryz.pinned (OpenSpec.upto survivesSpec)

end Rows
end Go.Proofs.YtmnajomkfnkmeaaGreatDoor
