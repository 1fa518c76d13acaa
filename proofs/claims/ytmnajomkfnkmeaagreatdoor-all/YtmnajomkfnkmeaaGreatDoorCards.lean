/-
  DERIVED. GIVEN WITH THE SEED: THE CARDS: each row of YtmnajomkfnkmeaaGreatDoorRows.lean that lists a variable, with what it lists TIED to the program's text (the seventh form; the later family's looks); each row that meets fmt, with fmt's text TOLD by the authors' own Lean function (tested against real Go, not proved from fmt's source: count such statements apart). THE CARD IS WHAT COUNTS. Prove the row's statement (the work); the ties are given (YtmnajomkfnkmeaaGreatDoorTie.lean); close each card by the builder's one call (the guide's Derived/Test/ToyasCard.lean, 'card_holds'). Laid BY PROGRAM, IN A SANDBOX (cutbox-door.mjs). By AI agents, Wed Nov 11 2026. No macro, syntax, notation, axiom, sorry.
-/
import Derived.Test.YtmnajomkfnkmeaaGreatDoorRows
import GoSem.ClaimSeven
namespace Go.Proofs.YtmnajomkfnkmeaaGreatDoor
namespace Rows

/-- THE TIED CARD OF 'doorkeeperlaw.Opened'. -/
def openedCard : Claim7 := { stood := { row := openedRow, standIns := [], harness := (true, "8a71157859d78a4ab4f1ee0a1130f88f2057862e8f7e2802a5d57d520f96dd51"), looks := true }, kinds := [], alts := [], laidByText := true, laidKinds := [.sentinel, .sentinel, .sentinel, .sentinel, .sentinel, .sentinel, .data, .sentinel, .sentinel], laidTests := true, laidLooks := .later }
def OpenedCardSaid : Prop := Claim7.holds Tryz.pinned (.plain (OpenSpec.ofChange openedSpec)) openedCard

/-- THE TIED CARD OF 'doorkeeperlaw.Served'. -/
def servedCard : Claim7 := { stood := { row := servedRow, standIns := [], harness := (true, "8a71157859d78a4ab4f1ee0a1130f88f2057862e8f7e2802a5d57d520f96dd51"), looks := true }, kinds := [], alts := [], laidByText := true, laidKinds := [.sentinel, .sentinel, .sentinel, .sentinel, .sentinel, .sentinel, .data, .sentinel, .sentinel], laidTests := true, laidLooks := .later }
def ServedCardSaid : Prop := Claim7.holds Tryz.pinned (.plain (OpenSpec.ofChange servedSpec)) servedCard

/-- THE TIED CARD OF 'doorkeeperlaw.All'. -/
def allCard : Claim7 := { stood := { row := allRow, standIns := [], harness := (true, "8a71157859d78a4ab4f1ee0a1130f88f2057862e8f7e2802a5d57d520f96dd51"), looks := true }, kinds := [], alts := [], laidByText := true, laidKinds := [.sentinel, .sentinel, .sentinel, .sentinel, .sentinel, .sentinel, .data, .sentinel, .sentinel], laidTests := true, laidLooks := .later }
def AllCardSaid : Prop := Claim7.holds Tryz.pinned (.plain (OpenSpec.ofChange allSpec)) allCard

/-- THE TIED CARD OF 'doorkeeperkeep.Known'. -/
def knownCard : Claim7 := { stood := { row := knownRow, standIns := [], harness := (true, "8a71157859d78a4ab4f1ee0a1130f88f2057862e8f7e2802a5d57d520f96dd51"), looks := true }, kinds := [], alts := [], laidByText := true, laidKinds := [.sentinel, .sentinel, .sentinel, .sentinel, .sentinel, .sentinel, .data, .sentinel, .sentinel], laidTests := true, laidLooks := .later }
def KnownCardSaid : Prop := Claim7.holds Tryz.pinned (.plain (OpenSpec.ofChange knownSpec)) knownCard

/-- THE TIED CARD OF 'doorkeeperkeep.One'. -/
def oneCard : Claim7 := { stood := { row := oneRow, standIns := [], harness := (true, "8a71157859d78a4ab4f1ee0a1130f88f2057862e8f7e2802a5d57d520f96dd51"), looks := true }, kinds := [], alts := [], laidByText := true, laidKinds := [.sentinel, .sentinel, .sentinel, .sentinel, .sentinel, .sentinel, .data, .sentinel, .sentinel], laidTests := true, laidLooks := .later }
def OneCardSaid : Prop := Claim7.holds Tryz.pinned (.plain (OpenSpec.ofChange oneSpec)) oneCard

/-- THE TIED CARD OF 'doorkeeperkeep.Lived'. -/
def livedCard : Claim7 := { stood := { row := livedRow, standIns := [], harness := (true, "8a71157859d78a4ab4f1ee0a1130f88f2057862e8f7e2802a5d57d520f96dd51"), looks := true }, kinds := [], alts := [], laidByText := true, laidKinds := [.sentinel, .sentinel, .sentinel, .sentinel, .sentinel, .sentinel, .data, .sentinel, .sentinel], laidTests := true, laidLooks := .later }
def LivedCardSaid : Prop := Claim7.holds Tryz.pinned (.plain (OpenSpec.ofChange livedSpec)) livedCard

/-- THE TIED CARD OF 'doorkeeperkeep.Gone'. -/
def goneCard : Claim7 := { stood := { row := goneRow, standIns := [], harness := (true, "8a71157859d78a4ab4f1ee0a1130f88f2057862e8f7e2802a5d57d520f96dd51"), looks := true }, kinds := [], alts := [], laidByText := true, laidKinds := [.sentinel, .sentinel, .sentinel, .sentinel, .sentinel, .sentinel, .data, .sentinel, .sentinel], laidTests := true, laidLooks := .later }
def GoneCardSaid : Prop := Claim7.holds Tryz.pinned (.plain (OpenSpec.ofChange goneSpec)) goneCard

/-- THE TIED CARD OF 'doorkeeperkeep.Reopened'. -/
def reopenedCard : Claim7 := { stood := { row := reopenedRow, standIns := [], harness := (true, "8a71157859d78a4ab4f1ee0a1130f88f2057862e8f7e2802a5d57d520f96dd51"), looks := true }, kinds := [], alts := [], laidByText := true, laidKinds := [.sentinel, .sentinel, .sentinel, .sentinel, .sentinel, .sentinel, .data, .sentinel, .sentinel], laidTests := true, laidLooks := .later }
def ReopenedCardSaid : Prop := Claim7.holds Tryz.pinned (.plain (OpenSpec.ofChange reopenedSpec)) reopenedCard

/-- THE TIED CARD OF 'doorkeeperkeep.Survives'. -/
def survivesCard : Claim7 := { stood := { row := survivesRow, standIns := [], harness := (true, "8a71157859d78a4ab4f1ee0a1130f88f2057862e8f7e2802a5d57d520f96dd51"), looks := true }, kinds := [], alts := [], laidByText := true, laidKinds := [.sentinel, .sentinel, .sentinel, .sentinel, .sentinel, .sentinel, .data, .sentinel, .sentinel], laidTests := true, laidLooks := .later }
def SurvivesCardSaid : Prop := Claim7.holds Tryz.pinned (.plain (OpenSpec.ofChange survivesSpec)) survivesCard

/-- THE SECOND FORM's CARD OF 'doorkeeperlaw.Opened'. -/
def openedUptoCard : Claim7 := { stood := { row := openedUptoRow, standIns := [], harness := (true, "8a71157859d78a4ab4f1ee0a1130f88f2057862e8f7e2802a5d57d520f96dd51"), looks := true }, kinds := [], alts := [], laidByText := true, laidKinds := [.sentinel, .sentinel, .sentinel, .sentinel, .sentinel, .sentinel, .data, .sentinel, .sentinel], laidTests := true, laidLooks := .later }
def OpenedUptoCardSaid : Prop := Claim7.holds Tryz.pinned (.plain (OpenSpec.upto openedSpec)) openedUptoCard

/-- THE SECOND FORM's CARD OF 'doorkeeperlaw.Served'. -/
def servedUptoCard : Claim7 := { stood := { row := servedUptoRow, standIns := [], harness := (true, "8a71157859d78a4ab4f1ee0a1130f88f2057862e8f7e2802a5d57d520f96dd51"), looks := true }, kinds := [], alts := [], laidByText := true, laidKinds := [.sentinel, .sentinel, .sentinel, .sentinel, .sentinel, .sentinel, .data, .sentinel, .sentinel], laidTests := true, laidLooks := .later }
def ServedUptoCardSaid : Prop := Claim7.holds Tryz.pinned (.plain (OpenSpec.upto servedSpec)) servedUptoCard

/-- THE SECOND FORM's CARD OF 'doorkeeperlaw.All'. -/
def allUptoCard : Claim7 := { stood := { row := allUptoRow, standIns := [], harness := (true, "8a71157859d78a4ab4f1ee0a1130f88f2057862e8f7e2802a5d57d520f96dd51"), looks := true }, kinds := [], alts := [], laidByText := true, laidKinds := [.sentinel, .sentinel, .sentinel, .sentinel, .sentinel, .sentinel, .data, .sentinel, .sentinel], laidTests := true, laidLooks := .later }
def AllUptoCardSaid : Prop := Claim7.holds Tryz.pinned (.plain (OpenSpec.upto allSpec)) allUptoCard

/-- THE SECOND FORM's CARD OF 'doorkeeperkeep.Known'. -/
def knownUptoCard : Claim7 := { stood := { row := knownUptoRow, standIns := [], harness := (true, "8a71157859d78a4ab4f1ee0a1130f88f2057862e8f7e2802a5d57d520f96dd51"), looks := true }, kinds := [], alts := [], laidByText := true, laidKinds := [.sentinel, .sentinel, .sentinel, .sentinel, .sentinel, .sentinel, .data, .sentinel, .sentinel], laidTests := true, laidLooks := .later }
def KnownUptoCardSaid : Prop := Claim7.holds Tryz.pinned (.plain (OpenSpec.upto knownSpec)) knownUptoCard

/-- THE SECOND FORM's CARD OF 'doorkeeperkeep.One'. -/
def oneUptoCard : Claim7 := { stood := { row := oneUptoRow, standIns := [], harness := (true, "8a71157859d78a4ab4f1ee0a1130f88f2057862e8f7e2802a5d57d520f96dd51"), looks := true }, kinds := [], alts := [], laidByText := true, laidKinds := [.sentinel, .sentinel, .sentinel, .sentinel, .sentinel, .sentinel, .data, .sentinel, .sentinel], laidTests := true, laidLooks := .later }
def OneUptoCardSaid : Prop := Claim7.holds Tryz.pinned (.plain (OpenSpec.upto oneSpec)) oneUptoCard

/-- THE SECOND FORM's CARD OF 'doorkeeperkeep.Lived'. -/
def livedUptoCard : Claim7 := { stood := { row := livedUptoRow, standIns := [], harness := (true, "8a71157859d78a4ab4f1ee0a1130f88f2057862e8f7e2802a5d57d520f96dd51"), looks := true }, kinds := [], alts := [], laidByText := true, laidKinds := [.sentinel, .sentinel, .sentinel, .sentinel, .sentinel, .sentinel, .data, .sentinel, .sentinel], laidTests := true, laidLooks := .later }
def LivedUptoCardSaid : Prop := Claim7.holds Tryz.pinned (.plain (OpenSpec.upto livedSpec)) livedUptoCard

/-- THE SECOND FORM's CARD OF 'doorkeeperkeep.Gone'. -/
def goneUptoCard : Claim7 := { stood := { row := goneUptoRow, standIns := [], harness := (true, "8a71157859d78a4ab4f1ee0a1130f88f2057862e8f7e2802a5d57d520f96dd51"), looks := true }, kinds := [], alts := [], laidByText := true, laidKinds := [.sentinel, .sentinel, .sentinel, .sentinel, .sentinel, .sentinel, .data, .sentinel, .sentinel], laidTests := true, laidLooks := .later }
def GoneUptoCardSaid : Prop := Claim7.holds Tryz.pinned (.plain (OpenSpec.upto goneSpec)) goneUptoCard

/-- THE SECOND FORM's CARD OF 'doorkeeperkeep.Reopened'. -/
def reopenedUptoCard : Claim7 := { stood := { row := reopenedUptoRow, standIns := [], harness := (true, "8a71157859d78a4ab4f1ee0a1130f88f2057862e8f7e2802a5d57d520f96dd51"), looks := true }, kinds := [], alts := [], laidByText := true, laidKinds := [.sentinel, .sentinel, .sentinel, .sentinel, .sentinel, .sentinel, .data, .sentinel, .sentinel], laidTests := true, laidLooks := .later }
def ReopenedUptoCardSaid : Prop := Claim7.holds Tryz.pinned (.plain (OpenSpec.upto reopenedSpec)) reopenedUptoCard

/-- THE SECOND FORM's CARD OF 'doorkeeperkeep.Survives'. -/
def survivesUptoCard : Claim7 := { stood := { row := survivesUptoRow, standIns := [], harness := (true, "8a71157859d78a4ab4f1ee0a1130f88f2057862e8f7e2802a5d57d520f96dd51"), looks := true }, kinds := [], alts := [], laidByText := true, laidKinds := [.sentinel, .sentinel, .sentinel, .sentinel, .sentinel, .sentinel, .data, .sentinel, .sentinel], laidTests := true, laidLooks := .later }
def SurvivesUptoCardSaid : Prop := Claim7.holds Tryz.pinned (.plain (OpenSpec.upto survivesSpec)) survivesUptoCard
end Rows
end Go.Proofs.YtmnajomkfnkmeaaGreatDoor
