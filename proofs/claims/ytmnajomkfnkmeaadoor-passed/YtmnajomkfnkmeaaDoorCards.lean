/-
  DERIVED. GIVEN WITH THE SEED: THE CARDS: each row of YtmnajomkfnkmeaaDoorRows.lean that lists a variable, with what it lists TIED to the program's text (the seventh form; the later family's looks); each row that meets fmt, with fmt's text TOLD by the authors' own Lean function (tested against real Go, not proved from fmt's source: count such statements apart). THE CARD IS WHAT COUNTS. Prove the row's statement (the work); the ties are given (YtmnajomkfnkmeaaDoorTie.lean); close each card by the builder's one call (the guide's Derived/Test/ToyasCard.lean, 'card_holds'). Laid BY PROGRAM, IN A SANDBOX (cutbox-door.mjs). By AI agents, Wed Nov 11 2026. No macro, syntax, notation, axiom, sorry.
-/
import Derived.Test.YtmnajomkfnkmeaaDoorRows
import GoSem.ClaimSeven
namespace Go.Proofs.YtmnajomkfnkmeaaDoor
namespace Rows

/-- THE TIED CARD OF 'doorkeeperlaw.Passed'. -/
def passedCard : Claim7 := { stood := { row := passedRow, standIns := [], harness := (true, "0b3b2d8d92d016189e0917864d45425d1bf1c5ed7ee35339a5e159153de6f38a"), looks := false }, kinds := [], alts := [], laidByText := true, laidKinds := [.sentinel, .data], laidTests := true, laidLooks := .later }
def PassedCardSaid : Prop := Claim7.holds Tryd.pinned (.plain (OpenSpec.ofChange passedSpec)) passedCard

/-- THE TIED CARD OF 'doorkeeperlaw.Formatted'. -/
def formattedCard : Claim7 := { stood := { row := formattedRow, standIns := [], harness := (true, "0b3b2d8d92d016189e0917864d45425d1bf1c5ed7ee35339a5e159153de6f38a"), looks := false }, kinds := [], alts := [], laidByText := true, laidKinds := [.sentinel], laidTests := true, laidLooks := .later }
def FormattedCardSaid : Prop := Claim7.holds Tryd.pinned (.plain (OpenSpec.ofChange formattedSpec)) formattedCard

/-- THE SECOND FORM's CARD OF 'doorkeeperlaw.Passed'. -/
def passedUptoCard : Claim7 := { stood := { row := passedUptoRow, standIns := [], harness := (true, "0b3b2d8d92d016189e0917864d45425d1bf1c5ed7ee35339a5e159153de6f38a"), looks := false }, kinds := [], alts := [], laidByText := true, laidKinds := [.sentinel, .data], laidTests := true, laidLooks := .later }
def PassedUptoCardSaid : Prop := Claim7.holds Tryd.pinned (.plain (OpenSpec.upto passedSpec)) passedUptoCard

/-- THE SECOND FORM's CARD OF 'doorkeeperlaw.Formatted'. -/
def formattedUptoCard : Claim7 := { stood := { row := formattedUptoRow, standIns := [], harness := (true, "0b3b2d8d92d016189e0917864d45425d1bf1c5ed7ee35339a5e159153de6f38a"), looks := false }, kinds := [], alts := [], laidByText := true, laidKinds := [.sentinel], laidTests := true, laidLooks := .later }
def FormattedUptoCardSaid : Prop := Claim7.holds Tryd.pinned (.plain (OpenSpec.upto formattedSpec)) formattedUptoCard
end Rows
end Go.Proofs.YtmnajomkfnkmeaaDoor
