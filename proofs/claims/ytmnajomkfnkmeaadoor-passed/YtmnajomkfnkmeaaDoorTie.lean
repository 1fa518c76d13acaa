/-
  DERIVED. GIVEN WITH THE SEED: THE PROGRAM's TIES (one call each: nine closed facts by the kernel) AND EACH ROW's TIE, after the 31st guide's Derived/Test/Toyas{Tie, Card}.lean. No idea stands in it: it is a product of the set-up. Laid BY PROGRAM, IN A SANDBOX (cutbox-door.mjs). By AI agents, Wed Nov 11 2026. No macro, syntax, notation, axiom, sorry.
-/
import Derived.Test.YtmnajomkfnkmeaaDoorRows
import Derived.LaidByTextLater
import Derived.SevenTiedAt
import Derived.LaidSub
import Derived.LaidOnce
namespace Go.Proofs.YtmnajomkfnkmeaaDoor
open Go
set_option maxRecDepth 100000
theorem seatTie1 : Tryd.prog.laidByTextLater [("doorkeeper/layout.ErrSize", Rows.laid_doorkeeper_layout_ErrSize), ("doorkeeper/passes.ErrNumber", Rows.laid_doorkeeper_passes_ErrNumber), ("doorkeeper/passes.digits", Rows.laid_doorkeeper_passes_digits)] [.sentinel, .sentinel, .data] true :=
  Program.laidByTextLater_by_one 52 8 17 (by kernel_rfl) (by kernel_rfl) (by kernel_rfl) (by kernel_rfl) (by kernel_rfl) (by kernel_rfl) (fun _ _ => by kernel_rfl)
theorem noOwnUnsafe : Tryd.pinned.checked.prog.headLifts.contains "ownunsafe" = false := by kernel_rfl
theorem tie : Tryd.prog.laidByTextLater [("doorkeeper/passes.ErrNumber", Rows.laid_doorkeeper_passes_ErrNumber), ("doorkeeper/passes.digits", Rows.laid_doorkeeper_passes_digits)] [.sentinel, .data] true :=
  Program.laidByTextLater.sub seatTie1 ["doorkeeper/passes.ErrNumber", "doorkeeper/passes.digits"] (by kernel_rfl) (by kernel_rfl)
theorem passed_row_tie : Rows.passedRow.laidByTextAt .later Tryd.pinned [.sentinel, .data] true :=
  OpenClaim.laidByTextAt_later rfl rfl tie noOwnUnsafe
theorem tie2 : Tryd.prog.laidByTextLater [("doorkeeper/layout.ErrSize", Rows.laid_doorkeeper_layout_ErrSize)] [.sentinel] true :=
  Program.laidByTextLater.sub seatTie1 ["doorkeeper/layout.ErrSize"] (by kernel_rfl) (by kernel_rfl)
theorem formatted_row_tie : Rows.formattedRow.laidByTextAt .later Tryd.pinned [.sentinel] true :=
  OpenClaim.laidByTextAt_later rfl rfl tie2 noOwnUnsafe
theorem passedUpto_row_tie : Rows.passedUptoRow.laidByTextAt .later Tryd.pinned [.sentinel, .data] true :=
  OpenClaim.laidByTextAt_later rfl rfl tie noOwnUnsafe
theorem formattedUpto_row_tie : Rows.formattedUptoRow.laidByTextAt .later Tryd.pinned [.sentinel] true :=
  OpenClaim.laidByTextAt_later rfl rfl tie2 noOwnUnsafe
end Go.Proofs.YtmnajomkfnkmeaaDoor
