import Derived.Test.YtmnajomkfnkmeaaGreatDoorOct
namespace Go.Proofs.YtmnajomkfnkmeaaGreatDoor
open Go.RowKit

/-- the digits lie where they lie -/
def DigitsIn (w : World) : Prop := 4 < w.heap.size ∧ ∀ i : Nat, i < 16 → w.cell? ⟨4, i, none⟩ = some (.int .u8 (hexDig i).toNat)

end Go.Proofs.YtmnajomkfnkmeaaGreatDoor
