import Derived.Test.YtmnajomkfnkmeaaGreatDoorRefK
import Derived.BigQuiet
import Derived.Deep.DeepCutAuto
import Derived.Deep.RegionLaw
import Derived.Deep.AppendLies
namespace Go.Proofs.YtmnajomkfnkmeaaGreatDoor
open Go.RowKit
attribute [local go_sem] ofL_size
/-! THE DOCUMENT's OWN KEEPER: writing -/
theorem wo_slice {w : World} {s : Value} {l : List (Nat × Bs)} (h : WYO w s l) : ∃ a c, s = .slice a l.length c := by
  rcases h.cases with ⟨h1, h2⟩ | ⟨q, cap, h1, _⟩
  · exact ⟨none, 0, by rw [h1, h2]; rfl⟩
  · exact ⟨_, cap, h1⟩
end Go.Proofs.YtmnajomkfnkmeaaGreatDoor
