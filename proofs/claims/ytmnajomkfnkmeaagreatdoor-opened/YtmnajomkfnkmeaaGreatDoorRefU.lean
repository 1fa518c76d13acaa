import Derived.Test.YtmnajomkfnkmeaaGreatDoorRefI
import Derived.Test.YtmnajomkfnkmeaaGreatDoorRefF
import Derived.Deep.RegionWith
namespace Go.Proofs.YtmnajomkfnkmeaaGreatDoor
open Go.RowKit
attribute [local go_sem] ofL_size
/-! THE DOCUMENT's OWN KEEPER: change, looked -/
/-- the table is another -/
theorem DKP.did {w w1 : World} {kb : Nat} {seed cn : Int} {wv : Value} {tb : Nat} {f f' : RF} {m : Kp} {T' : Tab} (h : DKP w kb seed cn wv tb f m) (hr : RT w1 tb T' f') (hf : Fr (fun b => b = tb) w w1) (hn : ∀ b, rfoot tb f' b → rfoot tb f b ∨ w.heap.size ≤ b) (hw : T'.wf) :
    DKP w1 kb seed cn wv tb f' { m with st := { m.st with T := T' } } := by
  have hkt : kb ≠ tb := fun e => h.kt (Or.inl e)
  refine ⟨h.blk.kept hf hkt, hr, h.way.kept hf (fun b hb e => (h.wk b hb).2 (Or.inl e)), fun hb => ?_, fun b hb => ⟨(h.wk b hb).1, fun hx => ?_⟩, ⟨hw, h.bnd.secret, h.bnd.idle, h.bnd.abs, h.bnd.now, h.bnd.drawn, h.bnd.size, h.bnd.gen, h.bnd.reg, h.bnd.slot, h.bnd.endp, h.bnd.next, h.bnd.fuse, h.bnd.few⟩⟩
  · rcases hn kb hb with e | e
    · exact h.kt e
    · have := h.blk.lt; omega
  · rcases hn b hx with e | e
    · exact (h.wk b hb).2 e
    · have := h.way.lt hb; omega
end Go.Proofs.YtmnajomkfnkmeaaGreatDoor
namespace Go.Proofs.YtmnajomkfnkmeaaGreatDoor
open Go.RowKit
attribute [local go_sem] ofL_size nA_size
end Go.Proofs.YtmnajomkfnkmeaaGreatDoor
