import Derived.Test.YtmnajomkfnkmeaaGreatDoorJrn
import Derived.Test.YtmnajomkfnkmeaaGreatDoorPurB
namespace Go.Proofs.YtmnajomkfnkmeaaGreatDoor
open Go.RowKit Go.Conc
attribute [local go_sem] ofL_size
end Go.Proofs.YtmnajomkfnkmeaaGreatDoor
namespace Go.Proofs.YtmnajomkfnkmeaaGreatDoor
open Go.RowKit Go.Conc
attribute [local go_sem] ofL_size
def jnOf (len : Nat) (st : St) : Jn := ⟨st.gen, st.reg, st.slot, st.next, regAt len st.reg + st.endp, regAt len st.reg + halfN len⟩
/-- the drive and the journal, as the machine has them -/
structure DJ (w : World) (B db jb : Nat) (F : Nat → Prop) (m : Kp) (d : Dv) : Prop where
  drv : DrvAt w B db F d
  ok : d.ok
  kd : KD m d
  jrn : JB w jb db (jnOf m.disk.length m.st)
  apart : ¬ F jb
  ge : B ≤ jb
theorem DJ.kept {S : Nat → Prop} {w w' : World} {B db jb : Nat} {F : Nat → Prop} {m : Kp} {d : Dv} (h : DJ w B db jb F m d) (hf : Fr S w w') (hn : ∀ b, F b ∨ b = jb → ¬ S b) : DJ w' B db jb F m d :=
  ⟨h.drv.kept hf (fun b hb => hn b (Or.inl hb)), h.ok, h.kd, h.jrn.kept hf (hn jb (Or.inr rfl)), h.apart, h.ge⟩
end Go.Proofs.YtmnajomkfnkmeaaGreatDoor
