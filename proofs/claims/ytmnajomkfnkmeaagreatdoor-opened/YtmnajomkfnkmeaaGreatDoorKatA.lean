import Derived.Test.YtmnajomkfnkmeaaGreatDoorJrnB
import Derived.Test.YtmnajomkfnkmeaaGreatDoorGlob
import Derived.LaidEql
import Derived.Stop.Asserts
import Derived.RowKitTokens
import Derived.Test.YtmnajomkfnkmeaaGreatDoorPasses
import Derived.Test.YtmnajomkfnkmeaaGreatDoorPurB
import Derived.Test.YtmnajomkfnkmeaaGreatDoorFr
import Derived.Laws.IdiomStrings
import Derived.Deep.RegionWith
namespace Go.Proofs.YtmnajomkfnkmeaaGreatDoor
open Go.RowKit Go.Conc
attribute [local go_sem] ofL_size
/-! THE KEEPER IN MEMORY -/
def kepA (db jb sb : Nat) (m : Kp) : Array Value := #[.pointer (some ⟨db, 0, none⟩), .pointer (some ⟨jb, 0, none⟩), .pointer (some ⟨sb, 0, none⟩), .int .i64 m.drawn, .string (ofL m.secret), .int .i64 m.idle, .int .i64 m.abs, .int .i64 m.now]
/-- what is always so of a machine -/
structure MOK (m : Kp) : Prop where
  good : m.down = false → Good m
  wf : m.st.T.wf
  secret : m.secret.length ≤ 16
  idle : m.idle ≤ 1000000000
  abs : m.abs ≤ 1000000000
  now : m.now ≤ maxT
  drawn : m.drawn < 65537
structure KeepP (w : World) (B kb db jb sb mb : Nat) (f : Fn) (D : DataW Unit) (sl : Nat → Value) (Fd : Nat → Prop) (m : Kp) (d : Dv) : Prop where
  blk : Blk w kb (kepA db jb sb m) 90
  dj : DJ w B db jb Fd m d
  tab : TabAt w sb m.st.T mb f D sl
  kd : ¬ Fd kb ∧ kb ≠ jb ∧ B ≤ kb
  ft : ∀ b, foot sb mb f sl b → ¬ Fd b ∧ b ≠ jb ∧ b ≠ kb ∧ B ≤ b
  ok : MOK m
def kfoot (kb jb sb mb : Nat) (f : Fn) (sl : Nat → Value) (Fd : Nat → Prop) (b : Nat) : Prop := b = kb ∨ b = jb ∨ Fd b ∨ foot sb mb f sl b
def KAt (w : World) (B kb : Nat) (F : Nat → Prop) (m : Kp) : Prop := ∃ db jb sb mb f D sl Fd d, KeepP w B kb db jb sb mb f D sl Fd m d ∧ ∀ b, F b ↔ kfoot kb jb sb mb f sl Fd b
theorem KeepP.foot {w : World} {B kb db jb sb mb : Nat} {f : Fn} {D : DataW Unit} {sl : Nat → Value} {Fd : Nat → Prop} {m : Kp} {d : Dv} (h : KeepP w B kb db jb sb mb f D sl Fd m d) {b : Nat} (hb : kfoot kb jb sb mb f sl Fd b) : B ≤ b ∧ b < w.heap.size := by
  rcases hb with rfl | rfl | hb | hb
  · exact ⟨h.kd.2.2, h.blk.lt⟩
  · exact ⟨h.dj.ge, h.dj.jrn.lt⟩
  · exact h.dj.drv.foot hb
  · exact ⟨(h.ft b hb).2.2.2, h.tab.lt b hb⟩
theorem KeepP.kept {S : Nat → Prop} {w w' : World} {B kb db jb sb mb : Nat} {f : Fn} {D : DataW Unit} {sl : Nat → Value} {Fd : Nat → Prop} {m : Kp} {d : Dv} (h : KeepP w B kb db jb sb mb f D sl Fd m d) (hf : Fr S w w') (hn : ∀ b, kfoot kb jb sb mb f sl Fd b → ¬ S b) : KeepP w' B kb db jb sb mb f D sl Fd m d :=
  ⟨h.blk.kept hf (hn kb (Or.inl rfl)), h.dj.kept hf (fun b hb => hn b (hb.elim (fun h => Or.inr (Or.inr (Or.inl h))) (fun h => Or.inr (Or.inl h)))), h.tab.kept hf (fun b hb => hn b (Or.inr (Or.inr (Or.inr hb)))), h.kd, h.ft, h.ok⟩
theorem KeepP.below {w w' : World} {B kb db jb sb mb : Nat} {f : Fn} {D : DataW Unit} {sl : Nat → Value} {Fd : Nat → Prop} {m : Kp} {d : Dv} (h : KeepP w B kb db jb sb mb f D sl Fd m d) (hb : Below w.heap.size w w') : KeepP w' B kb db jb sb mb f D sl Fd m d := h.kept (S := fun _ => False) (Fr.of_below hb) (fun _ _ h => h)
theorem KAt.foot {w : World} {B kb : Nat} {F : Nat → Prop} {m : Kp} (h : KAt w B kb F m) {b : Nat} (hb : F b) : B ≤ b ∧ b < w.heap.size := by
  obtain ⟨db, jb, sb, mb, f, D, sl, Fd, d, hp, hF⟩ := h
  exact hp.foot ((hF b).1 hb)
theorem KAt.kept {S : Nat → Prop} {w w' : World} {B kb : Nat} {F : Nat → Prop} {m : Kp} (h : KAt w B kb F m) (hf : Fr S w w') (hn : ∀ b, F b → ¬ S b) : KAt w' B kb F m := by
  obtain ⟨db, jb, sb, mb, f, D, sl, Fd, d, hp, hF⟩ := h
  exact ⟨db, jb, sb, mb, f, D, sl, Fd, d, hp.kept hf (fun b hb => hn b ((hF b).2 hb)), hF⟩
theorem KAt.below {w w' : World} {B kb : Nat} {F : Nat → Prop} {m : Kp} (h : KAt w B kb F m) (hb : Below w.heap.size w w') : KAt w' B kb F m := h.kept (S := fun _ => False) (Fr.of_below hb) (fun _ _ h => h)
/-! ### errors as numbers -/
end Go.Proofs.YtmnajomkfnkmeaaGreatDoor
namespace Go.Proofs.YtmnajomkfnkmeaaGreatDoor
open Go.RowKit Go.Conc
attribute [local go_sem] ofL_size
end Go.Proofs.YtmnajomkfnkmeaaGreatDoor
namespace Go.Proofs.YtmnajomkfnkmeaaGreatDoor
open Go.RowKit Go.Conc
attribute [local go_sem] ofL_size
end Go.Proofs.YtmnajomkfnkmeaaGreatDoor
