import Derived.Test.YtmnajomkfnkmeaaGreatDoorAct
import Derived.Test.YtmnajomkfnkmeaaGreatDoorGro
namespace Go.Proofs.YtmnajomkfnkmeaaGreatDoor
open Go.RowKit Go.Conc
attribute [local go_sem] ofL_size
/-! a keeper, and blocks besides it that stay as they are -/
def ownX (s : Value) : Nat → Prop := fun b => s.ownBlock = some b
def Stay (X : Nat → Prop) (w w' : World) : Prop := ∀ b, X b → w'.heap[b]? = w.heap[b]?
theorem Stay.refl (X : Nat → Prop) (w : World) : Stay X w w := fun _ _ => rfl
theorem Stay.trans {X : Nat → Prop} {a b c : World} (h : Stay X a b) (k : Stay X b c) : Stay X a c := fun i hi => (k i hi).trans (h i hi)
theorem Stay.sub {X Y : Nat → Prop} {a b : World} (h : Stay X a b) (hs : ∀ i, Y i → X i) : Stay Y a b := fun i hi => h i (hs i hi)
theorem Stay.of_below {X : Nat → Prop} {a b : World} (h : Below a.heap.size a b) (hx : ∀ i, X i → i < a.heap.size) : Stay X a b := fun i hi => h.block i (hx i hi)
theorem Own.stay {α : Type} {w w' : World} {t : TypeId} {k : Nat} {enc : α → List Value} {s : Value} {l : List α} (h : Own w t k enc s l) (hs : Stay (ownX s) w w') : Own w' t k enc s l := by
  refine ⟨h.1, ?_⟩
  rcases h.2 with ⟨h1, h2⟩ | ⟨q, cap, cur, rfl, h2, h3, h4, h5, h6, h7⟩
  · exact Or.inl ⟨h1, h2⟩
  · exact Or.inr ⟨q, cap, cur, rfl, h2, (hs q rfl).trans h3, h4, h5, h6, h7⟩
def Ka (w0 : World) (B kb : Nat) (m : Kp) (X : Nat → Prop) (w : World) : Prop :=
  ∃ F, KAt w B kb F m ∧ Below w0.heap.size w0 w ∧ (∀ b, F b → w0.heap.size ≤ b) ∧ ∀ b, X b → w0.heap.size ≤ b ∧ b < w.heap.size ∧ ¬ F b
theorem Ka.wide {w0 w : World} {B kb : Nat} {m : Kp} {X : Nat → Prop} (h : Ka w0 B kb m X w) : Below w0.heap.size w0 w := by
  obtain ⟨F, _, hb, _⟩ := h
  exact hb
theorem Ka.lt {w0 w : World} {B kb : Nat} {m : Kp} {X : Nat → Prop} (h : Ka w0 B kb m X w) {b : Nat} (hb : X b) : w0.heap.size ≤ b ∧ b < w.heap.size := by
  obtain ⟨F, _, _, _, hX⟩ := h
  exact ⟨(hX b hb).1, (hX b hb).2.1⟩
theorem Ka.kst {w0 w : World} {B kb : Nat} {m : Kp} {X : Nat → Prop} (h : Ka w0 B kb m X w) : Kst w0 B kb m w := by
  obtain ⟨F, ha, hb, hF, _⟩ := h
  exact ⟨F, ha, hb, hF⟩
theorem Ka.of_kst {w0 w : World} {B kb : Nat} {m : Kp} (h : Kst w0 B kb m w) : Ka w0 B kb m (ownX (.slice none 0 0)) w := by
  obtain ⟨F, ha, hb, hF⟩ := h
  exact ⟨F, ha, hb, hF, fun b hb => by cases hb⟩
theorem Ka.below {w0 w w' : World} {B kb : Nat} {m : Kp} {X : Nat → Prop} (h : Ka w0 B kb m X w) (hb : Below w.heap.size w w') : Ka w0 B kb m X w' ∧ Stay X w w' := by
  obtain ⟨F, ha, hw, hF, hX⟩ := h
  exact ⟨⟨F, ha.below hb, bstep hw hb, hF, fun b h => ⟨(hX b h).1, Nat.lt_of_lt_of_le (hX b h).2.1 hb.size, (hX b h).2.2⟩⟩, Stay.of_below hb (fun i hi => (hX i hi).2.1)⟩
theorem Ka.to {w0 w w' : World} {B kb : Nat} {F X : Nat → Prop} {m' : Kp} (hw : Below w0.heap.size w0 w) (hF : ∀ b, F b → w0.heap.size ≤ b) (hX : ∀ b, X b → w0.heap.size ≤ b ∧ b < w.heap.size ∧ ¬ F b) (h : KTo w B kb F m' w') : Ka w0 B kb m' X w' ∧ Stay X w w' := by
  obtain ⟨F2, ha, hf, hn⟩ := h
  refine ⟨⟨F2, ha, hw.trans (hf.belowB hw.size hF), fun b hb => ?_, fun b hb => ⟨(hX b hb).1, Nat.lt_of_lt_of_le (hX b hb).2.1 hf.size, fun h => ?_⟩⟩, fun b hb => hf.block b (hX b hb).2.1 (hX b hb).2.2⟩
  · rcases hn b hb with h | h
    · exact hF b h
    · exact Nat.le_trans hw.size h
  · rcases hn b h with h | h
    · exact (hX b hb).2.2 h
    · have := (hX b hb).2.1; omega
/-- what was made besides, is besides -/
theorem Ka.more {w0 w w' : World} {B kb : Nat} {m : Kp} {X : Nat → Prop} (h : Ka w0 B kb m X w) (hb : Below w.heap.size w w') : Ka w0 B kb m (fun b => X b ∨ (w.heap.size ≤ b ∧ b < w'.heap.size)) w' := by
  obtain ⟨F, ha, hw, hF, hX⟩ := h
  refine ⟨F, ha.below hb, bstep hw hb, hF, fun b h => ?_⟩
  rcases h with h | h
  · exact ⟨(hX b h).1, Nat.lt_of_lt_of_le (hX b h).2.1 hb.size, (hX b h).2.2⟩
  · exact ⟨Nat.le_trans hw.size h.1, h.2, fun e => by have := (ha.foot e).2; omega⟩
theorem Ka.sub {w0 w : World} {B kb : Nat} {m : Kp} {X Y : Nat → Prop} (h : Ka w0 B kb m X w) (hs : ∀ b, Y b → X b) : Ka w0 B kb m Y w := by
  obtain ⟨F, ha, hb, hF, hX⟩ := h
  exact ⟨F, ha, hb, hF, fun b h => hX b (hs b h)⟩
/-- another keeper is opened -/
theorem Ka.opened {w0 w w' : World} {B kb : Nat} {m m' : Kp} {X : Nat → Prop} {e : Ending} (h : Ka w0 B kb m X w) (ho : okTo w B (some m') e w') : ∃ kb', e = .returned (.pointer (some ⟨kb', 0, none⟩)) ∧ Ka w0 B kb' m' X w' ∧ Stay X w w' := by
  obtain ⟨F, ha, hw, hF, hX⟩ := h
  obtain ⟨kb', F', he, hk, hb, hF'⟩ := ho
  refine ⟨kb', he, ⟨F', hk, bstep hw hb, fun b hb' => Nat.le_trans hw.size (hF' b hb'), fun b h => ⟨(hX b h).1, Nat.lt_of_lt_of_le (hX b h).2.1 hb.size, fun e => ?_⟩⟩, Stay.of_below hb (fun i hi => (hX i hi).2.1)⟩
  have h1 := hF' b e
  have h2 := (hX b h).2.1
  omega
/-- a slice of its own has grown -/
theorem Ka.pushed {w0 w w2 : World} {B kb : Nat} {m : Kp} {s : Value} {o : Obj} {g : Nat} (h : Ka w0 B kb m (ownX s) w) (hgr : (w.alloc o).grownBy w2 s.ownBlock) (hloc : s.ownBlock = some g ∨ g = (w.alloc o).heap.size) (hlt : g < w2.heap.size) :
    Ka w0 B kb m (fun b => b = g) w2 := by
  obtain ⟨F, ha, hw, hF, hX⟩ := h
  have hf1 : Fr (fun b => s.ownBlock = some b) w (w.alloc o) := Fr.of_below ((Below.refl _ _).alloc (Nat.le_refl _) _)
  have hf : Fr (fun b => s.ownBlock = some b) w w2 := hf1.grown hgr (fun k hk _ => hk)
  have hs : (w.alloc o).heap.size = w.heap.size + 1 := by simp
  refine ⟨F, ha.kept hf (fun b hb e => (hX b e).2.2 hb), ⟨hf.os.trans hw.os, hf.tape.trans hw.tape, hf.output.trans hw.output, Nat.le_trans hw.size hf.size, fun i hi => (hf.block i (Nat.lt_of_lt_of_le hi hw.size) (fun e => by have := (hX i e).1; omega)).trans (hw.block i hi)⟩, hF, fun b hb => ?_⟩
  subst hb
  refine ⟨?_, hlt, fun e => ?_⟩
  · rcases hloc with h | h
    · exact (hX b h).1
    · have := hw.size; omega
  · have := (ha.foot e).2
    rcases hloc with h | h
    · exact (hX b h).2.2 e
    · omega
/-! its calls -/
theorem alogin (w0 : World) (B kb : Nat) (m : Kp) (X : Nat → Prop) (G : Gl) (u : Int) (w : World) (h : Ka w0 B kb m X w) (hG : Glob B G w0) :
    Calls Tryz.prog 19 #[.pointer (some ⟨kb, 0, none⟩), .int .i64 u] w fun e w' => e = .returned (.tuple #[.string (ofL (m.login u).1), .int .i64 (m.login u).2.1]) ∧ Ka w0 B kb (m.login u).2.2 X w' ∧ Stay X w w' := by
  obtain ⟨F, ha, hw, hF, hX⟩ := h
  exact (klogin_any B kb F m G u w ha (DigitsBelow hG hw)).mono fun e w' hh => ⟨hh.1, Ka.to hw hF hX hh.2⟩
theorem atouch (w0 : World) (B kb : Nat) (m : Kp) (X : Nat → Prop) (G : Gl) (p : Bs) (w : World) (h : Ka w0 B kb m X w) (hp : p.length ≤ 9223372036854775000) (hG : Glob B G w0) :
    Calls Tryz.prog 21 #[.pointer (some ⟨kb, 0, none⟩), .string (ofL p)] w fun e w' => e = .returned (.int .i64 (m.touch p).1) ∧ Ka w0 B kb (m.touch p).2 X w' ∧ Stay X w w' := by
  obtain ⟨F, ha, hw, hF, hX⟩ := h
  exact (ktouch_any B kb F m G p w ha hp (DigitsBelow hG hw)).mono fun e w' hh => ⟨hh.1, Ka.to hw hF hX hh.2⟩
theorem alogout (w0 : World) (B kb : Nat) (m : Kp) (X : Nat → Prop) (G : Gl) (p : Bs) (w : World) (h : Ka w0 B kb m X w) (hp : p.length ≤ 9223372036854775000) (hG : Glob B G w0) :
    Calls Tryz.prog 28 #[.pointer (some ⟨kb, 0, none⟩), .string (ofL p)] w fun e w' => e = .returned (.int .i64 (m.logout p).1) ∧ Ka w0 B kb (m.logout p).2 X w' ∧ Stay X w w' := by
  obtain ⟨F, ha, hw, hF, hX⟩ := h
  exact (klogout_any B kb F m G p w ha hp (DigitsBelow hG hw)).mono fun e w' hh => ⟨hh.1, Ka.to hw hF hX hh.2⟩
theorem arotate (w0 : World) (B kb : Nat) (m : Kp) (X : Nat → Prop) (G : Gl) (p : Bs) (w : World) (h : Ka w0 B kb m X w) (hp : p.length ≤ 9223372036854775000) (hG : Glob B G w0) :
    Calls Tryz.prog 29 #[.pointer (some ⟨kb, 0, none⟩), .string (ofL p)] w fun e w' => e = .returned (.tuple #[.string (ofL (m.rotate p).1), .int .i64 (m.rotate p).2.1]) ∧ Ka w0 B kb (m.rotate p).2.2 X w' ∧ Stay X w w' := by
  obtain ⟨F, ha, hw, hF, hX⟩ := h
  exact (krotate_any B kb F m G p w ha hp (DigitsBelow hG hw)).mono fun e w' hh => ⟨hh.1, Ka.to hw hF hX hh.2⟩
theorem aset (w0 : World) (B kb : Nat) (m : Kp) (X : Nat → Prop) (G : Gl) (p n v : Bs) (w : World) (h : Ka w0 B kb m X w) (hp : p.length ≤ 9223372036854775000) (hn : n.length ≤ 9223372036854775000) (hv : v.length ≤ 9223372036854775000) (hG : Glob B G w0) :
    Calls Tryz.prog 32 #[.pointer (some ⟨kb, 0, none⟩), .string (ofL p), .string (ofL n), .string (ofL v)] w fun e w' => e = .returned (.int .i64 (m.set p n v).1) ∧ Ka w0 B kb (m.set p n v).2 X w' ∧ Stay X w w' := by
  obtain ⟨F, ha, hw, hF, hX⟩ := h
  exact (kset_any B kb F m G p n v w ha hp hn hv (DigitsBelow hG hw)).mono fun e w' hh => ⟨hh.1, Ka.to hw hF hX hh.2⟩
theorem aoutall (w0 : World) (B kb : Nat) (m : Kp) (X : Nat → Prop) (G : Gl) (u : Int) (w : World) (h : Ka w0 B kb m X w) (hG : Glob B G w0) :
    Calls Tryz.prog 30 #[.pointer (some ⟨kb, 0, none⟩), .int .i64 u] w fun e w' => e = .returned (.tuple #[.int .i64 (m.logoutAll u).1, .int .i64 (m.logoutAll u).2.1]) ∧ Ka w0 B kb (m.logoutAll u).2.2 X w' ∧ Stay X w w' := by
  obtain ⟨F, ha, hw, hF, hX⟩ := h
  exact (klogoutAll_any B kb F m G u w ha (DigitsBelow hG hw)).mono fun e w' hh => ⟨hh.1, Ka.to hw hF hX hh.2⟩
theorem acompact (w0 : World) (B kb : Nat) (m : Kp) (X : Nat → Prop) (G : Gl) (w : World) (h : Ka w0 B kb m X w) (hG : Glob B G w0) :
    Calls Tryz.prog 34 #[.pointer (some ⟨kb, 0, none⟩)] w fun e w' => e = .returned (.int .i64 m.compact.1) ∧ Ka w0 B kb m.compact.2 X w' ∧ Stay X w w' := by
  obtain ⟨F, ha, hw, hF, hX⟩ := h
  exact (kcompact_any B kb F m G w ha (DigitsBelow hG hw)).mono fun e w' hh => ⟨hh.1, Ka.to hw hF hX hh.2⟩
theorem aget (w0 : World) (B kb : Nat) (m : Kp) (X : Nat → Prop) (G : Gl) (p n : Bs) (w : World) (h : Ka w0 B kb m X w) (hp : p.length ≤ 9223372036854775000) (hG : Glob B G w0) :
    Calls Tryz.prog 27 #[.pointer (some ⟨kb, 0, none⟩), .string (ofL p), .string (ofL n)] w fun e w' => e = .returned (.tuple #[.string (ofL (m.get p n).1), .int .i64 (m.get p n).2]) ∧ Ka w0 B kb m X w' ∧ Stay X w w' := by
  exact (sget w0 B kb m G p n w h.kst hp hG).mono fun e w' hh => ⟨hh.1, (h.below hh.2.2).1, (h.below hh.2.2).2⟩
theorem aleft (w0 : World) (B kb : Nat) (m : Kp) (X : Nat → Prop) (keep torn part : Int) (w : World) (h : Ka w0 B kb m X w) (h0 : -9223372036854775808 ≤ keep ∧ keep ≤ 9223372036854775807) (h2 : -9223372036854775808 ≤ part ∧ part ≤ 9223372036854775807) :
    Calls Tryz.prog 23 #[.pointer (some ⟨kb, 0, none⟩), .int .i64 keep, .int .i64 torn, .int .i64 part] w fun e w' => e = .returned (.string (ofL (m.left keep torn part))) ∧ Ka w0 B kb m X w' ∧ Stay X w w' := by
  exact (sleft w0 B kb m keep torn part w h.kst h0 h2).mono fun e w' hh => ⟨hh.1, (h.below hh.2.2).1, (h.below hh.2.2).2⟩
theorem aopened (w0 : World) (B kb : Nat) (m m' : Kp) (X : Nat → Prop) (G : Gl) (l : Bs) (c : Int) (long : Bool) (w : World) (h : Ka w0 B kb m X w) (hl : l.length ≤ 9223372036854775807) (hG : Glob B G w0) (hm : openK l (confK c long) = (0, some m')) :
    Calls Tryz.prog 24 #[.string (ofL l), cfgV (confK c long)] w fun e w' => ∃ kb', e = .returned (.pointer (some ⟨kb', 0, none⟩)) ∧ Ka w0 B kb' m' X w' ∧ Stay X w w' := by
  have := opened_any l (confK c long) B G w hl (by show (10 : Nat) ≤ _; decide) (DigitsBelow hG h.wide)
  rw [hm] at this
  exact this.mono fun e w' hh => h.opened hh
end Go.Proofs.YtmnajomkfnkmeaaGreatDoor
