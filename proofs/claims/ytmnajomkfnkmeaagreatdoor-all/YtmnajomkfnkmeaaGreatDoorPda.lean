import Derived.Test.YtmnajomkfnkmeaaGreatDoorPus
set_option maxRecDepth 100000
set_option maxHeartbeats 8000000
set_option linter.unusedSimpArgs false
namespace Go.Proofs.YtmnajomkfnkmeaaGreatDoor
open Go.RowKit
attribute [local go_sem] ofL_size
theorem PAt.below {w w' : World} {B pb : Nat} {P : Nat → Prop} {m : Kp} {ps : List Bs} (h : PAt w B pb P m ps) (hb : Below w.heap.size w w') : PAt w' B pb P m ps := h.kept (S := fun _ => False) (Fr.of_below hb) (fun _ _ h => h)
theorem PT.after {w w0 w' : World} {B pb : Nat} {P : Nat → Prop} {m : Kp} {ps : List Bs} (hb : Below w.heap.size w w0) (h : PT w0 B pb P m ps w') : PT w B pb P m ps w' := by
 obtain ⟨P', h1, h2, h3⟩ := h;have hz := hb.size;refine ⟨P', h1, (Fr.of_below hb).trans h2 (fun _ _ h => h), fun b hb' => ?_⟩;rcases h3 b hb' with e | e
 ·exact Or.inl e
 ·exact Or.inr (by omega)
theorem uses_any (B pb : Nat) (P : Nat → Prop) (m : Kp) (ps : List Bs) (G : Gl) (o : OpD) (n : Nat) (w : World) (h : PAt w B pb P m ps) (hG : Glob B G w) (ho : OpOk o) (hps : PsOk ps n) (hn : n ≤ 1000000000000) :
  Calls Tryz.prog 48 #[.pointer (some ⟨pb, 0, none⟩), opV o] w fun e w' => e = .returned (.bool true) ∧ ∃ m' ps', PT w B pb P m' ps' w' ∧ PsOk ps' (n + 1) := by
 by_cases k4 : o.kind = 4
 ·exact uses_touch B pb P m ps G o n w h hG ho k4 hps hn
 by_cases k5 : o.kind = 5
 ·exact uses_rotate B pb P m ps G o n w h hG ho k5 hps hn
 by_cases k6 : o.kind = 6
 ·exact uses_set B pb P m ps G o n w h hG ho k6 hps hn
 by_cases k7 : o.kind = 7
 ·exact uses_get B pb P m ps G o n w h hG ho k7 hps hn
 exact uses_logout B pb P m ps G o n w h hG ho ⟨k4, k5, k6, k7⟩ hps hn
theorem neq_b {a b : Int} (h : a ≠ b) : (a == b) = false := by rw [Bool.eq_false_iff]; intro e; rw [beq_iff_eq] at e; exact h e
theorem does_uses (B pb : Nat) (P : Nat → Prop) (m : Kp) (ps : List Bs) (G : Gl) (o : OpD) (n : Nat) (w : World) (h : PAt w B pb P m ps) (hG : Glob B G w) (ho : OpOk o) (hk : o.kind ≠ 3 ∧ o.kind ≠ 9 ∧ o.kind ≠ 10 ∧ o.kind ≠ 11 ∧ o.kind ≠ 12 ∧ o.kind ≠ 13 ∧ o.kind ≠ 14) (hps : PsOk ps n) (hn : n ≤ 1000000000000) :
  Calls Tryz.prog 13 #[.pointer (some ⟨pb, 0, none⟩), opV o] w fun e w' => e = .returned (.bool true) ∧ ∃ m' ps', PT w B pb P m' ps' w' ∧ PsOk ps' (n + 1) := by
 have k3 := neq_b hk.1;have k9 := neq_b hk.2.1;have k10 := neq_b hk.2.2.1;have k11 := neq_b hk.2.2.2.1;have k12 := neq_b hk.2.2.2.2.1;have k13 := neq_b hk.2.2.2.2.2.1;have k14 := neq_b hk.2.2.2.2.2.2;obtain ⟨w0, hw0⟩ : ∃ w0, w0 = w.alloc (.cells (opC o) 29) := ⟨_, rfl⟩;have HB0 : Hid (Below w.heap.size w w0) := by rw [hw0]; exact bA
 have HO0 : Hid (Blk w0 w.heap.size (opC o) 29) := by rw [hw0]; exact Blk.new w _ _
 have HU : Hid (Calls _ _ _ _ _) := uses_any B pb P m ps G o n w0 (h.below HB0.out) (DigitsBelow hG HB0.out) ho hps hn;have o0 := HO0.out.cell 0;have o1 := HO0.out.cell 1;have o2 := HO0.out.cell 2;have o3 := HO0.out.cell 3;have o4 := HO0.out.cell 4;have o5 := HO0.out.cell 5;have o6 := HO0.out.cell 6;have o7 := HO0.out.cell 7;have o8 := HO0.out.cell 8;have o9 := HO0.out.cell 9;have oa := HO0.out.cell 10;have ob := HO0.out.cell 11;have oc := HO0.out.cell 12;have od := HO0.out.cell 13;simp only [opC, gT, gZ, gS] at o0 o1 o2 o3 o4 o5 o6 o7 o8 o9 oa ob oc od;clear h hG ho hk hps hn;unfold opV opC at *
 go_enter Tryz.func13, Tryz.ntmps13;go_upto_region 1 with fail
 rw [← hw0];clear hw0;go_wp2_with fail;refine HU.out.mono ?_;rintro e w1 ⟨rfl, m', ps', hpt, hpo⟩;have HE : Hid (PT w B pb P m' ps' w1 ∧ PsOk ps' (n + 1)) := ⟨PT.after HB0.out hpt, hpo⟩;clear hpt hpo HU o0 o1 o2 o3 o4 o5 o6 o7 o8 o9 oa ob oc od;go_wp2_with fail;go_ret;exact ⟨rfl, m', ps', HE.out⟩
theorem does_any2 (B pb : Nat) (P : Nat → Prop) (m : Kp) (ps : List Bs) (G : Gl) (o : OpD) (n : Nat) (w : World) (h : PAt w B pb P m ps) (hG : Glob B G w) (ho : OpOk o) (hps : PsOk ps n) (hn : n ≤ 1000000000000) :
  Calls Tryz.prog 13 #[.pointer (some ⟨pb, 0, none⟩), opV o] w fun e w' => e = .returned (.bool true) ∧ ∃ m' ps', PT w B pb P m' ps' w' ∧ PsOk ps' (n + 1) := by
 have hl := Nat.le_trans hps.1 hn;have hup : PsOk ps (n + 1) := ⟨Nat.le_succ_of_le hps.1, hps.2⟩;by_cases k3 : o.kind = 3
 ·exact (does_login B pb P m ps G o w h hG ho k3 hl).mono fun e w' ⟨h1, h2⟩ => ⟨h1, _, _, h2, hps.took (login_len m o.a)⟩
 by_cases k9 : o.kind = 9
 ·exact (does_all B pb P m ps G o w h hG ho k9 hl).mono fun e w' ⟨h1, h2⟩ => ⟨h1, _, _, h2, hup⟩
 by_cases k10 : o.kind = 10
 ·exact (does_tick B pb P m ps G o w h hG ho k10 hl).mono fun e w' ⟨h1, h2⟩ => ⟨h1, _, _, h2, hup⟩
 by_cases k11 : o.kind = 11
 ·exact (does_live B pb P m ps G o w h hG ho k11 hl).mono fun e w' ⟨h1, h2⟩ => ⟨h1, _, _, h2, hup⟩
 by_cases k12 : o.kind = 12
 ·exact (does_compact B pb P m ps G o w h hG ho k12 hl).mono fun e w' ⟨h1, h2⟩ => ⟨h1, _, _, h2, hup⟩
 by_cases k13 : o.kind = 13
 ·exact (does_arm B pb P m ps G o w h hG ho k13 hl).mono fun e w' ⟨h1, h2⟩ => ⟨h1, _, _, h2, hup⟩
 by_cases k14 : o.kind = 14
 ·exact (does_left B pb P m ps G o w h hG ho k14 hl).mono fun e w' ⟨h1, h2⟩ => ⟨h1, _, _, h2, hup⟩
 exact does_uses B pb P m ps G o n w h hG ho ⟨k3, k9, k10, k11, k12, k13, k14⟩ hps hn
end Go.Proofs.YtmnajomkfnkmeaaGreatDoor
