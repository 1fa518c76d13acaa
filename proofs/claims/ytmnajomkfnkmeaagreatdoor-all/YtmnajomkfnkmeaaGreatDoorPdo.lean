import Derived.Test.YtmnajomkfnkmeaaGreatDoorRefG
import Derived.Deep.DeepCutAuto
import Derived.BigQuiet
set_option maxRecDepth 100000
set_option maxHeartbeats 8000000
set_option linter.unusedSimpArgs false
namespace Go.Proofs.YtmnajomkfnkmeaaGreatDoor
open Go.RowKit
attribute [local go_sem] ofL_size
structure OpD where
 kind : Int
 keeper : Int
 pass : Int
 a : Int
 b : Int
 c : Int
 s : Bs
 name : Bs
 value : Bs
 cfg : Cfg
def opC (o : OpD) : Array Value := #[.int .i64 o.kind, .int .i64 o.keeper, .int .i64 o.pass, .int .i64 o.a, .int .i64 o.b, .int .i64 o.c, .string (ofL o.s), .string (ofL o.name), .string (ofL o.value), .string (ofL o.cfg.secret), .int .i64 o.cfg.seed, .int .i64 o.cfg.idle, .int .i64 o.cfg.abs, .int .i64 o.cfg.now]
def opV (o : OpD) : Value := .agg (opC o)
def i64 (n : Int) : Prop := -9223372036854775808 ≤ n ∧ n ≤ 9223372036854775807
structure OpOk (o : OpD) : Prop where
 pass : i64 o.pass
 a : i64 o.a
 b : i64 o.b
 c : i64 o.c
 keeper : i64 o.keeper
 s : o.s.length ≤ 9223372036854774000
 name : o.name.length ≤ 9223372036854774000
 value : o.value.length ≤ 9223372036854774000
 secret : o.cfg.secret.length ≤ 9223372036854774000
def PT (w : World) (B pb : Nat) (P : Nat → Prop) (m : Kp) (ps : List Bs) (w' : World) : Prop := ∃ P', PAt w' B pb P' m ps ∧ Fr P w w' ∧ ∀ b, P' b → P b ∨ w.heap.size ≤ b
theorem PT.mk {w w0 w2 : World} {B pb kb rb : Nat} {P : Nat → Prop} {sv sv' : Value} {Fk Fq Fk' Fq' : Nat → Prop} {m' : Kp} {ps' : List Bs} (hP : ∀ b, P b ↔ pfoot pb sv Fk Fq b) (hb : Below w.heap.size w w0) (h2 : PairP w2 B pb kb rb sv' Fk' Fq' m' ps') (hf : Fr (pfoot pb sv Fk Fq) w0 w2) (hn : ∀ b, pfoot pb sv' Fk' Fq' b → pfoot pb sv Fk Fq b ∨ w0.heap.size ≤ b) : PT w B pb P m' ps' w2 := by
 have hz := hb.size;refine ⟨pfoot pb sv' Fk' Fq', ⟨kb, rb, sv', Fk', Fq', h2, fun _ => Iff.rfl⟩, (Fr.of_below hb).trans (hf.mono (fun b _ e => (hP b).2 e)) (fun _ _ h => h), fun b hb => ?_⟩;rcases hn b hb with e | e
 ·exact Or.inl ((hP b).2 e)
 ·exact Or.inr (by omega)
theorem PT.took {w w0 w2 w3 : World} {B pb kb rb : Nat} {P : Nat → Prop} {sv sv' : Value} {Fk Fq Fk' Fq' : Nat → Prop} {m' : Kp} {ps' : List Bs} (hP : ∀ b, P b ↔ pfoot pb sv Fk Fq b) (hb : Below w.heap.size w w0) (hf2 : Fr (pfoot pb sv Fk Fq) w0 w2) (hn2 : ∀ b, pfoot pb sv Fk' Fq' b → pfoot pb sv Fk Fq b ∨ w0.heap.size ≤ b)
  (hp3 : PairP w3 B pb kb rb sv' Fk' Fq' m' ps') (hf3 : Fr (fun b => b = pb ∨ sv.ownBlock = some b) w2 w3) (hn3 : ∀ b, sv'.ownBlock = some b → sv.ownBlock = some b ∨ w2.heap.size ≤ b) : PT w B pb P m' ps' w3 := by
 refine PT.mk hP hb hp3 (hf2.trans hf3 (fun i hi e => ?_)) (fun b hb => ?_)
 ·rcases e with e | e
  ·exact Or.inl e
  ·exact Or.inr (Or.inr (Or.inr e))
 ·have hz := hf2.size;rcases hb with e | e | e | e
  ·exact hn2 b (Or.inl e)
  ·exact hn2 b (Or.inr (Or.inl e))
  ·exact hn2 b (Or.inr (Or.inr (Or.inl e)))
  ·rcases hn3 b e with e | e
   ·exact hn2 b (Or.inr (Or.inr (Or.inr e)))
   ·exact Or.inr (by omega)
theorem pst1 {w w' : World} {S : Nat → Prop} {pb ob i j : Nat} {u v : Value} (h : w.cell? ⟨pb, i, none⟩ = some u ∧ w.cell? ⟨ob, j, none⟩ = some v ∧ pb < w.heap.size ∧ ob < w.heap.size) (hf : Fr S w w') (hn : Hid (¬ S pb ∧ ¬ S ob)) :
  w'.cell? ⟨pb, i, none⟩ = some u ∧ w'.cell? ⟨ob, j, none⟩ = some v ∧ pb < w'.heap.size ∧ ob < w'.heap.size := by
 obtain ⟨h1, h2, h3, h4⟩ := h;exact ⟨(World.cell?_of_block (w := w) (hf.block pb h3 hn.out.1)).trans h1, (World.cell?_of_block (w := w) (hf.block ob h4 hn.out.2)).trans h2, Nat.lt_of_lt_of_le h3 hf.size, Nat.lt_of_lt_of_le h4 hf.size⟩
theorem bsR (x : Bs) : ((ofL x).toList == (ofL x).toList) = true := beq_self_eq_true _
theorem does_login (B pb : Nat) (P : Nat → Prop) (m : Kp) (ps : List Bs) (G : Gl) (o : OpD) (w : World) (h : PAt w B pb P m ps) (hG : Glob B G w) (ho : OpOk o) (hk : o.kind = 3) (hn : ps.length ≤ 1000000000000) :
  Calls Tryz.prog 13 #[.pointer (some ⟨pb, 0, none⟩), opV o] w fun e w' => e = .returned (.bool true) ∧ PT w B pb P (m.login o.a).2.2 (if (m.login o.a).1.isEmpty = true then ps else ps ++ [(m.login o.a).1]) w' := by
 obtain ⟨kb, rb, sv, Fk, Fq, hp, hP⟩ := h;have HP : Hid (PairP w B pb kb rb sv Fk Fq m ps) := hp;have HPF : Hid (∀ b, P b ↔ pfoot pb sv Fk Fq b) := hP;have HG : Hid (Glob B G w) := hG;have HOK : Hid (OpOk o) := ho;have HN : Hid (ps.length ≤ 1000000000000) := hn;clear hp hP hG ho hn;obtain ⟨w0, hw0⟩ : ∃ w0, w0 = w.alloc (.cells (opC o) 29) := ⟨_, rfl⟩;have HB0 : Hid (Below w.heap.size w w0) := by rw [hw0]; exact bA
 have HO0 : Hid (Blk w0 w.heap.size (opC o) 29) := by rw [hw0]; exact Blk.new w _ _
 have HP0 : Hid (PairP w0 B pb kb rb sv Fk Fq m ps) := HP.out.kept (Fr.of_below (S := fun _ => False) HB0.out) (fun _ _ h => h);have HNK : Hid (¬ Fk pb ∧ ¬ Fk w.heap.size) := ⟨HP.out.kp, fun x => by have := (HP.out.k.foot x).2; omega⟩;have HNQ : Hid (¬ Fq pb ∧ ¬ Fq w.heap.size) := ⟨HP.out.rp, fun x => by have := HP.out.r.foot x; omega⟩;have HMOK : Hid (MOK m) := HP.out.k.ok;have o0 := HO0.out.cell 0;have o3 := HO0.out.cell 3;have c0 := HP0.out.blk.cell 0;simp only [opC, gT, gZ, gS] at o0 o3 c0;rw [hk] at o0;have hbo := HO0.out.lt;have hbp := HP0.out.blk.lt;have HCK : Hid (Calls _ _ _ _ _) := klogin_any B kb Fk m G o.a w0.drew (HP0.out.k.below (Below.refl _ _).drew) (DigitsBelow HG.out HB0.out.drew);have HCR : Hid (∀ w', DK w' rb Fq m → Calls Tryz.prog 40 #[.pointer (some ⟨rb, 0, none⟩), .int .i64 o.a] w' fun e w'' => e = .returned (.tuple #[.string (ofL (m.login o.a).1), .int .i64 (m.login o.a).2.1]) ∧ DKTo w' rb Fq (m.login o.a).2.2 w'') := fun w' h' => dklogin_any rb Fq m o.a w' h' HMOK.out;have HFIT : Hid (WayFits (m.login o.a).2.2) := login_fits HMOK.out HP.out.fit o.a;have HKD : Hid (o.kind = 3) := hk;generalize m.login o.a = V at *
 obtain ⟨v1, v2, m'⟩ := V;obtain ⟨Q, hQ⟩ : ∃ Q, Q = if v1.isEmpty = true then ps else ps ++ [v1] := ⟨_, rfl⟩
 have HQ : Hid (Q = if v1.isEmpty = true then ps else ps ++ [v1]) := hQ;change Calls _ _ _ _ (fun e w' => e = _ ∧ PT w B pb P m' (if v1.isEmpty = true then ps else ps ++ [v1]) w');rw [← hQ];clear hQ;clear hk;unfold opV opC at *
 go_enter Tryz.func13, Tryz.ntmps13;go_upto_region 1 with fail
 rw [← hw0];clear hw0;go_upto_region 3 with fail
 go_region_held3 (fun w' => w'.cell? ⟨pb, 0, none⟩ = some (.pointer (some ⟨kb, 0, none⟩)) ∧ w'.cell? ⟨w.heap.size, 3, none⟩ = some (.int .i64 o.a) ∧ pb < w'.heap.size ∧ w.heap.size < w'.heap.size)
  (first
   | exact pst1 (by assumption) (by assumption) HNK
   | assumption
   | exact ⟨c0, o3, hbp, hbo⟩)
  (first
   | (go_at_call 19; refine HCK.out.mono ?_; rintro e w' ⟨rfl, Fk1, ka, kf, kn⟩))
 rename_i hHeld;obtain ⟨w1, hw1⟩ : ∃ w1, w1 = w' := ⟨_, rfl⟩;subst hw1;have hbd : Below w0.heap.size w0 w0.drew := (Below.refl _ _).drew;have HKT : Hid (KTo w0 B kb Fk m' w1) := KTo.after_below hbd ⟨Fk1, ka, kf, kn⟩;have HR1 : Hid (DK w1 rb Fq m) := (HP0.out.r.below hbd).kept kf (fun b hb e => HP0.out.kr b e hb);have HR1d : Hid (DK w1.drew rb Fq m) := HR1.out.below (Below.refl _ _).drew;have c1 := (HP0.out.blk.drew.kept kf HNK.out.1).cell 1;simp only [gT, gZ, gS] at c1;obtain ⟨-, o3', hbp', hbo'⟩ := hHeld;clear o0 o3 c0 hbo hbp ka kf kn hbd HCK;go_upto_region 4 with fail
 go_region_held3 (fun w' => w'.cell? ⟨pb, 1, none⟩ = some (.pointer (some ⟨rb, 0, none⟩)) ∧ w'.cell? ⟨w.heap.size, 3, none⟩ = some (.int .i64 o.a) ∧ pb < w'.heap.size ∧ w.heap.size < w'.heap.size)
  (first
   | exact pst1 (by assumption) (by assumption) HNQ
   | assumption
   | exact ⟨c1, o3', hbp', hbo'⟩)
  (first
   | (go_at_call 40; refine (HCR.out _ HR1d.out).mono ?_; rintro e w' ⟨rfl, Fq1, qa, qf, qn⟩))
 obtain ⟨w2, hw2⟩ : ∃ w2, w2 = w' := ⟨_, rfl⟩;subst hw2;obtain ⟨Fk', Fq', hp2, hf2, hn2⟩ := pair_step HP0.out HKT.out (DKTo.trans (Fr.of_below ((Below.refl _ _).drew)) (fun b h => Or.inl h) ⟨Fq1, qa, qf, qn⟩) HFIT.out;have H2 : Hid (PairP w2 B pb kb rb sv Fk' Fq' m' ps ∧ Fr (pfoot pb sv Fk Fq) w0 w2 ∧ ∀ b, pfoot pb sv Fk' Fq' b → pfoot pb sv Fk Fq b ∨ w0.heap.size ≤ b) := ⟨hp2, hf2, hn2⟩;have HT : Hid (Calls _ _ _ _ _) := takes_any B pb kb rb sv Fk' Fq' m' ps v1 w2 hp2 HN.out;clear c1 o3' hbp' hbo' qa qf qn hp2 hf2 hn2 HCR;go_wp2_with fail;refine HT.out.mono ?_;rintro e w3 ⟨rfl, sv', hp3, hf3, hn3⟩;have HE : Hid (PT w B pb P m' Q w3) := PT.took HPF.out HB0.out H2.out.2.1 H2.out.2.2 (by rw [HQ.out]; exact hp3) hf3 hn3;clear hp3 hf3 hn3 HT;go_wp2_with fail;go_ret;exact ⟨by simp, HE.out⟩
theorem does_all (B pb : Nat) (P : Nat → Prop) (m : Kp) (ps : List Bs) (G : Gl) (o : OpD) (w : World) (h : PAt w B pb P m ps) (hG : Glob B G w) (ho : OpOk o) (hk : o.kind = 9) (hn : ps.length ≤ 1000000000000) :
  Calls Tryz.prog 13 #[.pointer (some ⟨pb, 0, none⟩), opV o] w fun e w' => e = .returned (.bool true) ∧ PT w B pb P (m.logoutAll o.a).2.2 ps w' := by
 obtain ⟨kb, rb, sv, Fk, Fq, hp, hP⟩ := h;have HP : Hid (PairP w B pb kb rb sv Fk Fq m ps) := hp;have HPF : Hid (∀ b, P b ↔ pfoot pb sv Fk Fq b) := hP;have HG : Hid (Glob B G w) := hG;have HOK : Hid (OpOk o) := ho;have HN : Hid (ps.length ≤ 1000000000000) := hn;clear hp hP hG ho hn;obtain ⟨w0, hw0⟩ : ∃ w0, w0 = w.alloc (.cells (opC o) 29) := ⟨_, rfl⟩;have HB0 : Hid (Below w.heap.size w w0) := by rw [hw0]; exact bA
 have HO0 : Hid (Blk w0 w.heap.size (opC o) 29) := by rw [hw0]; exact Blk.new w _ _
 have HP0 : Hid (PairP w0 B pb kb rb sv Fk Fq m ps) := HP.out.kept (Fr.of_below (S := fun _ => False) HB0.out) (fun _ _ h => h);have HNK : Hid (¬ Fk pb ∧ ¬ Fk w.heap.size) := ⟨HP.out.kp, fun x => by have := (HP.out.k.foot x).2; omega⟩;have HNQ : Hid (¬ Fq pb ∧ ¬ Fq w.heap.size) := ⟨HP.out.rp, fun x => by have := HP.out.r.foot x; omega⟩;have HMOK : Hid (MOK m) := HP.out.k.ok;have o0 := HO0.out.cell 0;have o3 := HO0.out.cell 3;have c0 := HP0.out.blk.cell 0;simp only [opC, gT, gZ, gS] at o0 o3 c0;rw [hk] at o0;have hbo := HO0.out.lt;have hbp := HP0.out.blk.lt;have HCK : Hid (Calls _ _ _ _ _) := klogoutAll_any B kb Fk m G o.a w0.drew (HP0.out.k.below (Below.refl _ _).drew) (DigitsBelow HG.out HB0.out.drew);have HCR : Hid (∀ w', DK w' rb Fq m → Calls Tryz.prog 42 #[.pointer (some ⟨rb, 0, none⟩), .int .i64 o.a] w' fun e w'' => e = .returned (.tuple #[.int .i64 (m.logoutAll o.a).1, .int .i64 (m.logoutAll o.a).2.1]) ∧ DKTo w' rb Fq (m.logoutAll o.a).2.2 w'') := fun w' h' => dklogoutAll_any rb Fq m o.a w' h' HMOK.out;have HFIT : Hid (WayFits (m.logoutAll o.a).2.2) := outall_fits HMOK.out HP.out.fit o.a;have HKD : Hid (o.kind = 9) := hk;generalize m.logoutAll o.a = V at *
 obtain ⟨v1, v2, m'⟩ := V;clear hk;unfold opV opC at *
 go_enter Tryz.func13, Tryz.ntmps13;go_upto_region 1 with fail
 rw [← hw0];clear hw0;go_upto_region 8 with fail
 go_region_held3 (fun w' => w'.cell? ⟨pb, 0, none⟩ = some (.pointer (some ⟨kb, 0, none⟩)) ∧ w'.cell? ⟨w.heap.size, 3, none⟩ = some (.int .i64 o.a) ∧ pb < w'.heap.size ∧ w.heap.size < w'.heap.size)
  (first
   | exact pst1 (by assumption) (by assumption) HNK
   | assumption
   | exact ⟨c0, o3, hbp, hbo⟩)
  (first
   | (go_at_call 30; refine HCK.out.mono ?_; rintro e w' ⟨rfl, Fk1, ka, kf, kn⟩))
 rename_i hHeld;obtain ⟨w1, hw1⟩ : ∃ w1, w1 = w' := ⟨_, rfl⟩;subst hw1;have hbd : Below w0.heap.size w0 w0.drew := (Below.refl _ _).drew;have HKT : Hid (KTo w0 B kb Fk m' w1) := KTo.after_below hbd ⟨Fk1, ka, kf, kn⟩;have HR1 : Hid (DK w1 rb Fq m) := (HP0.out.r.below hbd).kept kf (fun b hb e => HP0.out.kr b e hb);have HR1d : Hid (DK w1.drew rb Fq m) := HR1.out.below (Below.refl _ _).drew;have c1 := (HP0.out.blk.drew.kept kf HNK.out.1).cell 1;simp only [gT, gZ, gS] at c1;obtain ⟨-, o3', hbp', hbo'⟩ := hHeld;clear o0 o3 c0 hbo hbp ka kf kn hbd HCK;go_upto_region 9 with fail
 go_region_held3 (fun w' => w'.cell? ⟨pb, 1, none⟩ = some (.pointer (some ⟨rb, 0, none⟩)) ∧ w'.cell? ⟨w.heap.size, 3, none⟩ = some (.int .i64 o.a) ∧ pb < w'.heap.size ∧ w.heap.size < w'.heap.size)
  (first
   | exact pst1 (by assumption) (by assumption) HNQ
   | assumption
   | exact ⟨c1, o3', hbp', hbo'⟩)
  (first
   | (go_at_call 42; refine (HCR.out _ HR1d.out).mono ?_; rintro e w' ⟨rfl, Fq1, qa, qf, qn⟩))
 obtain ⟨w2, hw2⟩ : ∃ w2, w2 = w' := ⟨_, rfl⟩;subst hw2;obtain ⟨Fk', Fq', hp2, hf2, hn2⟩ := pair_step HP0.out HKT.out (DKTo.trans (Fr.of_below ((Below.refl _ _).drew)) (fun b h => Or.inl h) ⟨Fq1, qa, qf, qn⟩) HFIT.out;have HE : Hid (PT w B pb P m' ps w2) := PT.mk HPF.out HB0.out hp2 hf2 hn2;clear c1 o3' hbp' hbo' qa qf qn hp2 hf2 hn2 HCR;go_wp2_with fail;go_ret;exact ⟨by simp, HE.out⟩
theorem does_tick (B pb : Nat) (P : Nat → Prop) (m : Kp) (ps : List Bs) (G : Gl) (o : OpD) (w : World) (h : PAt w B pb P m ps) (hG : Glob B G w) (ho : OpOk o) (hk : o.kind = 10) (hn : ps.length ≤ 1000000000000) :
  Calls Tryz.prog 13 #[.pointer (some ⟨pb, 0, none⟩), opV o] w fun e w' => e = .returned (.bool true) ∧ PT w B pb P (m.tick o.a).2 ps w' := by
 obtain ⟨kb, rb, sv, Fk, Fq, hp, hP⟩ := h;have HP : Hid (PairP w B pb kb rb sv Fk Fq m ps) := hp;have HPF : Hid (∀ b, P b ↔ pfoot pb sv Fk Fq b) := hP;have HG : Hid (Glob B G w) := hG;have HOK : Hid (OpOk o) := ho;have HN : Hid (ps.length ≤ 1000000000000) := hn;clear hp hP hG ho hn;obtain ⟨w0, hw0⟩ : ∃ w0, w0 = w.alloc (.cells (opC o) 29) := ⟨_, rfl⟩;have HB0 : Hid (Below w.heap.size w w0) := by rw [hw0]; exact bA
 have HO0 : Hid (Blk w0 w.heap.size (opC o) 29) := by rw [hw0]; exact Blk.new w _ _
 have HP0 : Hid (PairP w0 B pb kb rb sv Fk Fq m ps) := HP.out.kept (Fr.of_below (S := fun _ => False) HB0.out) (fun _ _ h => h);have HNK : Hid (¬ Fk pb ∧ ¬ Fk w.heap.size) := ⟨HP.out.kp, fun x => by have := (HP.out.k.foot x).2; omega⟩;have HNQ : Hid (¬ Fq pb ∧ ¬ Fq w.heap.size) := ⟨HP.out.rp, fun x => by have := HP.out.r.foot x; omega⟩;have HMOK : Hid (MOK m) := HP.out.k.ok;have o0 := HO0.out.cell 0;have o3 := HO0.out.cell 3;have c0 := HP0.out.blk.cell 0;simp only [opC, gT, gZ, gS] at o0 o3 c0;rw [hk] at o0;have hbo := HO0.out.lt;have hbp := HP0.out.blk.lt;have HCK : Hid (Calls _ _ _ _ _) := ktick_any B kb Fk m o.a w0.drew (HP0.out.k.below (Below.refl _ _).drew) HOK.out.a;have HCR : Hid (∀ w', DK w' rb Fq m → Calls Tryz.prog 43 #[.pointer (some ⟨rb, 0, none⟩), .int .i64 o.a] w' fun e w'' => e = .returned (.int .i64 (m.tick o.a).1) ∧ DKTo w' rb Fq (m.tick o.a).2 w'') := fun w' h' => dktick_any rb Fq m o.a w' h' HOK.out.a;have HFIT : Hid (WayFits (m.tick o.a).2) := tick_fits HP.out.fit o.a;have HKD : Hid (o.kind = 10) := hk;generalize m.tick o.a = V at *
 obtain ⟨v1, m'⟩ := V;clear hk;unfold opV opC at *
 go_enter Tryz.func13, Tryz.ntmps13;go_upto_region 1 with fail
 rw [← hw0];clear hw0;go_upto_region 12 with fail
 go_region_held3 (fun w' => w'.cell? ⟨pb, 0, none⟩ = some (.pointer (some ⟨kb, 0, none⟩)) ∧ w'.cell? ⟨w.heap.size, 3, none⟩ = some (.int .i64 o.a) ∧ pb < w'.heap.size ∧ w.heap.size < w'.heap.size)
  (first
   | exact pst1 (by assumption) (by assumption) HNK
   | assumption
   | exact ⟨c0, o3, hbp, hbo⟩)
  (first
   | (go_at_call 20; refine HCK.out.mono ?_; rintro e w' ⟨rfl, Fk1, ka, kf, kn⟩))
 rename_i hHeld;obtain ⟨w1, hw1⟩ : ∃ w1, w1 = w' := ⟨_, rfl⟩;subst hw1;have hbd : Below w0.heap.size w0 w0.drew := (Below.refl _ _).drew;have HKT : Hid (KTo w0 B kb Fk m' w1) := KTo.after_below hbd ⟨Fk1, ka, kf, kn⟩;have HR1 : Hid (DK w1 rb Fq m) := (HP0.out.r.below hbd).kept kf (fun b hb e => HP0.out.kr b e hb);have HR1d : Hid (DK w1.drew rb Fq m) := HR1.out.below (Below.refl _ _).drew;have c1 := (HP0.out.blk.drew.kept kf HNK.out.1).cell 1;simp only [gT, gZ, gS] at c1;obtain ⟨-, o3', hbp', hbo'⟩ := hHeld;clear o0 o3 c0 hbo hbp ka kf kn hbd HCK;go_upto_region 13 with fail
 go_region_held3 (fun w' => w'.cell? ⟨pb, 1, none⟩ = some (.pointer (some ⟨rb, 0, none⟩)) ∧ w'.cell? ⟨w.heap.size, 3, none⟩ = some (.int .i64 o.a) ∧ pb < w'.heap.size ∧ w.heap.size < w'.heap.size)
  (first
   | exact pst1 (by assumption) (by assumption) HNQ
   | assumption
   | exact ⟨c1, o3', hbp', hbo'⟩)
  (first
   | (go_at_call 43; refine (HCR.out _ HR1d.out).mono ?_; rintro e w' ⟨rfl, Fq1, qa, qf, qn⟩))
 obtain ⟨w2, hw2⟩ : ∃ w2, w2 = w' := ⟨_, rfl⟩;subst hw2;obtain ⟨Fk', Fq', hp2, hf2, hn2⟩ := pair_step HP0.out HKT.out (DKTo.trans (Fr.of_below ((Below.refl _ _).drew)) (fun b h => Or.inl h) ⟨Fq1, qa, qf, qn⟩) HFIT.out;have HE : Hid (PT w B pb P m' ps w2) := PT.mk HPF.out HB0.out hp2 hf2 hn2;clear c1 o3' hbp' hbo' qa qf qn hp2 hf2 hn2 HCR;go_wp2_with fail;go_ret;exact ⟨by simp, HE.out⟩
theorem does_compact (B pb : Nat) (P : Nat → Prop) (m : Kp) (ps : List Bs) (G : Gl) (o : OpD) (w : World) (h : PAt w B pb P m ps) (hG : Glob B G w) (ho : OpOk o) (hk : o.kind = 12) (hn : ps.length ≤ 1000000000000) :
  Calls Tryz.prog 13 #[.pointer (some ⟨pb, 0, none⟩), opV o] w fun e w' => e = .returned (.bool true) ∧ PT w B pb P m.compact.2 ps w' := by
 obtain ⟨kb, rb, sv, Fk, Fq, hp, hP⟩ := h;have HP : Hid (PairP w B pb kb rb sv Fk Fq m ps) := hp;have HPF : Hid (∀ b, P b ↔ pfoot pb sv Fk Fq b) := hP;have HG : Hid (Glob B G w) := hG;have HOK : Hid (OpOk o) := ho;have HN : Hid (ps.length ≤ 1000000000000) := hn;clear hp hP hG ho hn;obtain ⟨w0, hw0⟩ : ∃ w0, w0 = w.alloc (.cells (opC o) 29) := ⟨_, rfl⟩;have HB0 : Hid (Below w.heap.size w w0) := by rw [hw0]; exact bA
 have HO0 : Hid (Blk w0 w.heap.size (opC o) 29) := by rw [hw0]; exact Blk.new w _ _
 have HP0 : Hid (PairP w0 B pb kb rb sv Fk Fq m ps) := HP.out.kept (Fr.of_below (S := fun _ => False) HB0.out) (fun _ _ h => h);have HNK : Hid (¬ Fk pb ∧ ¬ Fk w.heap.size) := ⟨HP.out.kp, fun x => by have := (HP.out.k.foot x).2; omega⟩;have HNQ : Hid (¬ Fq pb ∧ ¬ Fq w.heap.size) := ⟨HP.out.rp, fun x => by have := HP.out.r.foot x; omega⟩;have HMOK : Hid (MOK m) := HP.out.k.ok;have o0 := HO0.out.cell 0;have o3 := HO0.out.cell 3;have c0 := HP0.out.blk.cell 0;simp only [opC, gT, gZ, gS] at o0 o3 c0;rw [hk] at o0;have hbo := HO0.out.lt;have hbp := HP0.out.blk.lt;have HCK : Hid (Calls _ _ _ _ _) := kcompact_any B kb Fk m G w0 HP0.out.k (DigitsBelow HG.out HB0.out);have HCR : Hid (∀ w', DK w' rb Fq m → Calls Tryz.prog 45 #[.pointer (some ⟨rb, 0, none⟩)] w' fun e w'' => e = .returned (.int .i64 m.compact.1) ∧ DKTo w' rb Fq m.compact.2 w'') := fun w' h' => dkcompact_any rb Fq m w' h' HMOK.out;have HFIT : Hid (WayFits m.compact.2) := compact_fits HMOK.out HP.out.fit;have HKD : Hid (o.kind = 12) := hk;generalize m.compact = V at *
 obtain ⟨v1, m'⟩ := V;clear hk;unfold opV opC at *
 go_enter Tryz.func13, Tryz.ntmps13;go_upto_region 1 with fail
 rw [← hw0];clear hw0;go_wp2_with fail;refine HCK.out.mono ?_;rintro e w' ⟨rfl, Fk1, ka, kf, kn⟩;obtain ⟨w1, hw1⟩ : ∃ w1, w1 = w' := ⟨_, rfl⟩;subst hw1;have hbd : Below w0.heap.size w0 w0 := Below.refl _ _;have HKT : Hid (KTo w0 B kb Fk m' w1) := KTo.after_below hbd ⟨Fk1, ka, kf, kn⟩;have HR1 : Hid (DK w1 rb Fq m) := (HP0.out.r.below hbd).kept kf (fun b hb e => HP0.out.kr b e hb);have c1 := (HP0.out.blk.kept kf HNK.out.1).cell 1;simp only [gT, gZ, gS] at c1;clear o0 o3 c0 hbo hbp ka kf kn hbd HCK;go_wp2_with fail;refine (HCR.out _ HR1.out).mono ?_;rintro e w2 ⟨rfl, Fq1, qa, qf, qn⟩;obtain ⟨Fk', Fq', hp2, hf2, hn2⟩ := pair_step HP0.out HKT.out (⟨Fq1, qa, qf, qn⟩) HFIT.out;have HE : Hid (PT w B pb P m' ps w2) := PT.mk HPF.out HB0.out hp2 hf2 hn2;clear c1 qa qf qn hp2 hf2 hn2 HCR;go_wp2_with fail;go_ret;exact ⟨by simp, HE.out⟩
theorem does_arm (B pb : Nat) (P : Nat → Prop) (m : Kp) (ps : List Bs) (G : Gl) (o : OpD) (w : World) (h : PAt w B pb P m ps) (hG : Glob B G w) (ho : OpOk o) (hk : o.kind = 13) (hn : ps.length ≤ 1000000000000) :
  Calls Tryz.prog 13 #[.pointer (some ⟨pb, 0, none⟩), opV o] w fun e w' => e = .returned (.bool true) ∧ PT w B pb P (m.arm o.a) ps w' := by
 obtain ⟨kb, rb, sv, Fk, Fq, hp, hP⟩ := h;have HP : Hid (PairP w B pb kb rb sv Fk Fq m ps) := hp;have HPF : Hid (∀ b, P b ↔ pfoot pb sv Fk Fq b) := hP;have HG : Hid (Glob B G w) := hG;have HOK : Hid (OpOk o) := ho;have HN : Hid (ps.length ≤ 1000000000000) := hn;clear hp hP hG ho hn;obtain ⟨w0, hw0⟩ : ∃ w0, w0 = w.alloc (.cells (opC o) 29) := ⟨_, rfl⟩;have HB0 : Hid (Below w.heap.size w w0) := by rw [hw0]; exact bA
 have HO0 : Hid (Blk w0 w.heap.size (opC o) 29) := by rw [hw0]; exact Blk.new w _ _
 have HP0 : Hid (PairP w0 B pb kb rb sv Fk Fq m ps) := HP.out.kept (Fr.of_below (S := fun _ => False) HB0.out) (fun _ _ h => h);have HNK : Hid (¬ Fk pb ∧ ¬ Fk w.heap.size) := ⟨HP.out.kp, fun x => by have := (HP.out.k.foot x).2; omega⟩;have HNQ : Hid (¬ Fq pb ∧ ¬ Fq w.heap.size) := ⟨HP.out.rp, fun x => by have := HP.out.r.foot x; omega⟩;have HMOK : Hid (MOK m) := HP.out.k.ok;have o0 := HO0.out.cell 0;have o3 := HO0.out.cell 3;have c0 := HP0.out.blk.cell 0;simp only [opC, gT, gZ, gS] at o0 o3 c0;rw [hk] at o0;have hbo := HO0.out.lt;have hbp := HP0.out.blk.lt;have HCK : Hid (Calls _ _ _ _ _) := karm_any B kb Fk m o.a w0.drew (HP0.out.k.below (Below.refl _ _).drew) HOK.out.a (Nat.le_trans HG.out.le HB0.out.size);have HCR : Hid (∀ w', DK w' rb Fq m → Calls Tryz.prog 46 #[.pointer (some ⟨rb, 0, none⟩), .int .i64 o.a] w' fun e w'' => e = .returned (.tuple #[]) ∧ DKTo w' rb Fq (m.arm o.a) w'') := fun w' h' => dkarm_any rb Fq m o.a w' h' HOK.out.a;have HFIT : Hid (WayFits (m.arm o.a)) := arm_fits HP.out.fit o.a;have HKD : Hid (o.kind = 13) := hk;generalize m.arm o.a = m' at *
 clear hk;unfold opV opC at *
 go_enter Tryz.func13, Tryz.ntmps13;go_upto_region 1 with fail
 rw [← hw0];clear hw0;go_upto_region 22 with fail
 go_region_held3 (fun w' => w'.cell? ⟨pb, 0, none⟩ = some (.pointer (some ⟨kb, 0, none⟩)) ∧ w'.cell? ⟨w.heap.size, 3, none⟩ = some (.int .i64 o.a) ∧ pb < w'.heap.size ∧ w.heap.size < w'.heap.size)
  (first
   | exact pst1 (by assumption) (by assumption) HNK
   | assumption
   | exact ⟨c0, o3, hbp, hbo⟩)
  (first
   | (go_at_call 22; refine HCK.out.mono ?_; rintro e w' ⟨rfl, Fk1, ka, kf, kn⟩))
 rename_i hHeld;obtain ⟨w1, hw1⟩ : ∃ w1, w1 = w' := ⟨_, rfl⟩;subst hw1;have hbd : Below w0.heap.size w0 w0.drew := (Below.refl _ _).drew;have HKT : Hid (KTo w0 B kb Fk m' w1) := KTo.after_below hbd ⟨Fk1, ka, kf, kn⟩;have HR1 : Hid (DK w1 rb Fq m) := (HP0.out.r.below hbd).kept kf (fun b hb e => HP0.out.kr b e hb);have HR1d : Hid (DK w1.drew rb Fq m) := HR1.out.below (Below.refl _ _).drew;have c1 := (HP0.out.blk.drew.kept kf HNK.out.1).cell 1;simp only [gT, gZ, gS] at c1;obtain ⟨-, o3', hbp', hbo'⟩ := hHeld;clear o0 o3 c0 hbo hbp ka kf kn hbd HCK;go_upto_region 23 with fail
 go_region_held3 (fun w' => w'.cell? ⟨pb, 1, none⟩ = some (.pointer (some ⟨rb, 0, none⟩)) ∧ w'.cell? ⟨w.heap.size, 3, none⟩ = some (.int .i64 o.a) ∧ pb < w'.heap.size ∧ w.heap.size < w'.heap.size)
  (first
   | exact pst1 (by assumption) (by assumption) HNQ
   | assumption
   | exact ⟨c1, o3', hbp', hbo'⟩)
  (first
   | (go_at_call 46; refine (HCR.out _ HR1d.out).mono ?_; rintro e w' ⟨rfl, Fq1, qa, qf, qn⟩))
 obtain ⟨w2, hw2⟩ : ∃ w2, w2 = w' := ⟨_, rfl⟩;subst hw2;obtain ⟨Fk', Fq', hp2, hf2, hn2⟩ := pair_step HP0.out HKT.out (DKTo.trans (Fr.of_below ((Below.refl _ _).drew)) (fun b h => Or.inl h) ⟨Fq1, qa, qf, qn⟩) HFIT.out;have HE : Hid (PT w B pb P m' ps w2) := PT.mk HPF.out HB0.out hp2 hf2 hn2;clear c1 o3' hbp' hbo' qa qf qn hp2 hf2 hn2 HCR;go_wp2_with fail;go_ret;exact ⟨rfl, HE.out⟩
theorem does_live (B pb : Nat) (P : Nat → Prop) (m : Kp) (ps : List Bs) (G : Gl) (o : OpD) (w : World) (h : PAt w B pb P m ps) (hG : Glob B G w) (ho : OpOk o) (hk : o.kind = 11) (hn : ps.length ≤ 1000000000000) :
  Calls Tryz.prog 13 #[.pointer (some ⟨pb, 0, none⟩), opV o] w fun e w' => e = .returned (.bool true) ∧ PT w B pb P m ps w' := by
 obtain ⟨kb, rb, sv, Fk, Fq, hp, hP⟩ := h;have HP : Hid (PairP w B pb kb rb sv Fk Fq m ps) := hp;have HPF : Hid (∀ b, P b ↔ pfoot pb sv Fk Fq b) := hP;have HG : Hid (Glob B G w) := hG;have HOK : Hid (OpOk o) := ho;have HN : Hid (ps.length ≤ 1000000000000) := hn;clear hp hP hG ho hn;obtain ⟨w0, hw0⟩ : ∃ w0, w0 = w.alloc (.cells (opC o) 29) := ⟨_, rfl⟩;have HB0 : Hid (Below w.heap.size w w0) := by rw [hw0]; exact bA
 have HO0 : Hid (Blk w0 w.heap.size (opC o) 29) := by rw [hw0]; exact Blk.new w _ _
 have HP0 : Hid (PairP w0 B pb kb rb sv Fk Fq m ps) := HP.out.kept (Fr.of_below (S := fun _ => False) HB0.out) (fun _ _ h => h);have HNK : Hid (¬ Fk pb ∧ ¬ Fk w.heap.size) := ⟨HP.out.kp, fun x => by have := (HP.out.k.foot x).2; omega⟩;have HNQ : Hid (¬ Fq pb ∧ ¬ Fq w.heap.size) := ⟨HP.out.rp, fun x => by have := HP.out.r.foot x; omega⟩;have HMOK : Hid (MOK m) := HP.out.k.ok;have o0 := HO0.out.cell 0;have o3 := HO0.out.cell 3;have c0 := HP0.out.blk.cell 0;simp only [opC, gT, gZ, gS] at o0 o3 c0;rw [hk] at o0;have hbo := HO0.out.lt;have hbp := HP0.out.blk.lt;have HKD : Hid (o.kind = 11) := hk;have HCK : Hid (Calls _ _ _ _ _) := klive_any B kb Fk m w0 HP0.out.k;have HCR : Hid (Calls _ _ _ _ _) := dklive_any rb Fq m w0 HP0.out.r;have c1 := HP0.out.blk.cell 1;simp only [gT, gZ, gS] at c1;generalize m.live = V at *
 obtain ⟨v1, v2⟩ := V;clear hk;unfold opV opC at *
 go_enter Tryz.func13, Tryz.ntmps13;go_upto_region 1 with fail
 rw [← hw0];clear hw0;go_wp2_with fail;refine HCK.out.mono ?_;rintro e w' ⟨rfl, hw'⟩;subst w';go_wp2_with fail;refine HCR.out.mono ?_;rintro e w' ⟨rfl, hw'⟩;subst w';have HE : Hid (PT w B pb P m ps w0) := PT.mk HPF.out HB0.out HP0.out (Fr.refl _ _) (fun b hb => Or.inl hb);clear HCK HCR;go_wp2_with fail;go_ret;exact ⟨by simp, HE.out⟩
theorem does_left (B pb : Nat) (P : Nat → Prop) (m : Kp) (ps : List Bs) (G : Gl) (o : OpD) (w : World) (h : PAt w B pb P m ps) (hG : Glob B G w) (ho : OpOk o) (hk : o.kind = 14) (hn : ps.length ≤ 1000000000000) :
  Calls Tryz.prog 13 #[.pointer (some ⟨pb, 0, none⟩), opV o] w fun e w' => e = .returned (.bool true) ∧ PT w B pb P m ps w' := by
 obtain ⟨kb, rb, sv, Fk, Fq, hp, hP⟩ := h;have HP : Hid (PairP w B pb kb rb sv Fk Fq m ps) := hp;have HPF : Hid (∀ b, P b ↔ pfoot pb sv Fk Fq b) := hP;have HG : Hid (Glob B G w) := hG;have HOK : Hid (OpOk o) := ho;have HN : Hid (ps.length ≤ 1000000000000) := hn;clear hp hP hG ho hn;obtain ⟨w0, hw0⟩ : ∃ w0, w0 = w.alloc (.cells (opC o) 29) := ⟨_, rfl⟩;have HB0 : Hid (Below w.heap.size w w0) := by rw [hw0]; exact bA
 have HO0 : Hid (Blk w0 w.heap.size (opC o) 29) := by rw [hw0]; exact Blk.new w _ _
 have HP0 : Hid (PairP w0 B pb kb rb sv Fk Fq m ps) := HP.out.kept (Fr.of_below (S := fun _ => False) HB0.out) (fun _ _ h => h);have HNK : Hid (¬ Fk pb ∧ ¬ Fk w.heap.size) := ⟨HP.out.kp, fun x => by have := (HP.out.k.foot x).2; omega⟩;have HNQ : Hid (¬ Fq pb ∧ ¬ Fq w.heap.size) := ⟨HP.out.rp, fun x => by have := HP.out.r.foot x; omega⟩;have HMOK : Hid (MOK m) := HP.out.k.ok;have o0 := HO0.out.cell 0;have o3 := HO0.out.cell 3;have c0 := HP0.out.blk.cell 0;simp only [opC, gT, gZ, gS] at o0 o3 c0;rw [hk] at o0;have hbo := HO0.out.lt;have hbp := HP0.out.blk.lt;have HKD : Hid (o.kind = 14) := hk;have o4 := HO0.out.cell 4;have o5 := HO0.out.cell 5;simp only [opC, gT, gZ, gS] at o4 o5;have HCK : Hid (Calls _ _ _ _ _) := kleft_any B kb Fk m o.a o.b o.c w0.drew (HP0.out.k.below (Below.refl _ _).drew) HOK.out.a HOK.out.c;have HCR : Hid (∀ w', Below w.heap.size w w' → Calls Tryz.prog 47 #[.pointer (some ⟨rb, 0, none⟩), .int .i64 o.a, .int .i64 o.b, .int .i64 o.c] w' fun e w'' => e = .returned (.string (ofL (m.left o.a o.b o.c))) ∧ Below w'.heap.size w' w'') := fun w' hb => dkleft_any rb Fq m o.a o.b o.c w' (HP.out.r.below hb) HP.out.fit HOK.out.a HOK.out.c;have HPB : Hid (∀ w', Below w.heap.size w w' → Blk w' pb #[.pointer (some ⟨kb, 0, none⟩), .pointer (some ⟨rb, 0, none⟩), sv] 74) := fun w' hb => HP.out.blk.below hb;generalize m.left o.a o.b o.c = lv at *
 clear hk;unfold opV opC at *
 go_enter Tryz.func13, Tryz.ntmps13;go_upto_region 1 with fail
 rw [← hw0];clear hw0;go_upto_region 26 with fail
 go_region_held3 (fun w' => w'.cell? ⟨pb, 0, none⟩ = some (.pointer (some ⟨kb, 0, none⟩)) ∧ w'.cell? ⟨w.heap.size, 3, none⟩ = some (.int .i64 o.a) ∧ w'.cell? ⟨w.heap.size, 4, none⟩ = some (.int .i64 o.b) ∧ w'.cell? ⟨w.heap.size, 5, none⟩ = some (.int .i64 o.c) ∧ pb < w'.heap.size ∧ w.heap.size < w'.heap.size ∧ Below w.heap.size w w')
  (first
   | exact pstep (by assumption) (by assumption)
   | assumption
   | exact ⟨c0, o3, o4, o5, hbp, hbo, HB0.out.drew⟩)
  (first
   | (go_at_call 23; refine HCK.out.mono ?_; rintro e w' ⟨rfl, hbN⟩))
 rename_i hHeld;obtain ⟨w1, hw1⟩ : ∃ w1, w1 = w' := ⟨_, rfl⟩;subst hw1;have HB1 : Hid (Below w.heap.size w w1) := hHeld.2.2.2.2.2.2;obtain ⟨-, p3, p4, p5, p6, p7, -⟩ := hHeld;have c1 := Blk.cell (HPB.out _ HB1.out) 1;simp only [gT, gZ, gS] at c1;clear hbN o0 o3 o4 o5 c0 hbo hbp HCK;go_upto_region 27 with fail
 go_region_held3 (fun w' => w'.cell? ⟨pb, 1, none⟩ = some (.pointer (some ⟨rb, 0, none⟩)) ∧ w'.cell? ⟨w.heap.size, 3, none⟩ = some (.int .i64 o.a) ∧ w'.cell? ⟨w.heap.size, 4, none⟩ = some (.int .i64 o.b) ∧ w'.cell? ⟨w.heap.size, 5, none⟩ = some (.int .i64 o.c) ∧ pb < w'.heap.size ∧ w.heap.size < w'.heap.size ∧ Below w.heap.size w w')
  (first
   | exact pstep (by assumption) (by assumption)
   | assumption
   | exact ⟨c1, p3, p4, p5, p6, p7, HB1.out.drew⟩)
  (first
   | (go_at_call 47; refine (HCR.out _ HB1.out.drew).mono ?_; rintro e w' ⟨rfl, hbN⟩))
 rename_i hHeld;have HB2 : Hid (Below w.heap.size w w') := hHeld.2.2.2.2.2.2;have HE : Hid (PT w B pb P m ps w') := PT.mk HPF.out HB2.out (HP.out.kept (Fr.of_below (S := fun _ => False) HB2.out) (fun _ _ h => h)) (Fr.refl _ _) (fun b hb => Or.inl hb);clear hHeld hbN HCR;go_wp2_with fail;go_ret;exact ⟨by simp, HE.out⟩
end Go.Proofs.YtmnajomkfnkmeaaGreatDoor
