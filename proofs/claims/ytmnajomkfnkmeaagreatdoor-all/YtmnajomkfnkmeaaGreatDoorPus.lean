import Derived.Test.YtmnajomkfnkmeaaGreatDoorPdo
set_option maxRecDepth 100000
set_option maxHeartbeats 8000000
set_option linter.unusedSimpArgs false
namespace Go.Proofs.YtmnajomkfnkmeaaGreatDoor
open Go.RowKit
attribute [local go_sem] ofL_size
def PsOk (ps : List Bs) (n : Nat) : Prop := ps.length ≤ n ∧ ∀ s ∈ ps, s.length ≤ 9
theorem rotate_len (m : Kp) (p : Bs) : (m.rotate p).1.length ≤ 9 := by
 unfold Kp.rotate;split
 ·split
  ·exact Nat.zero_le _
  ·split
   ·exact Nat.le_refl 9
   ·exact Nat.zero_le _
 ·exact Nat.zero_le _
theorem login_len (m : Kp) (u : Int) : (m.login u).1.length ≤ 9 := by
 unfold Kp.login;split
 ·exact Nat.zero_le _
 split
 ·exact Nat.zero_le _
 split
 ·exact Nat.zero_le _
 split
 ·exact Nat.zero_le _
 split
 ·exact Nat.le_refl 9
 ·exact Nat.zero_le _
theorem PsOk.took {ps : List Bs} {n : Nat} (h : PsOk ps n) {s : Bs} (hs : s.length ≤ 9) : PsOk (if s.isEmpty = true then ps else ps ++ [s]) (n + 1) := by
 split
 ·exact ⟨Nat.le_succ_of_le h.1, h.2⟩
 ·refine ⟨by rw [List.length_append]; have := h.1; simp; omega, fun x hx => ?_⟩;rcases List.mem_append.1 hx with e | e
  ·exact h.2 x e
  ·rw [List.mem_singleton.1 e]; exact hs
theorem ppass_any (B pb kb rb : Nat) (sv : Value) (Fk Fq : Nat → Prop) (m : Kp) (ps : List Bs) (o : OpD) (n : Nat) (w : World) (h : PairP w B pb kb rb sv Fk Fq m ps) (ho : OpOk o) (hps : PsOk ps n) (hn : n ≤ 1000000000000) :
  Calls Tryz.prog 95 #[.pointer (some ⟨pb, 0, none⟩), opV o] w fun e w' => ∃ s : Bs, e = .returned (.string (ofL s)) ∧ s.length ≤ 9223372036854774000 ∧ Below w.heap.size w w' := by
 have HP : Hid (PairP w B pb kb rb sv Fk Fq m ps) := h;have HOK : Hid (OpOk o) := ho;have HPS : Hid (PsOk ps n) := hps;obtain ⟨sa, sc, hsv, hsa⟩ := so_slice h.ps;obtain ⟨L, hL⟩ : ∃ L, L = ps.length := ⟨_, rfl⟩;have HL : Hid (L = ps.length) := hL;have hL12 : L ≤ 1000000000000 := by rw [hL]; exact Nat.le_trans hps.1 hn
 rw [← hL] at hsv hsa;subst hsv;have HSA : Hid (0 < L → ∃ q, sa = some ⟨q, 0, none⟩ ∧ q < w.heap.size) := hsa;obtain ⟨w0, hw0⟩ : ∃ w0, w0 = w.alloc (.cells (opC o) 29) := ⟨_, rfl⟩;have HB0 : Hid (Below w.heap.size w w0) := by rw [hw0]; exact bA
 have HO0 : Hid (Blk w0 w.heap.size (opC o) 29) := by rw [hw0]; exact Blk.new w _ _
 have o2 := HO0.out.cell 2;have o6 := HO0.out.cell 6;have c2 := (h.blk.below HB0.out).cell 2;simp only [opC, gT, gZ, gS] at o2 o6 c2;obtain ⟨D, hD⟩ : ∃ D : Bool, D = decide (o.pass < 0 ∨ L = 0) := ⟨_, rfl⟩;have HD : Hid (D = decide (o.pass < 0 ∨ L = 0)) := hD;clear h ho hps hn hL hsa hD;unfold opV opC at *
 go_enter Tryz.func95, Tryz.ntmps95;go_upto_region 1 with fail
 rw [← hw0];clear hw0
 go_cut [15] (fun cv wx => cv = .bool D ∧ wx = w0)
 case first =>
  have hD := HD.out;clear HD;by_cases h1 : o.pass < 0
  ·rw [decide_eq_true (Or.inl h1)] at hD;subst hD;go_wp2_with fail;go_meet
   case rel => exact ⟨rfl, rfl⟩
  ·have HE : Hid (((L : Int) == 0) = D) := by
    show _ = _;rw [hD, Bool.eq_iff_iff, beq_iff_eq, decide_eq_true_eq];constructor
    ·intro h; exact Or.inr (by omega)
    ·intro h; rcases h with h | h
     ·exact absurd h h1
     ·omega
   clear hD;go_wp2_with fail;go_meet
   case rel => exact ⟨by rw [← HE.out], rfl⟩
 case rest =>
 obtain ⟨rfl, hwc⟩ := hcut;replace hwc := hwc.symm;subst hwc;cases D with
 | true =>
  clear HD;go_wp2_with fail;go_ret;exact ⟨o.s, rfl, HOK.out.s, HB0.out⟩
 | false =>
  have hno := of_decide_eq_false HD.out.symm;have hL0 : 0 < L := by omega
  obtain ⟨q, rfl, hq⟩ := HSA.out hL0;have hlt := pickN_lt o.pass hL0;have HPI : Hid (Calls _ _ _ _ _) := lpick_any o.pass L w0.drew HOK.out.pass.1 HOK.out.pass.2 hL0;generalize pickN o.pass L = k at *
  have hk2 : k < ps.length := by rw [← HL.out]; exact hlt
  obtain ⟨s, hs⟩ : ∃ s, s = ps[k] := ⟨_, rfl⟩;have cq : w0.cell? ⟨q, k, none⟩ = some (.string (ofL s)) := by
   rw [belowAt HB0.out hq, HP.out.ps.cell k hk2, hs]
  have HSL : Hid (s.length ≤ 9223372036854774000) := by
   have := HPS.out.2 s (by rw [hs]; exact List.getElem_mem hk2);show _ ≤ _;omega
  have z1 : (0 : Int) ≤ (k : Int) := by omega
  have z2 : (k : Int) < (L : Int) := by omega
  have HB1 : Hid (Below w.heap.size w w0.drew) := HB0.out.drew;clear hs hk2 hno HD;go_upto_region 3 with fail
  go_region_held3 (fun w' => w'.cell? ⟨pb, 2, none⟩ = some (.slice (some ⟨q, 0, none⟩) L sc) ∧ w'.cell? ⟨w.heap.size, 2, none⟩ = some (.int .i64 o.pass) ∧ w'.cell? ⟨q, k, none⟩ = some (.string (ofL s)))
   (first
    | assumption
    | exact ⟨c2, o2, cq⟩)
   (first
    | (go_at_call 50; refine HPI.out.mono ?_; rintro e w' ⟨rfl, hw'⟩; subst w'))
  go_wp2_with fail;go_ret;exact ⟨s, rfl, HSL.out, HB1.out⟩
theorem pst3 {w w' : World} {S : Nat → Prop} {pb ob i : Nat} {u v x : Value} (h : w.cell? ⟨pb, i, none⟩ = some u ∧ w.cell? ⟨ob, 7, none⟩ = some v ∧ w.cell? ⟨ob, 8, none⟩ = some x ∧ pb < w.heap.size ∧ ob < w.heap.size) (hf : Fr S w w') (hn : Hid (¬ S pb ∧ ¬ S ob)) :
  w'.cell? ⟨pb, i, none⟩ = some u ∧ w'.cell? ⟨ob, 7, none⟩ = some v ∧ w'.cell? ⟨ob, 8, none⟩ = some x ∧ pb < w'.heap.size ∧ ob < w'.heap.size := by
 obtain ⟨h1, h2, h3, h4, h5⟩ := h;exact ⟨(World.cell?_of_block (w := w) (hf.block pb h4 hn.out.1)).trans h1, (World.cell?_of_block (w := w) (hf.block ob h5 hn.out.2)).trans h2, (World.cell?_of_block (w := w) (hf.block ob h5 hn.out.2)).trans h3, Nat.lt_of_lt_of_le h4 hf.size, Nat.lt_of_lt_of_le h5 hf.size⟩
theorem uses_touch (B pb : Nat) (P : Nat → Prop) (m : Kp) (ps : List Bs) (G : Gl) (o : OpD) (n : Nat) (w : World) (h : PAt w B pb P m ps) (hG : Glob B G w) (ho : OpOk o) (hk : o.kind = 4) (hps : PsOk ps n) (hn : n ≤ 1000000000000) :
  Calls Tryz.prog 48 #[.pointer (some ⟨pb, 0, none⟩), opV o] w fun e w' => e = .returned (.bool true) ∧ ∃ m' ps', PT w B pb P m' ps' w' ∧ PsOk ps' (n + 1) := by
 obtain ⟨kb, rb, sv, Fk, Fq, hp, hP⟩ := h;have HP : Hid (PairP w B pb kb rb sv Fk Fq m ps) := hp;have HPF : Hid (∀ b, P b ↔ pfoot pb sv Fk Fq b) := hP;have HG : Hid (Glob B G w) := hG;have HOK : Hid (OpOk o) := ho;have HPS : Hid (PsOk ps n ∧ n ≤ 1000000000000) := ⟨hps, hn⟩;have HKD : Hid (_) := hk;clear hp hP hG ho hn hps hk;obtain ⟨w0, hw0⟩ : ∃ w0, w0 = w.alloc (.cells (opC o) 29) := ⟨_, rfl⟩;have HB0 : Hid (Below w.heap.size w w0) := by rw [hw0]; exact bA
 have HO0 : Hid (Blk w0 w.heap.size (opC o) 29) := by rw [hw0]; exact Blk.new w _ _
 have HP0 : Hid (PairP w0 B pb kb rb sv Fk Fq m ps) := HP.out.kept (Fr.of_below (S := fun _ => False) HB0.out) (fun _ _ h => h);have HNK : Hid (¬ Fk pb ∧ ¬ Fk w.heap.size) := ⟨HP.out.kp, fun x => by have := (HP.out.k.foot x).2; omega⟩;have HNQ : Hid (¬ Fq pb ∧ ¬ Fq w.heap.size) := ⟨HP.out.rp, fun x => by have := HP.out.r.foot x; omega⟩;have HMOK : Hid (MOK m) := HP.out.k.ok;have HPA : Hid (Calls _ _ _ _ _) := ppass_any B pb kb rb sv Fk Fq m ps o n w0 HP0.out HOK.out HPS.out.1 HPS.out.2;unfold opV opC at *
 go_enter Tryz.func48, Tryz.ntmps48;go_upto_region 1 with fail
 rw [← hw0];clear hw0;have o0 := HO0.out.cell 0;have o1 := HO0.out.cell 1;have o2 := HO0.out.cell 2;have o3 := HO0.out.cell 3;have o4 := HO0.out.cell 4;have o5 := HO0.out.cell 5;have o6 := HO0.out.cell 6;have o7 := HO0.out.cell 7;have o8 := HO0.out.cell 8;have o9 := HO0.out.cell 9;have oa := HO0.out.cell 10;have ob := HO0.out.cell 11;have oc := HO0.out.cell 12;have od := HO0.out.cell 13;simp only [gT, gZ, gS] at o0 o1 o2 o3 o4 o5 o6 o7 o8 o9 oa ob oc od;go_wp2_with fail;refine HPA.out.mono ?_;rintro e w1 ⟨s, rfl, hsl, hb1⟩;have HB1 : Hid (Below w.heap.size w w1) := bstep HB0.out hb1;have HO1 : Hid (Blk w1 w.heap.size _ 29) := HO0.out.below hb1;have HP1 : Hid (PairP w1 B pb kb rb sv Fk Fq m ps) := HP.out.kept (Fr.of_below (S := fun _ => False) HB1.out) (fun _ _ h => h);have HG1 : Hid (Glob B G w1) := DigitsBelow HG.out HB1.out;have HSL : Hid (s.length ≤ 9223372036854775000) := by show _ ≤ _; omega
 clear o0 o1 o2 o3 o4 o5 o6 o7 o8 o9 oa ob oc od hb1 hsl HPA;have o0 := HO1.out.cell 0;have o7 := HO1.out.cell 7;have o8 := HO1.out.cell 8;have c0 := HP1.out.blk.cell 0;simp only [gT, gZ, gS] at o0 o7 o8 c0;have hbo := HO1.out.lt;have hbp := HP1.out.blk.lt;rw [HKD.out] at o0;have HCK : Hid (Calls _ _ _ _ _) := ktouch_any B kb Fk m G s w1 HP1.out.k HSL.out HG1.out;have HCR : Hid (∀ w', DK w' rb Fq m → Calls Tryz.prog 96 #[.pointer (some ⟨rb, 0, none⟩), .string (ofL s)] w' fun e w'' => e = .returned (.int .i64 (m.touch s).1) ∧ DKTo w' rb Fq (m.touch s).2 w'') := fun w' h' => dktouch_any rb Fq m s w' h' HMOK.out;have HFIT : Hid (WayFits (m.touch s).2) := touch_fits HMOK.out HP.out.fit s;generalize m.touch s = V at *
 obtain ⟨v1, m'⟩ := V;go_wp2_with fail;refine HCK.out.mono ?_;rintro e w2 ⟨rfl, Fk1, ka, kf, kn⟩;have HKT : Hid (KTo w1 B kb Fk m' w2) := ⟨Fk1, ka, kf, kn⟩;have HR2 : Hid (DK w2 rb Fq m) := HP1.out.r.kept kf (fun b hb e => HP1.out.kr b e hb);have c1 := (HP1.out.blk.kept kf HNK.out.1).cell 1;simp only [gT, gZ, gS] at c1;clear o0 o7 o8 c0 hbo hbp ka kf kn HCK;go_wp2_with fail;refine (HCR.out _ HR2.out).mono ?_;rintro e w3 ⟨rfl, Fq1, qa, qf, qn⟩;obtain ⟨Fk', Fq', hp3, hf3, hn3⟩ := pair_step HP1.out HKT.out (⟨Fq1, qa, qf, qn⟩) HFIT.out;have HE : Hid (PT w B pb P m' ps w3) := PT.mk HPF.out HB1.out hp3 hf3 hn3;clear c1 qa qf qn hp3 hf3 hn3 HCR;go_wp2_with fail;go_ret;exact ⟨by simp, _, ps, HE.out, Nat.le_succ_of_le HPS.out.1.1, HPS.out.1.2⟩
theorem uses_rotate (B pb : Nat) (P : Nat → Prop) (m : Kp) (ps : List Bs) (G : Gl) (o : OpD) (n : Nat) (w : World) (h : PAt w B pb P m ps) (hG : Glob B G w) (ho : OpOk o) (hk : o.kind = 5) (hps : PsOk ps n) (hn : n ≤ 1000000000000) :
  Calls Tryz.prog 48 #[.pointer (some ⟨pb, 0, none⟩), opV o] w fun e w' => e = .returned (.bool true) ∧ ∃ m' ps', PT w B pb P m' ps' w' ∧ PsOk ps' (n + 1) := by
 obtain ⟨kb, rb, sv, Fk, Fq, hp, hP⟩ := h;have HP : Hid (PairP w B pb kb rb sv Fk Fq m ps) := hp;have HPF : Hid (∀ b, P b ↔ pfoot pb sv Fk Fq b) := hP;have HG : Hid (Glob B G w) := hG;have HOK : Hid (OpOk o) := ho;have HPS : Hid (PsOk ps n ∧ n ≤ 1000000000000) := ⟨hps, hn⟩;have HKD : Hid (_) := hk;clear hp hP hG ho hn hps hk;obtain ⟨w0, hw0⟩ : ∃ w0, w0 = w.alloc (.cells (opC o) 29) := ⟨_, rfl⟩;have HB0 : Hid (Below w.heap.size w w0) := by rw [hw0]; exact bA
 have HO0 : Hid (Blk w0 w.heap.size (opC o) 29) := by rw [hw0]; exact Blk.new w _ _
 have HP0 : Hid (PairP w0 B pb kb rb sv Fk Fq m ps) := HP.out.kept (Fr.of_below (S := fun _ => False) HB0.out) (fun _ _ h => h);have HNK : Hid (¬ Fk pb ∧ ¬ Fk w.heap.size) := ⟨HP.out.kp, fun x => by have := (HP.out.k.foot x).2; omega⟩;have HNQ : Hid (¬ Fq pb ∧ ¬ Fq w.heap.size) := ⟨HP.out.rp, fun x => by have := HP.out.r.foot x; omega⟩;have HMOK : Hid (MOK m) := HP.out.k.ok;have HPA : Hid (Calls _ _ _ _ _) := ppass_any B pb kb rb sv Fk Fq m ps o n w0 HP0.out HOK.out HPS.out.1 HPS.out.2;unfold opV opC at *
 go_enter Tryz.func48, Tryz.ntmps48;go_upto_region 1 with fail
 rw [← hw0];clear hw0;have o0 := HO0.out.cell 0;have o1 := HO0.out.cell 1;have o2 := HO0.out.cell 2;have o3 := HO0.out.cell 3;have o4 := HO0.out.cell 4;have o5 := HO0.out.cell 5;have o6 := HO0.out.cell 6;have o7 := HO0.out.cell 7;have o8 := HO0.out.cell 8;have o9 := HO0.out.cell 9;have oa := HO0.out.cell 10;have ob := HO0.out.cell 11;have oc := HO0.out.cell 12;have od := HO0.out.cell 13;simp only [gT, gZ, gS] at o0 o1 o2 o3 o4 o5 o6 o7 o8 o9 oa ob oc od;go_wp2_with fail;refine HPA.out.mono ?_;rintro e w1 ⟨s, rfl, hsl, hb1⟩;have HB1 : Hid (Below w.heap.size w w1) := bstep HB0.out hb1;have HO1 : Hid (Blk w1 w.heap.size _ 29) := HO0.out.below hb1;have HP1 : Hid (PairP w1 B pb kb rb sv Fk Fq m ps) := HP.out.kept (Fr.of_below (S := fun _ => False) HB1.out) (fun _ _ h => h);have HG1 : Hid (Glob B G w1) := DigitsBelow HG.out HB1.out;have HSL : Hid (s.length ≤ 9223372036854775000) := by show _ ≤ _; omega
 clear o0 o1 o2 o3 o4 o5 o6 o7 o8 o9 oa ob oc od hb1 hsl HPA;have o0 := HO1.out.cell 0;have o7 := HO1.out.cell 7;have o8 := HO1.out.cell 8;have c0 := HP1.out.blk.cell 0;simp only [gT, gZ, gS] at o0 o7 o8 c0;have hbo := HO1.out.lt;have hbp := HP1.out.blk.lt;rw [HKD.out] at o0;have HCK : Hid (Calls _ _ _ _ _) := krotate_any B kb Fk m G s w1 HP1.out.k HSL.out HG1.out;have HCR : Hid (∀ w', DK w' rb Fq m → Calls Tryz.prog 97 #[.pointer (some ⟨rb, 0, none⟩), .string (ofL s)] w' fun e w'' => e = .returned (.tuple #[.string (ofL (m.rotate s).1), .int .i64 (m.rotate s).2.1]) ∧ DKTo w' rb Fq (m.rotate s).2.2 w'') := fun w' h' => dkrotate_any rb Fq m s w' h' HMOK.out;have HFIT : Hid (WayFits (m.rotate s).2.2) := rotate_fits HMOK.out HP.out.fit s;have HLN : Hid ((m.rotate s).1.length ≤ 9) := rotate_len m s;generalize m.rotate s = V at *
 obtain ⟨v1, v2, m'⟩ := V;go_wp2_with fail;refine HCK.out.mono ?_;rintro e w2 ⟨rfl, Fk1, ka, kf, kn⟩;have HKT : Hid (KTo w1 B kb Fk m' w2) := ⟨Fk1, ka, kf, kn⟩;have HR2 : Hid (DK w2 rb Fq m) := HP1.out.r.kept kf (fun b hb e => HP1.out.kr b e hb);have c1 := (HP1.out.blk.kept kf HNK.out.1).cell 1;simp only [gT, gZ, gS] at c1;clear o0 o7 o8 c0 hbo hbp ka kf kn HCK;go_wp2_with fail;refine (HCR.out _ HR2.out).mono ?_;rintro e w3 ⟨rfl, Fq1, qa, qf, qn⟩;obtain ⟨Fk', Fq', hp3, hf3, hn3⟩ := pair_step HP1.out HKT.out (⟨Fq1, qa, qf, qn⟩) HFIT.out;have H2 : Hid (PairP w3 B pb kb rb sv Fk' Fq' m' ps ∧ Fr (pfoot pb sv Fk Fq) w1 w3 ∧ ∀ b, pfoot pb sv Fk' Fq' b → pfoot pb sv Fk Fq b ∨ w1.heap.size ≤ b) := ⟨hp3, hf3, hn3⟩;have HT : Hid (Calls _ _ _ _ _) := takes_any B pb kb rb sv Fk' Fq' m' ps v1 w3 hp3 (Nat.le_trans HPS.out.1.1 HPS.out.2);obtain ⟨Q, hQ⟩ : ∃ Q, Q = if v1.isEmpty = true then ps else ps ++ [v1] := ⟨_, rfl⟩
 have HQ : Hid (Q = if v1.isEmpty = true then ps else ps ++ [v1]) := hQ;rw [← hQ] at HT;clear c1 qa qf qn hp3 hf3 hn3 HCR hQ;go_wp2_with fail;refine HT.out.mono ?_;rintro e w4 ⟨rfl, sv', hp4, hf4, hn4⟩;have HE : Hid (PT w B pb P m' Q w4) := PT.took HPF.out HB1.out H2.out.2.1 H2.out.2.2 hp4 hf4 hn4;clear hp4 hf4 hn4 HT;go_wp2_with fail;go_ret;exact ⟨by simp, m', Q, HE.out, by rw [HQ.out]; exact HPS.out.1.took HLN.out⟩
theorem uses_set (B pb : Nat) (P : Nat → Prop) (m : Kp) (ps : List Bs) (G : Gl) (o : OpD) (n : Nat) (w : World) (h : PAt w B pb P m ps) (hG : Glob B G w) (ho : OpOk o) (hk : o.kind = 6) (hps : PsOk ps n) (hn : n ≤ 1000000000000) :
  Calls Tryz.prog 48 #[.pointer (some ⟨pb, 0, none⟩), opV o] w fun e w' => e = .returned (.bool true) ∧ ∃ m' ps', PT w B pb P m' ps' w' ∧ PsOk ps' (n + 1) := by
 obtain ⟨kb, rb, sv, Fk, Fq, hp, hP⟩ := h;have HP : Hid (PairP w B pb kb rb sv Fk Fq m ps) := hp;have HPF : Hid (∀ b, P b ↔ pfoot pb sv Fk Fq b) := hP;have HG : Hid (Glob B G w) := hG;have HOK : Hid (OpOk o) := ho;have HPS : Hid (PsOk ps n ∧ n ≤ 1000000000000) := ⟨hps, hn⟩;have HKD : Hid (_) := hk;clear hp hP hG ho hn hps hk;obtain ⟨w0, hw0⟩ : ∃ w0, w0 = w.alloc (.cells (opC o) 29) := ⟨_, rfl⟩;have HB0 : Hid (Below w.heap.size w w0) := by rw [hw0]; exact bA
 have HO0 : Hid (Blk w0 w.heap.size (opC o) 29) := by rw [hw0]; exact Blk.new w _ _
 have HP0 : Hid (PairP w0 B pb kb rb sv Fk Fq m ps) := HP.out.kept (Fr.of_below (S := fun _ => False) HB0.out) (fun _ _ h => h);have HNK : Hid (¬ Fk pb ∧ ¬ Fk w.heap.size) := ⟨HP.out.kp, fun x => by have := (HP.out.k.foot x).2; omega⟩;have HNQ : Hid (¬ Fq pb ∧ ¬ Fq w.heap.size) := ⟨HP.out.rp, fun x => by have := HP.out.r.foot x; omega⟩;have HMOK : Hid (MOK m) := HP.out.k.ok;have HPA : Hid (Calls _ _ _ _ _) := ppass_any B pb kb rb sv Fk Fq m ps o n w0 HP0.out HOK.out HPS.out.1 HPS.out.2;unfold opV opC at *
 go_enter Tryz.func48, Tryz.ntmps48;go_upto_region 1 with fail
 rw [← hw0];clear hw0;have o0 := HO0.out.cell 0;have o1 := HO0.out.cell 1;have o2 := HO0.out.cell 2;have o3 := HO0.out.cell 3;have o4 := HO0.out.cell 4;have o5 := HO0.out.cell 5;have o6 := HO0.out.cell 6;have o7 := HO0.out.cell 7;have o8 := HO0.out.cell 8;have o9 := HO0.out.cell 9;have oa := HO0.out.cell 10;have ob := HO0.out.cell 11;have oc := HO0.out.cell 12;have od := HO0.out.cell 13;simp only [gT, gZ, gS] at o0 o1 o2 o3 o4 o5 o6 o7 o8 o9 oa ob oc od;go_wp2_with fail;refine HPA.out.mono ?_;rintro e w1 ⟨s, rfl, hsl, hb1⟩;have HB1 : Hid (Below w.heap.size w w1) := bstep HB0.out hb1;have HO1 : Hid (Blk w1 w.heap.size _ 29) := HO0.out.below hb1;have HP1 : Hid (PairP w1 B pb kb rb sv Fk Fq m ps) := HP.out.kept (Fr.of_below (S := fun _ => False) HB1.out) (fun _ _ h => h);have HG1 : Hid (Glob B G w1) := DigitsBelow HG.out HB1.out;have HSL : Hid (s.length ≤ 9223372036854775000) := by show _ ≤ _; omega
 clear o0 o1 o2 o3 o4 o5 o6 o7 o8 o9 oa ob oc od hb1 hsl HPA;have o0 := HO1.out.cell 0;have o7 := HO1.out.cell 7;have o8 := HO1.out.cell 8;have c0 := HP1.out.blk.cell 0;simp only [gT, gZ, gS] at o0 o7 o8 c0;have hbo := HO1.out.lt;have hbp := HP1.out.blk.lt;rw [HKD.out] at o0;have HCK : Hid (Calls _ _ _ _ _) := kset_any B kb Fk m G s o.name o.value w1.drew (HP1.out.k.below (Below.refl _ _).drew) HSL.out (by have := HOK.out.name; omega) (by have := HOK.out.value; omega) HG1.out.drew;have HCR : Hid (∀ w', DK w' rb Fq m → Calls Tryz.prog 98 #[.pointer (some ⟨rb, 0, none⟩), .string (ofL s), .string (ofL o.name), .string (ofL o.value)] w' fun e w'' => e = .returned (.int .i64 (m.set s o.name o.value).1) ∧ DKTo w' rb Fq (m.set s o.name o.value).2 w'') := fun w' h' => dkset_any rb Fq m s o.name o.value w' h' HMOK.out;have HFIT : Hid (WayFits (m.set s o.name o.value).2) := set_fits HMOK.out HP.out.fit s o.name o.value;generalize m.set s o.name o.value = V at *
 obtain ⟨v1, m'⟩ := V;go_upto_region 12 with fail
 go_region_held3 (fun w' => w'.cell? ⟨pb, 0, none⟩ = some (.pointer (some ⟨kb, 0, none⟩)) ∧ w'.cell? ⟨w.heap.size, 7, none⟩ = some (.string (ofL o.name)) ∧ w'.cell? ⟨w.heap.size, 8, none⟩ = some (.string (ofL o.value)) ∧ pb < w'.heap.size ∧ w.heap.size < w'.heap.size)
  (first
   | exact pst3 (by assumption) (by assumption) HNK
   | assumption
   | exact ⟨c0, o7, o8, hbp, hbo⟩)
  (first
   | (go_at_call 32; refine HCK.out.mono ?_; rintro e w' ⟨rfl, Fk1, ka, kf, kn⟩))
 rename_i hHeld;obtain ⟨w2, hw2⟩ : ∃ w2, w2 = w' := ⟨_, rfl⟩;subst hw2;have hbd : Below w1.heap.size w1 w1.drew := (Below.refl _ _).drew;have HKT : Hid (KTo w1 B kb Fk m' w2) := KTo.after_below hbd ⟨Fk1, ka, kf, kn⟩;have HR2 : Hid (DK w2 rb Fq m) := (HP1.out.r.below hbd).kept kf (fun b hb e => HP1.out.kr b e hb);have HR2d : Hid (DK w2.drew rb Fq m) := HR2.out.below (Below.refl _ _).drew;have c1 := (HP1.out.blk.drew.kept kf HNK.out.1).cell 1;simp only [gT, gZ, gS] at c1;obtain ⟨-, p7, p8, p9, pa⟩ := hHeld;clear o0 o7 o8 c0 hbo hbp ka kf kn hbd HCK;go_upto_region 13 with fail
 go_region_held3 (fun w' => w'.cell? ⟨pb, 1, none⟩ = some (.pointer (some ⟨rb, 0, none⟩)) ∧ w'.cell? ⟨w.heap.size, 7, none⟩ = some (.string (ofL o.name)) ∧ w'.cell? ⟨w.heap.size, 8, none⟩ = some (.string (ofL o.value)) ∧ pb < w'.heap.size ∧ w.heap.size < w'.heap.size)
  (first
   | exact pst3 (by assumption) (by assumption) HNQ
   | assumption
   | exact ⟨c1, p7, p8, p9, pa⟩)
  (first
   | (go_at_call 98; refine (HCR.out _ HR2d.out).mono ?_; rintro e w' ⟨rfl, Fq1, qa, qf, qn⟩))
 obtain ⟨w3, hw3⟩ : ∃ w3, w3 = w' := ⟨_, rfl⟩;subst hw3;obtain ⟨Fk', Fq', hp3, hf3, hn3⟩ := pair_step HP1.out HKT.out (DKTo.trans (Fr.of_below ((Below.refl _ _).drew)) (fun b h => Or.inl h) ⟨Fq1, qa, qf, qn⟩) HFIT.out;have HE : Hid (PT w B pb P m' ps w3) := PT.mk HPF.out HB1.out hp3 hf3 hn3;clear c1 p7 p8 p9 pa qa qf qn hp3 hf3 hn3 HCR;go_wp2_with fail;go_ret;exact ⟨by simp, _, ps, HE.out, Nat.le_succ_of_le HPS.out.1.1, HPS.out.1.2⟩
theorem uses_get (B pb : Nat) (P : Nat → Prop) (m : Kp) (ps : List Bs) (G : Gl) (o : OpD) (n : Nat) (w : World) (h : PAt w B pb P m ps) (hG : Glob B G w) (ho : OpOk o) (hk : o.kind = 7) (hps : PsOk ps n) (hn : n ≤ 1000000000000) :
  Calls Tryz.prog 48 #[.pointer (some ⟨pb, 0, none⟩), opV o] w fun e w' => e = .returned (.bool true) ∧ ∃ m' ps', PT w B pb P m' ps' w' ∧ PsOk ps' (n + 1) := by
 obtain ⟨kb, rb, sv, Fk, Fq, hp, hP⟩ := h;have HP : Hid (PairP w B pb kb rb sv Fk Fq m ps) := hp;have HPF : Hid (∀ b, P b ↔ pfoot pb sv Fk Fq b) := hP;have HG : Hid (Glob B G w) := hG;have HOK : Hid (OpOk o) := ho;have HPS : Hid (PsOk ps n ∧ n ≤ 1000000000000) := ⟨hps, hn⟩;have HKD : Hid (_) := hk;clear hp hP hG ho hn hps hk;obtain ⟨w0, hw0⟩ : ∃ w0, w0 = w.alloc (.cells (opC o) 29) := ⟨_, rfl⟩;have HB0 : Hid (Below w.heap.size w w0) := by rw [hw0]; exact bA
 have HO0 : Hid (Blk w0 w.heap.size (opC o) 29) := by rw [hw0]; exact Blk.new w _ _
 have HP0 : Hid (PairP w0 B pb kb rb sv Fk Fq m ps) := HP.out.kept (Fr.of_below (S := fun _ => False) HB0.out) (fun _ _ h => h);have HNK : Hid (¬ Fk pb ∧ ¬ Fk w.heap.size) := ⟨HP.out.kp, fun x => by have := (HP.out.k.foot x).2; omega⟩;have HNQ : Hid (¬ Fq pb ∧ ¬ Fq w.heap.size) := ⟨HP.out.rp, fun x => by have := HP.out.r.foot x; omega⟩;have HMOK : Hid (MOK m) := HP.out.k.ok;have HPA : Hid (Calls _ _ _ _ _) := ppass_any B pb kb rb sv Fk Fq m ps o n w0 HP0.out HOK.out HPS.out.1 HPS.out.2;unfold opV opC at *
 go_enter Tryz.func48, Tryz.ntmps48;go_upto_region 1 with fail
 rw [← hw0];clear hw0;have o0 := HO0.out.cell 0;have o1 := HO0.out.cell 1;have o2 := HO0.out.cell 2;have o3 := HO0.out.cell 3;have o4 := HO0.out.cell 4;have o5 := HO0.out.cell 5;have o6 := HO0.out.cell 6;have o7 := HO0.out.cell 7;have o8 := HO0.out.cell 8;have o9 := HO0.out.cell 9;have oa := HO0.out.cell 10;have ob := HO0.out.cell 11;have oc := HO0.out.cell 12;have od := HO0.out.cell 13;simp only [gT, gZ, gS] at o0 o1 o2 o3 o4 o5 o6 o7 o8 o9 oa ob oc od;go_wp2_with fail;refine HPA.out.mono ?_;rintro e w1 ⟨s, rfl, hsl, hb1⟩;have HB1 : Hid (Below w.heap.size w w1) := bstep HB0.out hb1;have HO1 : Hid (Blk w1 w.heap.size _ 29) := HO0.out.below hb1;have HP1 : Hid (PairP w1 B pb kb rb sv Fk Fq m ps) := HP.out.kept (Fr.of_below (S := fun _ => False) HB1.out) (fun _ _ h => h);have HG1 : Hid (Glob B G w1) := DigitsBelow HG.out HB1.out;have HSL : Hid (s.length ≤ 9223372036854775000) := by show _ ≤ _; omega
 clear o0 o1 o2 o3 o4 o5 o6 o7 o8 o9 oa ob oc od hb1 hsl HPA;have o0 := HO1.out.cell 0;have o7 := HO1.out.cell 7;have o8 := HO1.out.cell 8;have c0 := HP1.out.blk.cell 0;simp only [gT, gZ, gS] at o0 o7 o8 c0;have hbo := HO1.out.lt;have hbp := HP1.out.blk.lt;rw [HKD.out] at o0;have HCK : Hid (Calls Tryz.prog 27 #[.pointer (some ⟨kb, 0, none⟩), .string (ofL s), .string (ofL o.name)] w1.drew fun e w' => e = .returned (.tuple #[.string (ofL (m.get s o.name).1), .int .i64 (m.get s o.name).2]) ∧ KTo w1.drew B kb Fk m w') := (kget_any B kb Fk m G s o.name w1.drew (HP1.out.k.below (Below.refl _ _).drew) HSL.out HG1.out.drew).mono fun e w2 h => ⟨h.1, KTo.of_below (HP1.out.k.below (Below.refl _ _).drew) h.2⟩;have HCR : Hid (∀ w', DK w' rb Fq m → Calls Tryz.prog 99 #[.pointer (some ⟨rb, 0, none⟩), .string (ofL s), .string (ofL o.name)] w' fun e w'' => e = .returned (.tuple #[.string (ofL (m.get s o.name).1), .int .i64 (m.get s o.name).2]) ∧ DKTo w' rb Fq m w'') := fun w' h' => dkget_any rb Fq m s o.name w' h' HMOK.out;have HFIT : Hid (WayFits m) := HP.out.fit;generalize m.get s o.name = V at *
 obtain ⟨v1, v2⟩ := V;go_upto_region 15 with fail
 go_region_held3 (fun w' => w'.cell? ⟨pb, 0, none⟩ = some (.pointer (some ⟨kb, 0, none⟩)) ∧ w'.cell? ⟨w.heap.size, 7, none⟩ = some (.string (ofL o.name)) ∧ w'.cell? ⟨w.heap.size, 8, none⟩ = some (.string (ofL o.value)) ∧ pb < w'.heap.size ∧ w.heap.size < w'.heap.size)
  (first
   | exact pst3 (by assumption) (by assumption) HNK
   | assumption
   | exact ⟨c0, o7, o8, hbp, hbo⟩)
  (first
   | (go_at_call 27; refine HCK.out.mono ?_; rintro e w' ⟨rfl, Fk1, ka, kf, kn⟩))
 rename_i hHeld;obtain ⟨w2, hw2⟩ : ∃ w2, w2 = w' := ⟨_, rfl⟩;subst hw2;have hbd : Below w1.heap.size w1 w1.drew := (Below.refl _ _).drew;have HKT : Hid (KTo w1 B kb Fk m w2) := KTo.after_below hbd ⟨Fk1, ka, kf, kn⟩;have HR2 : Hid (DK w2 rb Fq m) := (HP1.out.r.below hbd).kept kf (fun b hb e => HP1.out.kr b e hb);have HR2d : Hid (DK w2.drew rb Fq m) := HR2.out.below (Below.refl _ _).drew;have c1 := (HP1.out.blk.drew.kept kf HNK.out.1).cell 1;simp only [gT, gZ, gS] at c1;obtain ⟨-, p7, p8, p9, pa⟩ := hHeld;clear o0 o7 o8 c0 hbo hbp ka kf kn hbd HCK;go_upto_region 16 with fail
 go_region_held3 (fun w' => w'.cell? ⟨pb, 1, none⟩ = some (.pointer (some ⟨rb, 0, none⟩)) ∧ w'.cell? ⟨w.heap.size, 7, none⟩ = some (.string (ofL o.name)) ∧ w'.cell? ⟨w.heap.size, 8, none⟩ = some (.string (ofL o.value)) ∧ pb < w'.heap.size ∧ w.heap.size < w'.heap.size)
  (first
   | exact pst3 (by assumption) (by assumption) HNQ
   | assumption
   | exact ⟨c1, p7, p8, p9, pa⟩)
  (first
   | (go_at_call 99; refine (HCR.out _ HR2d.out).mono ?_; rintro e w' ⟨rfl, Fq1, qa, qf, qn⟩))
 obtain ⟨w3, hw3⟩ : ∃ w3, w3 = w' := ⟨_, rfl⟩;subst hw3;obtain ⟨Fk', Fq', hp3, hf3, hn3⟩ := pair_step HP1.out HKT.out (DKTo.trans (Fr.of_below ((Below.refl _ _).drew)) (fun b h => Or.inl h) ⟨Fq1, qa, qf, qn⟩) HFIT.out;have HE : Hid (PT w B pb P m ps w3) := PT.mk HPF.out HB1.out hp3 hf3 hn3;clear c1 p7 p8 p9 pa qa qf qn hp3 hf3 hn3 HCR;go_wp2_with fail;go_ret;exact ⟨by simp, _, ps, HE.out, Nat.le_succ_of_le HPS.out.1.1, HPS.out.1.2⟩
theorem uses_logout (B pb : Nat) (P : Nat → Prop) (m : Kp) (ps : List Bs) (G : Gl) (o : OpD) (n : Nat) (w : World) (h : PAt w B pb P m ps) (hG : Glob B G w) (ho : OpOk o) (hk : o.kind ≠ 4 ∧ o.kind ≠ 5 ∧ o.kind ≠ 6 ∧ o.kind ≠ 7) (hps : PsOk ps n) (hn : n ≤ 1000000000000) :
  Calls Tryz.prog 48 #[.pointer (some ⟨pb, 0, none⟩), opV o] w fun e w' => e = .returned (.bool true) ∧ ∃ m' ps', PT w B pb P m' ps' w' ∧ PsOk ps' (n + 1) := by
 obtain ⟨kb, rb, sv, Fk, Fq, hp, hP⟩ := h;have HP : Hid (PairP w B pb kb rb sv Fk Fq m ps) := hp;have HPF : Hid (∀ b, P b ↔ pfoot pb sv Fk Fq b) := hP;have HG : Hid (Glob B G w) := hG;have HOK : Hid (OpOk o) := ho;have HPS : Hid (PsOk ps n ∧ n ≤ 1000000000000) := ⟨hps, hn⟩;have HKD : Hid (_) := hk;clear hp hP hG ho hn hps hk;obtain ⟨w0, hw0⟩ : ∃ w0, w0 = w.alloc (.cells (opC o) 29) := ⟨_, rfl⟩;have HB0 : Hid (Below w.heap.size w w0) := by rw [hw0]; exact bA
 have HO0 : Hid (Blk w0 w.heap.size (opC o) 29) := by rw [hw0]; exact Blk.new w _ _
 have HP0 : Hid (PairP w0 B pb kb rb sv Fk Fq m ps) := HP.out.kept (Fr.of_below (S := fun _ => False) HB0.out) (fun _ _ h => h);have HNK : Hid (¬ Fk pb ∧ ¬ Fk w.heap.size) := ⟨HP.out.kp, fun x => by have := (HP.out.k.foot x).2; omega⟩;have HNQ : Hid (¬ Fq pb ∧ ¬ Fq w.heap.size) := ⟨HP.out.rp, fun x => by have := HP.out.r.foot x; omega⟩;have HMOK : Hid (MOK m) := HP.out.k.ok;have HPA : Hid (Calls _ _ _ _ _) := ppass_any B pb kb rb sv Fk Fq m ps o n w0 HP0.out HOK.out HPS.out.1 HPS.out.2;unfold opV opC at *
 go_enter Tryz.func48, Tryz.ntmps48;go_upto_region 1 with fail
 rw [← hw0];clear hw0;have o0 := HO0.out.cell 0;have o1 := HO0.out.cell 1;have o2 := HO0.out.cell 2;have o3 := HO0.out.cell 3;have o4 := HO0.out.cell 4;have o5 := HO0.out.cell 5;have o6 := HO0.out.cell 6;have o7 := HO0.out.cell 7;have o8 := HO0.out.cell 8;have o9 := HO0.out.cell 9;have oa := HO0.out.cell 10;have ob := HO0.out.cell 11;have oc := HO0.out.cell 12;have od := HO0.out.cell 13;simp only [gT, gZ, gS] at o0 o1 o2 o3 o4 o5 o6 o7 o8 o9 oa ob oc od;go_wp2_with fail;refine HPA.out.mono ?_;rintro e w1 ⟨s, rfl, hsl, hb1⟩;have HB1 : Hid (Below w.heap.size w w1) := bstep HB0.out hb1;have HO1 : Hid (Blk w1 w.heap.size _ 29) := HO0.out.below hb1;have HP1 : Hid (PairP w1 B pb kb rb sv Fk Fq m ps) := HP.out.kept (Fr.of_below (S := fun _ => False) HB1.out) (fun _ _ h => h);have HG1 : Hid (Glob B G w1) := DigitsBelow HG.out HB1.out;have HSL : Hid (s.length ≤ 9223372036854775000) := by show _ ≤ _; omega
 clear o0 o1 o2 o3 o4 o5 o6 o7 o8 o9 oa ob oc od hb1 hsl HPA;have o0 := HO1.out.cell 0;have o7 := HO1.out.cell 7;have o8 := HO1.out.cell 8;have c0 := HP1.out.blk.cell 0;simp only [gT, gZ, gS] at o0 o7 o8 c0;have hbo := HO1.out.lt;have hbp := HP1.out.blk.lt;have hk := HKD.out;have k4 : (o.kind == 4) = false := by rw [Bool.eq_false_iff]; intro e; rw [beq_iff_eq] at e; exact hk.1 e
 have k5 : (o.kind == 5) = false := by rw [Bool.eq_false_iff]; intro e; rw [beq_iff_eq] at e; exact hk.2.1 e
 have k6 : (o.kind == 6) = false := by rw [Bool.eq_false_iff]; intro e; rw [beq_iff_eq] at e; exact hk.2.2.1 e
 have k7 : (o.kind == 7) = false := by rw [Bool.eq_false_iff]; intro e; rw [beq_iff_eq] at e; exact hk.2.2.2 e
 clear hk;have HCK : Hid (Calls _ _ _ _ _) := klogout_any B kb Fk m G s w1 HP1.out.k HSL.out HG1.out;have HCR : Hid (∀ w', DK w' rb Fq m → Calls Tryz.prog 100 #[.pointer (some ⟨rb, 0, none⟩), .string (ofL s)] w' fun e w'' => e = .returned (.int .i64 (m.logout s).1) ∧ DKTo w' rb Fq (m.logout s).2 w'') := fun w' h' => dklogout_any rb Fq m s w' h' HMOK.out;have HFIT : Hid (WayFits (m.logout s).2) := logout_fits HMOK.out HP.out.fit s;generalize m.logout s = V at *
 obtain ⟨v1, m'⟩ := V;go_wp2_with fail;refine HCK.out.mono ?_;rintro e w2 ⟨rfl, Fk1, ka, kf, kn⟩;have HKT : Hid (KTo w1 B kb Fk m' w2) := ⟨Fk1, ka, kf, kn⟩;have HR2 : Hid (DK w2 rb Fq m) := HP1.out.r.kept kf (fun b hb e => HP1.out.kr b e hb);have c1 := (HP1.out.blk.kept kf HNK.out.1).cell 1;simp only [gT, gZ, gS] at c1;clear o0 o7 o8 c0 hbo hbp ka kf kn HCK;go_wp2_with fail;refine (HCR.out _ HR2.out).mono ?_;rintro e w3 ⟨rfl, Fq1, qa, qf, qn⟩;obtain ⟨Fk', Fq', hp3, hf3, hn3⟩ := pair_step HP1.out HKT.out (⟨Fq1, qa, qf, qn⟩) HFIT.out;have HE : Hid (PT w B pb P m' ps w3) := PT.mk HPF.out HB1.out hp3 hf3 hn3;clear c1 qa qf qn hp3 hf3 hn3 HCR;go_wp2_with fail;go_ret;exact ⟨by simp, _, ps, HE.out, Nat.le_succ_of_le HPS.out.1.1, HPS.out.1.2⟩
end Go.Proofs.YtmnajomkfnkmeaaGreatDoor
