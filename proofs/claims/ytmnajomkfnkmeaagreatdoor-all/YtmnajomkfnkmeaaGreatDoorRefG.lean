import Derived.Test.YtmnajomkfnkmeaaGreatDoorRefM
import Derived.Deep.DeepCutAuto
import Derived.Deep.CutBlock
import Derived.BigQuiet
import Derived.Test.YtmnajomkfnkmeaaGreatDoorRefO
import Derived.Test.YtmnajomkfnkmeaaGreatDoorRefX
import Derived.Deep.AppendLies
import Derived.Deep.RegionHeld3
set_option maxRecDepth 100000
set_option maxHeartbeats 8000000
set_option linter.unusedSimpArgs false
namespace Go.Proofs.YtmnajomkfnkmeaaGreatDoor
open Go.RowKit
attribute [local go_sem] ofL_size
theorem dlaid_q (s r : Bs) (p : Nat) (w : World) (h : p + r.length ≤ s.length) (hl : s.length ≤ 1000000) :
  Calls Tryz.prog 94 #[.string (ofL s), .int .i64 (p : Int), .string (ofL r)] w fun e w' => e = .returned (.string (ofL (laidB s p r))) ∧ ∃ q, w' = w.drewN q := by
 have x1 : (ofL s).extract 0 p = ofL (s.take p) := by rw [extract_ofL]; simp
 have x2 : (ofL s).extract (p + r.length) s.length = ofL (s.drop (p + r.length)) := by
  rw [extract_ofL, List.take_of_length_le (by rw [List.length_drop]; exact Nat.le_refl _)]
 have s1 : (s.take p).length = p := by rw [List.length_take]; omega
 have s2 : (s.drop (p + r.length)).length = s.length - (p + r.length) := List.length_drop;have HE : Hid (ofL (s.take p) ++ ofL r ++ ofL (s.drop (p + r.length)) = ofL (laidB s p r)) := by
  show _ = _;unfold laidB;rw [ofL_append, ofL_append]
 generalize s.take p = s0 at *
 generalize s.drop (p + r.length) = s3 at *
 generalize laidB s p r = V at *
 have b1 : (0 : Int) ≤ (p : Int) := by omega
 have b2 : (p : Int) ≤ (s.length : Int) := by omega
 have b3 : (0 : Int) ≤ (p : Int) + (r.length : Int) := by omega
 have b4 : (p : Int) + (r.length : Int) ≤ (s.length : Int) := by omega
 have e1 : IntKind.i64.wrap ((p : Int) + (r.length : Int)) = (p : Int) + (r.length : Int) := by rw [IntKind.wrap_i64]; omega
 have n1 : ((p : Int) + (r.length : Int)).toNat = p + r.length := by omega
 have p1 : ¬ (9223372036854775807 < s0.length + r.length) := by omega
 have p2 : ¬ (9223372036854775807 < s0.length + r.length + s3.length) := by omega
 clear s1 s2 h hl;go_enter Tryz.func94, Tryz.ntmps94;go_wp2_with fail
 go_quiet (fail)
 go_wp2;go_ret;exact ⟨by rw [← HE.out]; rfl, _, rfl⟩
theorem bit_bool (x : Int) : (Int.tmod x 2 != 0) = decide (x % 2 ≠ 0) := by
 rw [Bool.eq_iff_iff];simp only [bne_iff_ne, decide_eq_true_eq, ne_eq];exact not_congr ⟨fun h => Int.emod_eq_zero_of_dvd (Int.dvd_of_tmod_eq_zero h), fun h => Int.tmod_eq_zero_of_dvd (Int.dvd_of_emod_eq_zero h)⟩
def WayFits (m : Kp) : Prop := ∀ x ∈ m.way, x.1 + 32 ≤ m.disk.length ∧ x.2.length = 32
structure LeftK (m : Kp) (keep torn part : Int) (k : Nat) (st : Bs) : Prop where
 eq : m.left keep torn part = leftAux keep torn part k st (m.way.drop k)
 len : st.length = m.disk.length
theorem LeftK.next {m : Kp} {keep torn part : Int} {k : Nat} {st s2 : Bs} {x : Nat × Bs} (h : LeftK m keep torn part k st) (hx : m.way[k]? = some x)
  (he : s2 = if (k : Int) = torn then laidB st x.1 (x.2.take (clampP part)) else if (keep / (2 ^ (min k 62) : Nat)) % 2 ≠ 0 then laidB st x.1 x.2 else st)
  (hl : s2.length = m.disk.length) : LeftK m keep torn part (k + 1) s2 := by
 obtain ⟨hk, hx⟩ := List.getElem?_eq_some_iff.1 hx;refine ⟨?_, hl⟩;rw [h.eq, List.drop_eq_getElem_cons hk, he, hx];rfl
theorem dkleft_any (kb : Nat) (F : Nat → Prop) (m : Kp) (keep torn part : Int) (w : World) (h : DK w kb F m) (hfit : WayFits m) (h0 : -9223372036854775808 ≤ keep ∧ keep ≤ 9223372036854775807) (h2 : -9223372036854775808 ≤ part ∧ part ≤ 9223372036854775807) :
  Calls Tryz.prog 47 #[.pointer (some ⟨kb, 0, none⟩), .int .i64 keep, .int .i64 torn, .int .i64 part] w fun e w' => e = .returned (.string (ofL (m.left keep torn part))) ∧ Below w.heap.size w w' := by
 obtain ⟨seed, cn, wv, tb, f, hp, hF⟩ := h;have c7 := hp.blk.cell 7;have c8 := hp.blk.cell 8;simp only [rkA, gT, gZ, gS] at c7 c8;have hsz := hp.bnd.size;unfold okSize at hsz;have hL : m.disk.length ≤ 6400 := by omega
 have hfew := hp.bnd.few;have HWY : Hid (WYO w wv m.way) := hp.way;have HB8 : Hid (∀ wx, Below w.heap.size w wx → wx.cell? ⟨kb, 8, none⟩ = some wv) := fun wx hb => (hp.blk.below hb).cell 8;obtain ⟨a0, c0, hwv⟩ := wo_slice hp.way;obtain ⟨n, hn⟩ : ∃ n, m.way.length = n := ⟨_, rfl⟩;rw [hn] at hwv hfew;have HN : Hid (m.way.length = n) := hn;have HFI : Hid (WayFits m) := hfit;have HKB : Hid (-9223372036854775808 ≤ keep ∧ keep ≤ 9223372036854775807) := h0;have HL0 : Hid (LeftK m keep torn part 0 m.disk) := ⟨rfl, rfl⟩;subst hwv;obtain ⟨D, hD⟩ : ∃ D, D = m.disk := ⟨_, rfl⟩;rw [← hD] at c7 HL0;obtain ⟨pc, hpc⟩ : ∃ pc : Nat, pc = clampP part := ⟨_, rfl⟩;have hpc32 : pc ≤ 32 := by rw [hpc]; unfold clampP; omega
 have HPC : Hid (pc = clampP part) := hpc;clear hp hF hn hfit h0 hsz hD hpc;go_enter Tryz.func47, Tryz.ntmps47;go_upto_if 17 with fail
 go_cut [3] (fun pv wx => pv = .int .i64 (max part 0) ∧ wx = w)
 case first =>
  by_cases hp0 : part < 0
  ·have em : max part 0 = 0 := by omega
   go_wp2_with fail;go_meet
   case rel => exact ⟨by rw [em], rfl⟩
  ·have em : max part 0 = part := by omega
   go_wp2_with fail;go_meet
   case rel => exact ⟨by rw [em], rfl⟩
 case rest =>
 obtain ⟨rfl, hwc⟩ := hcut;replace hwc := hwc.symm;subst hwc;obtain ⟨p1, hp1⟩ : ∃ p1 : Int, p1 = max part 0 := ⟨_, rfl⟩;have hp1b : 0 ≤ p1 ∧ p1 ≤ 9223372036854775807 := by omega
 have HP1 : Hid (min p1 32 = (pc : Int)) := by have := HPC.out; unfold clampP at this; show _ = _; omega
 rw [← hp1];clear hp1 h2;go_upto_if 19 with fail
 go_cut [3] (fun pv wx => pv = .int .i64 (pc : Int) ∧ wx = w)
 case first =>
  by_cases hp0 : 32 < p1
  ·have em : (pc : Int) = 32 := by have := HP1.out; omega
   go_wp2_with fail;go_meet
   case rel => exact ⟨by rw [em], rfl⟩
  ·have em : (pc : Int) = p1 := by have := HP1.out; omega
   go_wp2_with fail;go_meet
   case rel => exact ⟨by rw [em], rfl⟩
 case rest =>
 obtain ⟨rfl, hwc⟩ := hcut;replace hwc := hwc.symm;subst hwc;clear HP1 hp1b p1;go_wp2_with fail
 go_loopw [9, 10] (fun sv iv wx => ∃ (k : Nat) (st : Bs), iv = .int .i64 k ∧ k ≤ n ∧ sv = .string (ofL st) ∧ Hid (LeftK m keep torn part k st) ∧ Hid (Below w.heap.size w wx)) (fun _ iv _ => n - (intOf iv).toNat)
 case atStart => exact ⟨0, D, rfl, Nat.zero_le _, rfl, HL0.out, Below.refl _ _⟩
 case round =>
  obtain ⟨k, st, rfl, hk, rfl, HK, HB⟩ := hrel;have c8 : wr.cell? ⟨kb, 8, none⟩ = some (Value.slice a0 n c0) := HB8.out wr HB.out;by_cases hlt : k < n
  ·have hkw : k < m.way.length := by rw [HN.out]; exact hlt
   obtain ⟨x, hx⟩ : ∃ x, x = m.way[k] := ⟨_, rfl⟩;have HX : Hid (m.way[k]? = some x) := by rw [hx]; exact List.getElem?_eq_getElem hkw
   obtain ⟨q, hq⟩ : ∃ q, a0 = some ⟨q, 0, none⟩ := by
    rcases HWY.out.cases with ⟨e, e2⟩ | ⟨q, cap, e, _⟩
    ·rw [e2] at hkw; exact absurd hkw (Nat.not_lt_zero _)
    ·injection e with e1 e2 e3; exact ⟨q, e1⟩
   subst hq;have HCP : Hid ((n : Int) ≤ (c0 : Int)) := by
    rcases HWY.out.cases with ⟨e, e2⟩ | ⟨q, cap, e, _, h4, _⟩
    ·cases e
    ·injection e with e1 e2 e3
     show _ ≤ _;rw [HN.out] at h4;omega
   have hwr := HWY.out.below HB.out;have d0 := Own.cell wrV_length hwr k hkw 0 (by decide);have d1 := Own.cell wrV_length hwr k hkw 1 (by decide);rw [← hx] at d0 d1;obtain ⟨f1, f2⟩ := HFI.out x (by rw [hx]; exact List.getElem_mem hkw);obtain ⟨p, r⟩ := x;change wr.cell? ⟨q, k * 2, none⟩ = some (.int .i64 (p : Int)) at d0;change wr.cell? ⟨q, k * 2 + 1, none⟩ = some (.string (ofL r)) at d1;change p + 32 ≤ m.disk.length at f1;change r.length = 32 at f2;have hst : st.length = m.disk.length := HK.out.len;clear hx hwr hkw;go_upto_if 31 with fail
   go_cut [11] (fun bv wx => bv = .int .i64 ((min k 62 : Nat) : Int) ∧ wx = wr)
   case first =>
    by_cases h6 : 62 < k
    ·have em : ((min k 62 : Nat) : Int) = 62 := by omega
     have h6 : (62 : Int) < (k : Int) := by omega
     go_wp2_with fail;go_meet
     case rel => exact ⟨by rw [em], rfl⟩
    ·have em : ((min k 62 : Nat) : Int) = k := by omega
     have h6 : ¬ (62 : Int) < (k : Int) := by omega
     go_wp2_with fail;go_meet
     case rel => exact ⟨by rw [em], rfl⟩
   case rest =>
   obtain ⟨rfl, hwc⟩ := hcut;replace hwc := hwc.symm;subst hwc;obtain ⟨bt, hbt⟩ : ∃ bt, bt = min k 62 := ⟨_, rfl⟩;have hb62 : bt ≤ 62 := by omega
   have HBT : Hid (bt = min k 62) := hbt;rw [← hbt];clear hbt;have z1 : (0 : Int) ≤ (k : Int) := by omega
   have z2 : (k : Int) < (n : Int) := by omega
   have z3 := HCP.out;by_cases htn : (k : Int) = torn
   ·have HLD : Hid (∀ wx : World, Calls _ _ _ wx _) := fun wx => dlaid_q st (r.take pc) p wx (by rw [List.length_take, hst]; omega) (by omega);have x1 : (ofL r).extract 0 pc = ofL (r.take pc) := by rw [extract_ofL]; simp
    have HS : Hid (LeftK m keep torn part (k + 1) (laidB st p (r.take pc))) := HK.out.next HX.out (by rw [if_pos htn, HPC.out]) (by rw [laidB_length (by rw [List.length_take, hst]; omega), hst]);subst htn;generalize r.take pc = rt at *
    generalize laidB st p rt = s2 at *
    have b0 : (0 : Int) ≤ (pc : Int) := by omega
    have b1 : (pc : Int) ≤ (r.length : Int) := by omega
    have b2 : (pc : Int).toNat = pc := by omega
    clear f1 hst;go_upto_region 13 with fail
    go_quiet ((go_at_call 94; exact Calls.quiet_of (HLD.out _)))
    go_wp2_with fail
    go_round
    case rel => exact ⟨k + 1, _, by go_num, by omega, rfl, HS.out, below_drewN HB.out _⟩
    case measure => simp [intOf]; omega
   ·have hne : ((k : Int) == torn) = false := by rw [Bool.eq_false_iff]; intro h; rw [beq_iff_eq] at h; exact htn h
    by_cases hb : (keep / (2 ^ bt : Nat)) % 2 ≠ 0
    ·have HLD : Hid (∀ wx : World, Calls _ _ _ wx _) := fun wx => dlaid_q st r p wx (by rw [hst]; omega) (by omega);have HS : Hid (LeftK m keep torn part (k + 1) (laidB st p r)) := HK.out.next HX.out (by rw [if_neg htn, ← HBT.out, if_pos hb]) (by rw [laidB_length (by rw [hst]; omega), hst]);have hbb : (Int.tmod (keep / (2 : Int) ^ bt) 2 != 0) = true := by rw [bit_bool]; exact decide_eq_true (by rw [Int.natCast_pow] at hb; exact hb)
     clear htn hb;go_upto_region 15 with fail
     go_quiet ((go_at_call 94; exact Calls.quiet_of (HLD.out _)))
     go_wp2_with fail
     go_round
     case rel => exact ⟨k + 1, _, by go_num, by omega, rfl, HS.out, below_drewN HB.out _⟩
     case measure => simp [intOf]; omega
    ·have HS : Hid (LeftK m keep torn part (k + 1) st) := HK.out.next HX.out (by rw [if_neg htn, ← HBT.out, if_neg hb]) hst;have hbb : (Int.tmod (keep / (2 : Int) ^ bt) 2 != 0) = false := by rw [bit_bool]; exact decide_eq_false (by rw [Int.natCast_pow] at hb; exact hb)
     clear htn hb;go_wp2_with fail
     go_round
     case rel => exact ⟨k + 1, _, by go_num, by omega, rfl, HS.out, HB.out⟩
     case measure => simp [intOf]; omega
  ·have hk2 : k = n := by omega
   subst hk2;have HE : Hid (m.left keep torn part = st) := by
    have := HK.out.eq;rw [List.drop_of_length_le (by rw [HN.out]; exact Nat.le_refl _)] at this;exact this
   go_wp2_with fail;go_ret;rw [HE.out];exact ⟨rfl, HB.out⟩
end Go.Proofs.YtmnajomkfnkmeaaGreatDoor
namespace Go.Proofs.YtmnajomkfnkmeaaGreatDoor
open Go.RowKit
attribute [local go_sem] ofL_size
structure PairP (w : World) (B pb kb rb : Nat) (sv : Value) (Fk Fq : Nat → Prop) (m : Kp) (ps : List Bs) : Prop where
 blk : Blk w pb #[.pointer (some ⟨kb, 0, none⟩), .pointer (some ⟨rb, 0, none⟩), sv] 74
 k : KAt w B kb Fk m
 r : DK w rb Fq m
 ps : SO w sv ps
 fit : WayFits m
 kr : ∀ b, Fk b → ¬ Fq b
 kp : ¬ Fk pb
 rp : ¬ Fq pb
 sk : ∀ b, sv.ownBlock = some b → ¬ Fk b ∧ ¬ Fq b ∧ b ≠ pb
 ge : B ≤ pb ∧ (∀ b, Fq b → B ≤ b) ∧ ∀ b, sv.ownBlock = some b → B ≤ b
def pfoot (pb : Nat) (sv : Value) (Fk Fq : Nat → Prop) (b : Nat) : Prop := b = pb ∨ Fk b ∨ Fq b ∨ sv.ownBlock = some b
def PAt (w : World) (B pb : Nat) (P : Nat → Prop) (m : Kp) (ps : List Bs) : Prop := ∃ kb rb sv Fk Fq, PairP w B pb kb rb sv Fk Fq m ps ∧ ∀ b, P b ↔ pfoot pb sv Fk Fq b
theorem PairP.foot {w : World} {B pb kb rb : Nat} {sv : Value} {Fk Fq : Nat → Prop} {m : Kp} {ps : List Bs} (h : PairP w B pb kb rb sv Fk Fq m ps) {b : Nat} (hb : pfoot pb sv Fk Fq b) : B ≤ b ∧ b < w.heap.size := by
 rcases hb with e | e | e | e
 ·rw [e]; exact ⟨h.ge.1, h.blk.lt⟩
 ·exact h.k.foot e
 ·exact ⟨h.ge.2.1 b e, h.r.foot e⟩
 ·exact ⟨h.ge.2.2 b e, h.ps.lt e⟩
theorem PAt.foot {w : World} {B pb : Nat} {P : Nat → Prop} {m : Kp} {ps : List Bs} (h : PAt w B pb P m ps) {b : Nat} (hb : P b) : B ≤ b ∧ b < w.heap.size := by
 obtain ⟨kb, rb, sv, Fk, Fq, hp, hP⟩ := h;exact hp.foot ((hP b).1 hb)
theorem PairP.kept {S : Nat → Prop} {w w' : World} {B pb kb rb : Nat} {sv : Value} {Fk Fq : Nat → Prop} {m : Kp} {ps : List Bs} (h : PairP w B pb kb rb sv Fk Fq m ps) (hf : Fr S w w') (hn : ∀ b, pfoot pb sv Fk Fq b → ¬ S b) : PairP w' B pb kb rb sv Fk Fq m ps :=
 ⟨h.blk.kept hf (hn pb (Or.inl rfl)), h.k.kept hf (fun b hb => hn b (Or.inr (Or.inl hb))), h.r.kept hf (fun b hb => hn b (Or.inr (Or.inr (Or.inl hb)))), h.ps.kept hf (fun b hb => hn b (Or.inr (Or.inr (Or.inr hb)))), h.fit, h.kr, h.kp, h.rp, h.sk, h.ge⟩
theorem PAt.kept {S : Nat → Prop} {w w' : World} {B pb : Nat} {P : Nat → Prop} {m : Kp} {ps : List Bs} (h : PAt w B pb P m ps) (hf : Fr S w w') (hn : ∀ b, P b → ¬ S b) : PAt w' B pb P m ps := by
 obtain ⟨kb, rb, sv, Fk, Fq, hp, hP⟩ := h;exact ⟨kb, rb, sv, Fk, Fq, hp.kept hf (fun b hb => hn b ((hP b).2 hb)), hP⟩
theorem openK_shape (d : Bs) (c : Cfg) : openK d c = (2, none) ∨ openK d c = (3, none) ∨ ∃ m, openK d c = (0, some m) ∧ m.way = [] := by
 unfold openK;split
 ·exact Or.inl rfl
 ·split
  ·exact Or.inr (Or.inl rfl)
  ·cases readD d with
   | none => exact Or.inr (Or.inl rfl)
   | some st => exact Or.inr (Or.inr ⟨_, rfl, rfl⟩)
def poTo (w : World) (B : Nat) (o : Option Kp) (e : Ending) (w' : World) : Prop :=
 match o with
 | none => e = .returned (.tuple #[.pointer none, .bool true]) ∧ Fr (fun _ => False) w w'
 | some m => ∃ pb P, e = .returned (.tuple #[.pointer (some ⟨pb, 0, none⟩), .bool true]) ∧ PAt w' B pb P m [] ∧ (∀ b, P b → w.heap.size ≤ b) ∧ Fr (fun _ => False) w w'
theorem popen_any (d : Bs) (c : Cfg) (B : Nat) (G : Gl) (w : World) (hd : d.length ≤ 9223372036854775807) (hs : c.secret.length ≤ 9223372036854775000) (hG : Glob B G w) :
  Calls Tryz.prog 12 #[.string (ofL d), cfgV c] w (poTo w B (openK d c).2) := by
 have HG : Hid (Glob B G w) := hG;obtain ⟨O, hO⟩ : ∃ O, O = openK d c := ⟨_, rfl⟩;have HOP : Hid (∀ w', Glob B G w' → Calls Tryz.prog 38 #[.string (ofL d), cfgV c] w' (oTo w' B O)) := fun w' h => by rw [hO]; exact Open_any d c B G w' hd hs h
 have HRO : Hid (∀ w', Calls Tryz.prog 39 #[.string (ofL d), cfgV c] w' (roTo w' O)) := fun w' => by rw [hO]; exact ropen_any c d w' hs hd
 have hsh := openK_shape d c;rw [← hO] at hsh ⊢;have hb0 : ∀ o, Below w.heap.size w (w.alloc o) := fun o => (Below.refl _ _).alloc (Nat.le_refl _) o;have HB0 : Hid (∀ o, Below w.heap.size w (w.alloc o)) := hb0;clear hO hG hb0;unfold cfgV at HOP HRO ⊢;go_enter Tryz.func12, Tryz.ntmps12;go_wp2_with fail;refine (HOP.out _ (DigitsBelow HG.out (HB0.out _))).mono ?_;intro e w1 h1;have HQ0 : Hid (Blk _ w.heap.size _ 23) := Blk.new w #[.string (ofL c.secret), .int .i64 c.seed, .int .i64 c.idle, .int .i64 c.abs, .int .i64 c.now] 23;obtain ⟨w0, hw0⟩ : ∃ w0, w0 = w.alloc (.cells #[.string (ofL c.secret), .int .i64 c.seed, .int .i64 c.idle, .int .i64 c.abs, .int .i64 c.now] 23) := ⟨_, rfl⟩;have HB1 : Hid (Below w.heap.size w w0) := by rw [hw0]; exact HB0.out _
 have hz0 : w.heap.size ≤ w0.heap.size := HB1.out.size;have HGE : Hid (B ≤ w.heap.size) := HG.out.le;rw [← hw0] at HQ0 h1;clear HB0 hw0 HOP;rcases hsh with rfl | rfl | ⟨m, rfl, hway⟩
 ·obtain ⟨rfl, hb1⟩ : e = _ ∧ Below w0.heap.size w0 w1 := h1;have hq := HQ0.out.below hb1;have q0 := hq.cell 0;have q1 := hq.cell 1;have q2 := hq.cell 2;have q3 := hq.cell 3;have q4 := hq.cell 4;simp only [gT, gZ, gS] at q0 q1 q2 q3 q4;have HBB : Hid (Below w.heap.size w w1) := bstep HB1.out hb1;clear hq hb1;go_wp2_with fail;refine (HRO.out w1).mono ?_;rintro e w2 ⟨rfl, hf2⟩;have HF2 : Hid (Fr (fun _ => False) w w2) := (Fr.of_below HBB.out).trans hf2 (fun _ _ h => h);clear hf2 q0 q1 q2 q3 q4 HRO;go_wp2_with fail;go_ret2;exact ⟨rfl, HF2.out⟩
 ·obtain ⟨rfl, hb1⟩ : e = _ ∧ Below w0.heap.size w0 w1 := h1;have hq := HQ0.out.below hb1;have q0 := hq.cell 0;have q1 := hq.cell 1;have q2 := hq.cell 2;have q3 := hq.cell 3;have q4 := hq.cell 4;simp only [gT, gZ, gS] at q0 q1 q2 q3 q4;have HBB : Hid (Below w.heap.size w w1) := bstep HB1.out hb1;clear hq hb1;go_wp2_with fail;refine (HRO.out w1).mono ?_;rintro e w2 ⟨rfl, hf2⟩;have HF2 : Hid (Fr (fun _ => False) w w2) := (Fr.of_below HBB.out).trans hf2 (fun _ _ h => h);clear hf2 q0 q1 q2 q3 q4 HRO;go_wp2_with fail;go_ret2;exact ⟨rfl, HF2.out⟩
 ·obtain ⟨-, kb, Fk, rfl, hk1, hb1, hge1⟩ : (0 : Nat) = 0 ∧ ∃ kb Fk, e = _ ∧ KAt w1 B kb Fk m ∧ Below w0.heap.size w0 w1 ∧ ∀ b, Fk b → w0.heap.size ≤ b := h1;have hq := HQ0.out.below hb1;have q0 := hq.cell 0;have q1 := hq.cell 1;have q2 := hq.cell 2;have q3 := hq.cell 3;have q4 := hq.cell 4;simp only [gT, gZ, gS] at q0 q1 q2 q3 q4;have HBB : Hid (Below w.heap.size w w1) := bstep HB1.out hb1;have HK1 : Hid (KAt w1 B kb Fk m ∧ ∀ b, Fk b → w0.heap.size ≤ b) := ⟨hk1, hge1⟩;have hz1 := hb1.size;clear hq hb1 hk1 hge1;go_wp2_with fail;refine (HRO.out w1).mono ?_;rintro e w2 ⟨rb, Fq, rfl, hr2, hge2, hf2⟩;have HF2 : Hid (Fr (fun _ => False) w w2) := (Fr.of_below HBB.out).trans hf2 (fun _ _ h => h);have HK2 : Hid (KAt w2 B kb Fk m) := HK1.out.1.kept hf2 (fun _ _ h => h);have HR2 : Hid (DK w2 rb Fq m ∧ ∀ b, Fq b → w1.heap.size ≤ b) := ⟨hr2, hge2⟩;have hz2 := hf2.size;clear hf2 hr2 hge2 q0 q1 q2 q3 q4 HRO;go_wp2_with fail;go_ret2;have hba : Below w2.heap.size w2 (w2.alloc (.cells #[.pointer (some ⟨kb, 0, none⟩), .pointer (some ⟨rb, 0, none⟩), .slice none 0 0] 74)) := bA;have hge := HGE.out;have hfk : ∀ b, Fk b → b < w1.heap.size := fun b hb => (HK1.out.1.foot hb).2;have hfq : ∀ b, Fq b → b < w2.heap.size := fun b hb => HR2.out.1.foot hb;refine ⟨w2.heap.size, pfoot w2.heap.size (.slice none 0 0) Fk Fq, rfl, ⟨kb, rb, .slice none 0 0, Fk, Fq, ⟨Blk.new w2 _ _, HK2.out.below hba, HR2.out.1.below hba, Own.nil _ _ _ _, (fun x hx => by rw [hway] at hx; cases hx), fun b h1 h2 => ?_, fun h => ?_, fun h => ?_, (fun b hb => by cases hb), ?_, fun b h => ?_, fun b hb => by cases hb⟩, fun _ => Iff.rfl⟩, fun b hb => ?_, HF2.out.trans (Fr.of_below (S := fun _ => False) hba) (fun _ _ h => h)⟩
  ·have := hfk b h1;have := HR2.out.2 b h2;omega
  ·have := hfk _ h; omega
  ·have := hfq _ h; omega
  ·omega
  ·have := HR2.out.2 b h; omega
  ·rcases hb with e | e | e | e
   ·omega
   ·have := HK1.out.2 b e; omega
   ·have := HR2.out.2 b e; omega
   ·cases e
end Go.Proofs.YtmnajomkfnkmeaaGreatDoor
namespace Go.Proofs.YtmnajomkfnkmeaaGreatDoor
open Go.RowKit
attribute [local go_sem] ofL_size
theorem pstep {w w1 w2 : World} {pb ob i : Nat} {v a b c : Value} (h : w1.cell? ⟨pb, i, none⟩ = some v ∧ w1.cell? ⟨ob, 3, none⟩ = some a ∧ w1.cell? ⟨ob, 4, none⟩ = some b ∧ w1.cell? ⟨ob, 5, none⟩ = some c ∧ pb < w1.heap.size ∧ ob < w1.heap.size ∧ Below w.heap.size w w1) (hb : Below w1.heap.size w1 w2) :
  w2.cell? ⟨pb, i, none⟩ = some v ∧ w2.cell? ⟨ob, 3, none⟩ = some a ∧ w2.cell? ⟨ob, 4, none⟩ = some b ∧ w2.cell? ⟨ob, 5, none⟩ = some c ∧ pb < w2.heap.size ∧ ob < w2.heap.size ∧ Below w.heap.size w w2 := by
 obtain ⟨h1, h2, h3, h4, h5, h6, h7⟩ := h;exact ⟨(hb.cell (p := ⟨pb, i, none⟩) h5).trans h1, (hb.cell (p := ⟨ob, 3, none⟩) h6).trans h2, (hb.cell (p := ⟨ob, 4, none⟩) h6).trans h3, (hb.cell (p := ⟨ob, 5, none⟩) h6).trans h4, Nat.lt_of_lt_of_le h5 hb.size, Nat.lt_of_lt_of_le h6 hb.size, bstep h7 hb⟩
end Go.Proofs.YtmnajomkfnkmeaaGreatDoor
namespace Go.Proofs.YtmnajomkfnkmeaaGreatDoor
theorem Broke.fits {m0 m' : Kp} {p : Nat} {r : Bs} (h : Broke m0 m' p r) (hs : m0.disk.length % 32 = 0) (hp : p + r.length ≤ m0.disk.length) : WayFits m' := by
 obtain ⟨qs, rs, e1, _, e3⟩ := h.ex;intro x hx;rw [e3] at hx ⊢;obtain ⟨o, ho, rfl⟩ := List.mem_map.1 hx;have hm : o ∈ offs p r.length := by rw [e1]; exact List.mem_append_left _ ho
 rw [mem_offs] at hm;have hlen : (laidB m0.disk p r).length = m0.disk.length := laidB_length hp;have h32 : o + 32 ≤ m0.disk.length := by omega
 refine ⟨h32, ?_⟩;show (((laidB m0.disk p r).drop o).take 32).length = 32;rw [List.length_take, List.length_drop, hlen];omega
theorem Lost.fits {d : Bs} {st : St} {m' : Kp} (h : Lost d st m') (hh : Holds d st) : WayFits m' := by
 have hs := hh.size;have hb := hh.bounds;have hhb := half_bounds hs;have hr1 := regAt_le hs hb.2.2.1;have hr2 := regAt_le hs (show 1 - st.reg ≤ 1 by omega);have hs1 := hs.1;cases h with
 | chg m0 c hd hf hb2 =>
  subst hd;have := hf.room;exact hb2.fits hs1 (by rw [recB_length]; omega)
 | half m0 t hd _ ht hb2 =>
  subst hd;exact hb2.fits hs1 (by omega)
 | head m0 t g _ ht hm0 _ hb2 =>
  have hl : m0.disk.length = d.length := by rw [hm0]; exact laidB_length (by omega)
  exact hb2.fits (by rw [hl]; exact hs1) (by rw [sectB_length, hl]; omega)
theorem Good.fits {m : Kp} (h : Good m) : WayFits m := fun x hx => by rw [h.way] at hx; cases hx
theorem Out.fits {m : Kp} {e : Nat} {m' : Kp} (h : Out m e m') (hg : Good m) : WayFits m' := by
 rcases h with a | a
 ·exact a.2.2.fits hg.holds
 ·exact a.2.1.fits
theorem look_down {m : Kp} {p : Bs} (h : m.down = true) : m.look p = (0, 4, m) := by unfold Kp.look; rw [find_down h, if_neg (by decide)]
theorem touch_fits {m : Kp} (hk : MOK m) (hf : WayFits m) (p : Bs) : WayFits (m.touch p).2 := by
 cases hd : m.down with
 | true => unfold Kp.touch; rw [look_down hd, if_neg (show ¬ (4 : Nat) = 0 by decide)]; exact hf
 | false => exact (touch_out (hk.good hd) p).fits (hk.good hd)
theorem logout_fits {m : Kp} (hk : MOK m) (hf : WayFits m) (p : Bs) : WayFits (m.logout p).2 := by
 cases hd : m.down with
 | true => unfold Kp.logout; rw [look_down hd, if_neg (show ¬ (4 : Nat) = 0 by decide)]; exact hf
 | false => exact (logout_out (hk.good hd) p).fits (hk.good hd)
theorem set_fits {m : Kp} (hk : MOK m) (hf : WayFits m) (p n v : Bs) : WayFits (m.set p n v).2 := by
 cases hd : m.down with
 | true =>
  unfold Kp.set;split
  ·exact hf
  ·rw [look_down hd, if_neg (show ¬ (4 : Nat) = 0 by decide)]; exact hf
 | false => exact (set_out (hk.good hd) p n v).fits (hk.good hd)
theorem rotate_fits {m : Kp} (hk : MOK m) (hf : WayFits m) (p : Bs) : WayFits (m.rotate p).2.2 := by
 cases hd : m.down with
 | true => rw [rotate_look (by rw [look_down hd]; exact (show (4 : Nat) ≠ 0 by decide)), look_down hd]; exact hf
 | false => exact (rotate_out (hk.good hd) p).fits (hk.good hd)
theorem login_fits {m : Kp} (hk : MOK m) (hf : WayFits m) (u : Int) : WayFits (m.login u).2.2 := by
 cases hd : m.down with
 | true => rw [login_down hd]; exact hf
 | false => exact (login_out (hk.good hd) u).fits (hk.good hd)
theorem outall_fits {m : Kp} (hk : MOK m) (hf : WayFits m) (u : Int) : WayFits (m.logoutAll u).2.2 := by
 cases hd : m.down with
 | true => rw [outall_down hd]; exact hf
 | false => exact (logoutAll_out (hk.good hd) u).fits (hk.good hd)
theorem compact_fits {m : Kp} (hk : MOK m) (hf : WayFits m) : WayFits m.compact.2 := by
 cases hd : m.down with
 | true => unfold Kp.compact; rw [if_pos hd]; exact hf
 | false => exact (compact_out (hk.good hd)).1.fits (hk.good hd)
theorem tick_fits {m : Kp} (hf : WayFits m) (n : Int) : WayFits (m.tick n).2 := by
 unfold Kp.tick;split
 ·exact hf
 ·split
  ·exact hf
  ·exact hf
theorem arm_fits {m : Kp} (hf : WayFits m) (n : Int) : WayFits (m.arm n) := by
 unfold Kp.arm;split
 ·exact hf
 ·exact hf
open Go.RowKit
theorem pair_step {w w1 w2 : World} {B pb kb rb : Nat} {sv : Value} {Fk Fq : Nat → Prop} {m m' : Kp} {ps : List Bs} (h : PairP w B pb kb rb sv Fk Fq m ps) (hk : KTo w B kb Fk m' w1) (hr : DKTo w1 rb Fq m' w2) (hfit : WayFits m') :
  ∃ Fk' Fq', PairP w2 B pb kb rb sv Fk' Fq' m' ps ∧ Fr (pfoot pb sv Fk Fq) w w2 ∧ ∀ b, pfoot pb sv Fk' Fq' b → pfoot pb sv Fk Fq b ∨ w.heap.size ≤ b := by
 obtain ⟨Fk', k1, k2, k3⟩ := hk;obtain ⟨Fq', q1, q2, q3⟩ := hr;have hz1 := k2.size;have hz2 := q2.size;have hpl := h.blk.lt;have hBw : B ≤ w.heap.size := by have := h.ge.1; omega
 have hkr : ∀ b, Fk' b → ¬ Fq' b := fun b a1 a2 => by
  have hb1 := (k1.foot a1).2;rcases q3 b a2 with e | e
  ·rcases k3 b a1 with e2 | e2
   ·exact h.kr b e2 e
   ·have := h.r.foot e; omega
  ·omega
 have hkq : ∀ b, Fk' b → ¬ Fq b := fun b a1 a2 => by
  rcases k3 b a1 with e2 | e2
  ·exact h.kr b e2 a2
  ·have := h.r.foot a2; omega
 have hnp : ¬ Fk' pb := fun a => by
  rcases k3 pb a with e | e
  ·exact h.kp e
  ·omega
 have hrp : ¬ Fq' pb := fun a => by
  rcases q3 pb a with e | e
  ·exact h.rp e
  ·omega
 have hf : Fr (pfoot pb sv Fk Fq) w w2 := (k2.mono (fun b _ e => Or.inr (Or.inl e))).trans q2 (fun b _ e => Or.inr (Or.inr (Or.inl e)));refine ⟨Fk', Fq', ⟨(h.blk.kept k2 h.kp).kept q2 h.rp, k1.kept q2 (fun b a1 a2 => hkq b a1 a2), q1, (h.ps.kept k2 (fun b hb => (h.sk b hb).1)).kept q2 (fun b hb => (h.sk b hb).2.1), hfit, hkr, hnp, hrp, fun b hb => ⟨fun a => ?_, fun a => ?_, (h.sk b hb).2.2⟩, h.ge.1, fun b hb => ?_, h.ge.2.2⟩, hf, fun b hb => ?_⟩
 ·rcases k3 b a with e | e
  ·exact (h.sk b hb).1 e
  ·have := h.ps.lt hb; omega
 ·rcases q3 b a with e | e
  ·exact (h.sk b hb).2.1 e
  ·have := h.ps.lt hb; omega
 ·rcases q3 b hb with e | e
  ·exact h.ge.2.1 b e
  ·omega
 ·rcases hb with e | e | e | e
  ·exact Or.inl (Or.inl e)
  ·rcases k3 b e with e | e
   ·exact Or.inl (Or.inr (Or.inl e))
   ·exact Or.inr e
  ·rcases q3 b e with e | e
   ·exact Or.inl (Or.inr (Or.inr (Or.inl e)))
   ·exact Or.inr (by omega)
  ·exact Or.inl (Or.inr (Or.inr (Or.inr e)))
end Go.Proofs.YtmnajomkfnkmeaaGreatDoor
namespace Go.Proofs.YtmnajomkfnkmeaaGreatDoor
open Go.RowKit
attribute [local go_sem] ofL_size
theorem str_pushL {w : World} {sv : Value} {ps : List Bs} {n : Nat} (h : SO w sv ps) (hn : ps.length = n) (hle : n ≤ 1000000000000) (q : Bs) :
  ∃ i0, Tryz.prog.info? 9 = some i0 ∧ i0.zero = some (.string ByteArray.empty) ∧ i0.size = 1 ∧ i0.bytes = 16 ∧ (w.alloc (.cells #[.string (ofL q)] 9)).ownsRow 0 9 1 sv n (flatV strV ps) ∧
   (∀ (j : Nat) (u : Value), [Value.string (ofL q)][j]? = some u → (w.alloc (.cells #[.string (ofL q)] 9)).cell? ((⟨w.heap.size, 0, none⟩ : Addr).add j) = some u) ∧ (∀ u ∈ [Value.string (ofL q)], u.oneCell' = true) ∧ n + 1 ≤ maxLen ∧ (n + 1) * 16 ≤ 140737488355328 := by
 obtain ⟨i0, hi, hzz⟩ := Option.map_eq_some_iff.1 info_str;simp only [Prod.mk.injEq] at hzz;obtain ⟨hz, hs0, hb⟩ := hzz;have ho : SO (w.alloc (.cells #[.string (ofL q)] 9)) sv ps := h.below (bA);unfold SO Own at ho;rw [hn] at ho;exact ⟨i0, hi, hz, hs0, hb, ho, World.news_of_block (Blk.new w _ _), fun u hu => by rw [List.mem_singleton.1 hu]; rfl, by unfold maxLen; omega, by omega⟩
theorem PairP.pushP {w w2 : World} {B pb kb rb : Nat} {sv : Value} {Fk Fq : Nat → Prop} {m : Kp} {ps : List Bs} {o : Obj} {q : Bs} {k g cap : Nat} (h : PairP w B pb kb rb sv Fk Fq m ps) (hn : ps.length = k)
  (hown : w2.ownsRow 0 9 1 (.slice (some ⟨g, 0, none⟩) (k + 1) cap) (k + 1) (flatV strV ps ++ [.string (ofL q)])) (hgr : (w.alloc o).grownBy w2 sv.ownBlock) (hloc : sv.ownBlock = some g ∨ g = (w.alloc o).heap.size) :
  w2.cell? ⟨pb, 2, none⟩ = some sv ∧ w2.frozen? ⟨pb, 2, none⟩ = false ∧ PairP (w2.setCell ⟨pb, 2, none⟩ (.slice (some ⟨g, 0, none⟩) (k + 1) cap)) B pb kb rb (.slice (some ⟨g, 0, none⟩) (k + 1) cap) Fk Fq m (ps ++ [q]) ∧
   Fr (fun b => b = pb ∨ sv.ownBlock = some b) w (w2.setCell ⟨pb, 2, none⟩ (.slice (some ⟨g, 0, none⟩) (k + 1) cap)) ∧ (sv.ownBlock = some g ∨ w.heap.size ≤ g) := by
 have hf1 : Fr (fun c => sv.ownBlock = some c) w (w.alloc o) := Fr.of_below (bA);have hf : Fr (fun c => sv.ownBlock = some c) w w2 := hf1.grown hgr (fun k hk _ => hk);have hs : (w.alloc o).heap.size = w.heap.size + 1 := by simp
 have nk : ¬ sv.ownBlock = some pb := fun e => (h.sk pb e).2.2 rfl;have hb2 := h.blk.kept hf nk;have hset := hb2.set 2 (.slice (some ⟨g, 0, none⟩) (k + 1) cap);have hfs := fr_cell (w := w2) (kb := pb) 2 (.slice (some ⟨g, 0, none⟩) (k + 1) cap);have hpl := h.blk.lt;have hBp := h.ge.1;have hg4 : g ≠ pb ∧ ¬ Fk g ∧ ¬ Fq g ∧ B ≤ g := by
  rcases hloc with e | e
  ·exact ⟨(h.sk g e).2.2, (h.sk g e).1, (h.sk g e).2.1, h.ge.2.2 g e⟩
  ·refine ⟨by omega, fun x => ?_, fun x => ?_, by omega⟩
   ·have := (h.k.foot x).2; omega
   ·have := h.r.foot x; omega
 refine ⟨hb2.cell 2, hb2.frozen 2, ⟨hset, (h.k.kept hf (fun b hb e => (h.sk b e).1 hb)).kept hfs (fun b hb e => h.kp (e ▸ hb)), (h.r.kept hf (fun b hb e => (h.sk b e).2.1 hb)).kept hfs (fun b hb e => h.rp (e ▸ hb)), (Own.pushed hn hown).kept hfs (fun c hc e => ?_), h.fit, h.kr, h.kp, h.rp, fun c hc => ?_, h.ge.1, h.ge.2.1, fun c hc => ?_⟩, (hf.mono (fun b _ e => Or.inr e)).trans hfs (fun b _ e => Or.inl e), ?_⟩
 ·have e2 : some g = some c := hc;injection e2 with e2; exact hg4.1 (e2.trans e)
 ·have e2 : some g = some c := hc;injection e2 with e2
  rw [← e2]; exact ⟨hg4.2.1, hg4.2.2.1, hg4.1⟩
 ·have e2 : some g = some c := hc;injection e2 with e2
  rw [← e2]; exact hg4.2.2.2
 ·rcases hloc with e | e
  ·exact Or.inl e
  ·exact Or.inr (by omega)
theorem takes_any (B pb kb rb : Nat) (sv : Value) (Fk Fq : Nat → Prop) (m : Kp) (ps : List Bs) (s : Bs) (w : World) (h : PairP w B pb kb rb sv Fk Fq m ps) (hn : ps.length ≤ 1000000000000) :
  Calls Tryz.prog 41 #[.pointer (some ⟨pb, 0, none⟩), .string (ofL s)] w fun e w' => e = .returned (.tuple #[]) ∧ ∃ sv', PairP w' B pb kb rb sv' Fk Fq m (if s.isEmpty = true then ps else ps ++ [s]) ∧ Fr (fun b => b = pb ∨ sv.ownBlock = some b) w w' ∧ ∀ b, sv'.ownBlock = some b → sv.ownBlock = some b ∨ w.heap.size ≤ b := by
 have HP : Hid (PairP w B pb kb rb sv Fk Fq m ps) := h;have hE := emptyBs s;cases hs : s.isEmpty with
 | true =>
  rw [hs] at hE;rw [if_pos rfl];clear hs h;go_enter Tryz.func41, Tryz.ntmps41;go_wp2_with fail;go_end0;exact ⟨rfl, sv, HP.out, Fr.refl _ _, fun b hb => Or.inl hb⟩
 | false =>
  rw [hs] at hE;rw [if_neg (by decide)];obtain ⟨sa, sc, hsv, -⟩ := so_slice h.ps;obtain ⟨n, hnn⟩ : ∃ n, ps.length = n := ⟨_, rfl⟩;rw [hnn] at hsv hn;subst hsv;obtain ⟨i0, hfacts⟩ := str_pushL h.ps hnn hn s;have HF : Hid (_ ∧ _ ∧ _ ∧ _ ∧ _ ∧ _ ∧ _ ∧ _ ∧ _) := hfacts;have HNN : Hid (ps.length = n) := hnn;have c2 := h.blk.cell 2;simp only [gT, gZ, gS] at c2;clear hfacts hs h hnn;go_enter Tryz.func41, Tryz.ntmps41;go_wp2_with (at_builtin; refine wpList_append_lies _ rfl _ _ 57 rfl 0 9 i0 (.string ByteArray.empty) 1 16 Tryz.underlying57 HF.out.1 HF.out.2.1 HF.out.2.2.1 HF.out.2.2.2.1 rfl (by decide) (.slice sa n sc) n (flatV strV ps) rfl HF.out.2.2.2.2.1 ⟨w.heap.size, 0, none⟩ 1 1 [.string (ofL s)] rfl rfl HF.out.2.2.2.2.2.1 HF.out.2.2.2.2.2.2.1 (by decide) HF.out.2.2.2.2.2.2.2.1 HF.out.2.2.2.2.2.2.2.2 (Nat.zero_le _) _ rfl ?_; intro g cap2 w5 hown hgr hloc hlt; obtain ⟨p1, p2, p3, p4, p5⟩ := PairP.pushP HP.out HNN.out hown hgr hloc; have HQ : Hid (_ ∧ _ ∧ _) := ⟨p3, p4, p5⟩; clear hown hgr hloc hlt p3 p4 p5);go_end0;refine ⟨rfl, _, HQ.out.1, HQ.out.2.1, fun b hb => ?_⟩;have e2 : some g = some b := hb;injection e2 with e2
  rw [← e2];exact HQ.out.2.2
theorem lpick_any (c : Int) (n : Nat) (w : World) (h0 : -9223372036854775808 ≤ c) (h1 : c ≤ 9223372036854775807) (hn : 0 < n) :
  Calls Tryz.prog 50 #[.int .i64 c, .int .i64 n] w fun e w' => e = .returned (.int .i64 (pickN c n)) ∧ w' = w := by
 have HP : Hid (((pickN c n : Nat) : Int) = (if c < 0 then -(c + 1) else c) % n) := pickN_cast c hn;generalize pickN c n = r at *
 have hnz : ((n : Int) == 0) = false := by
  rw [Bool.eq_false_iff]; intro h; rw [beq_iff_eq] at h; omega
 by_cases hc : c < 0
 ·have hw1 : wrap64 (c + 1) = c + 1 := by unfold wrap64; omega
  have hw2 : wrap64 (-(c + 1)) = -(c + 1) := by unfold wrap64; omega
  have HC : Hid (c < 0) := hc;go_enter Tryz.func50, Tryz.ntmps50;go_wp2;go_ret;refine ⟨?_, rfl⟩;rw [HP.out, if_pos HC.out, ← Int.neg_tmod, Int.tmod_eq_emod_of_nonneg (by omega)]; rfl
 ·go_enter Tryz.func50, Tryz.ntmps50;go_wp2;go_ret;refine ⟨?_, rfl⟩;rw [HP.out, if_neg (by omega)]; rfl
end Go.Proofs.YtmnajomkfnkmeaaGreatDoor
