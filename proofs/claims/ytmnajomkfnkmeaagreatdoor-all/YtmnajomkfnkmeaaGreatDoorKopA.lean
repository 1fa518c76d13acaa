import Derived.Test.YtmnajomkfnkmeaaGreatDoorNum
import Derived.Test.YtmnajomkfnkmeaaGreatDoorPurB
import Derived.Test.YtmnajomkfnkmeaaGreatDoorKcA
set_option maxRecDepth 20000
set_option maxHeartbeats 2000000
namespace Go.Proofs.YtmnajomkfnkmeaaGreatDoor
open Go.RowKit
attribute [local go_sem] ofL_size
theorem pickN_cast (c : Int) {n : Nat} (h : 0 < n) : ((pickN c n : Nat) : Int) = (if c < 0 then -(c + 1) else c) % n := by
 unfold pickN;have h2 : 0 ≤ ((if c < 0 then -(c + 1) else c) % (n : Int)) := Int.emod_nonneg _ (by omega);omega
def cfgV (c : Cfg) : Value := .agg #[.string (ofL c.secret), .int .i64 c.seed, .int .i64 c.idle, .int .i64 c.abs, .int .i64 c.now]
end Go.Proofs.YtmnajomkfnkmeaaGreatDoor
namespace Go.Proofs.YtmnajomkfnkmeaaGreatDoor
open Go.RowKit Go.Conc
attribute [local go_sem] ofL_size
theorem mayBe_any (c : Cfg) (w : World) (h : c.secret.length ≤ 9223372036854775000) :
  Calls Tryz.prog 74 #[cfgV c] w fun e w' => e = .returned (.bool c.ok) ∧ Below w.heap.size w w' := by
 obtain ⟨b5, h5⟩ : ∃ b, b = decide (1 ≤ c.idle ∧ c.idle ≤ 1000000000) := ⟨_, rfl⟩;obtain ⟨b6, h6⟩ : ∃ b, b = decide (1 ≤ c.abs ∧ c.abs ≤ 1000000000) := ⟨_, rfl⟩;obtain ⟨b7, h7⟩ : ∃ b, b = decide (0 ≤ c.now ∧ c.now ≤ 1000000000) := ⟨_, rfl⟩;obtain ⟨r, hr⟩ : ∃ r, r = c.ok := ⟨_, rfl⟩;rw [← hr];have HR : Hid (r = (decide (1 ≤ c.secret.length ∧ c.secret.length ≤ 16) && decide (0 ≤ c.seed ∧ c.seed ≤ 65536) && b5 && b6 && b7)) := by
  show _ = _;rw [hr, h5, h6, h7]; rfl
 have HS5 : Hid (∀ w, Calls Tryz.prog 126 #[.int .i64 c.idle] w fun e w' => e = .returned (.bool b5) ∧ w' = w) := fun w => by rw [h5]; exact isSpan_any c.idle w
 have HS6 : Hid (∀ w, Calls Tryz.prog 126 #[.int .i64 c.abs] w fun e w' => e = .returned (.bool b6) ∧ w' = w) := fun w => by rw [h6]; exact isSpan_any c.abs w
 have HS7 : Hid (∀ w, Calls Tryz.prog 127 #[.int .i64 c.now] w fun e w' => e = .returned (.bool b7) ∧ w' = w) := fun w => by rw [h7]; exact isTime_any c.now w
 have e0 : wrap64 (c.secret.length : Int) = c.secret.length := by unfold wrap64; omega
 have HB0 : Hid (Below w.heap.size w (w.alloc (.cells #[.string (ofL c.secret), .int .i64 c.seed, .int .i64 c.idle, .int .i64 c.abs, .int .i64 c.now] 23))) := bA;clear hr h5 h6 h7 h;unfold cfgV;by_cases c1 : 1 ≤ c.secret.length
 ·have e1 : (1 : Int) ≤ (c.secret.length : Int) := by omega
  by_cases c2 : c.secret.length ≤ 16
  ·have e2 : (c.secret.length : Int) ≤ 16 := by omega
   by_cases c3 : 0 ≤ c.seed
   ·by_cases c4 : c.seed < 65537
    ·have HR2 : Hid (r = (b5 && b6 && b7)) := by
      show _ = _;rw [HR.out, decide_eq_true ⟨c1, c2⟩, decide_eq_true (show 0 ≤ c.seed ∧ c.seed ≤ 65536 by omega)]; rfl
     clear HR c1 c2;go_enter Tryz.func74, Tryz.ntmps74;go_wp2_with fail;refine (HS5.out _).mono ?_;rintro e w1 ⟨rfl, rfl⟩;cases b5 with
     | false =>
      have HR3 : Hid (r = false) := HR2.out;go_wp2_with fail;go_ret;exact ⟨by (rw [HR3.out]) <;> rfl, HB0.out⟩
     | true =>
      go_wp2_with fail;refine (HS6.out _).mono ?_;rintro e w1 ⟨rfl, rfl⟩;cases b6 with
      | false =>
       have HR3 : Hid (r = false) := HR2.out;go_wp2_with fail;go_ret;exact ⟨by (rw [HR3.out]) <;> rfl, HB0.out⟩
      | true =>
       go_wp2_with fail;refine (HS7.out _).mono ?_;rintro e w1 ⟨rfl, rfl⟩;have HR3 : Hid (r = b7) := HR2.out;go_wp2_with fail;go_ret;exact ⟨by (rw [HR3.out]) <;> rfl, HB0.out⟩
    ·have HR2 : Hid (r = false) := by
      show _ = _;rw [HR.out, decide_eq_false (show ¬ (0 ≤ c.seed ∧ c.seed ≤ 65536) by omega), Bool.and_false]; rfl
     clear HR c1 c2;go_enter Tryz.func74, Tryz.ntmps74;go_wp2_with fail;go_ret;exact ⟨by (rw [HR2.out]) <;> rfl, HB0.out⟩
   ·have HR2 : Hid (r = false) := by
     show _ = _;rw [HR.out, decide_eq_false (show ¬ (0 ≤ c.seed ∧ c.seed ≤ 65536) by omega), Bool.and_false]; rfl
    clear HR c1 c2;go_enter Tryz.func74, Tryz.ntmps74;go_wp2_with fail;go_ret;exact ⟨by (rw [HR2.out]) <;> rfl, HB0.out⟩
  ·have HR2 : Hid (r = false) := by
    show _ = _;rw [HR.out, decide_eq_false (show ¬ (1 ≤ c.secret.length ∧ c.secret.length ≤ 16) by omega)]; rfl
   have e2 : ¬ (c.secret.length : Int) ≤ 16 := by omega
   clear HR c1 c2;go_enter Tryz.func74, Tryz.ntmps74;go_wp2_with fail;go_ret;exact ⟨by (rw [HR2.out]) <;> rfl, HB0.out⟩
 ·have HR2 : Hid (r = false) := by
   show _ = _;rw [HR.out, decide_eq_false (show ¬ (1 ≤ c.secret.length ∧ c.secret.length ≤ 16) by omega)]; rfl
  have e1 : ¬ (1 : Int) ≤ (c.secret.length : Int) := by omega
  clear HR c1;go_enter Tryz.func74, Tryz.ntmps74;go_wp2_with fail;go_ret;exact ⟨by (rw [HR2.out]) <;> rfl, HB0.out⟩
end Go.Proofs.YtmnajomkfnkmeaaGreatDoor
namespace Go.Proofs.YtmnajomkfnkmeaaGreatDoor
open Go.RowKit Go.Conc
attribute [local go_sem] ofL_size
theorem openK_conf {l : Bs} {c : Cfg} (hc : c.ok = false) : openK l c = (2, none) := by unfold openK; rw [if_pos hc]
theorem openK_size {l : Bs} {c : Cfg} (hc : c.ok = true) (h : ¬ okSize l.length) : openK l c = (3, none) := by
 unfold okSize at h; unfold openK; rw [if_neg (by rw [hc]; decide), if_pos h]
theorem openK_none {l : Bs} {c : Cfg} (hc : c.ok = true) (h : okSize l.length) (hr : readD l = none) : openK l c = (3, none) := by
 unfold openK; rw [if_neg (by rw [hc]; decide), if_neg (fun x => x h), hr]
def openM (l : Bs) (c : Cfg) (st : St) : Kp := ⟨c.secret, c.idle.toNat, c.abs.toNat, c.now.toNat, c.seed.toNat, cleanD l st, [], 0, false, st⟩
theorem openK_some {l : Bs} {c : Cfg} {st : St} (hc : c.ok = true) (h : okSize l.length) (hr : readD l = some st) : openK l c = (0, some (openM l c st)) := by
 unfold openK; rw [if_neg (by rw [hc]; decide), if_neg (fun x => x h), hr]; rfl
theorem Cfg.ok.bounds {c : Cfg} (h : c.ok = true) : (1 ≤ c.secret.length ∧ c.secret.length ≤ 16) ∧ (0 ≤ c.seed ∧ c.seed ≤ 65536) ∧ (1 ≤ c.idle ∧ c.idle ≤ 1000000000) ∧ (1 ≤ c.abs ∧ c.abs ≤ 1000000000) ∧ (0 ≤ c.now ∧ c.now ≤ 1000000000) := by
 unfold Cfg.ok at h;simp only [Bool.and_eq_true, decide_eq_true_eq] at h;exact ⟨h.1.1.1.1, h.1.1.1.2, h.1.1.2, h.1.2, h.2⟩
theorem openM_ok {l : Bs} {c : Cfg} {st : St} (hc : c.ok = true) (h : okSize l.length) (hr : readD l = some st) : MOK (openM l c st) := by
 obtain ⟨m, e, hg, _⟩ := open_good hc h hr;rw [openK_some hc h hr] at e;injection e with _ e
 injection e with e
 subst e;obtain ⟨h1, h2, h3, h4, h5⟩ := Cfg.ok.bounds hc;exact ⟨fun _ => hg, hg.holds.wf, h1.2, by show c.idle.toNat ≤ _; omega, by show c.abs.toNat ≤ _; omega, hg.now, hg.drawn⟩
def opTo (w : World) (B : Nat) (o : Option Kp) (e : Ending) (w' : World) : Prop :=
 match o with
 | none => (∃ a, e = .returned (.tuple #[.pointer none, errV a])) ∧ Below w.heap.size w w'
 | some m => ∃ kb F, e = .returned (.tuple #[.pointer (some ⟨kb, 0, none⟩), .nilIface]) ∧ KAt w' B kb F m ∧ Below w.heap.size w w' ∧ ∀ b, F b → w.heap.size ≤ b
theorem open_keep {w2 : World} {B db jb sb mb : Nat} {f : Fn} {D : DataW Unit} {sl : Nat → Value} {F' : Nat → Prop} {l : Bs} {c : Cfg} {st : St} (hc : c.ok = true) (h : okSize l.length) (hr : readD l = some st)
  (hd : DrvAt w2 B db F' (Dv.cleared ⟨l, l, [], 0, false⟩ (regAt l.length st.reg + st.endp) (halfN l.length - st.endp))) (hj : ¬ F' jb) (hJ : JB w2 jb db (jnOf l.length st)) (hT : TabAt w2 sb st.T mb f D sl) (hft : ∀ b, foot sb mb f sl b → B ≤ b ∧ b ≠ jb ∧ ¬ F' b) (hB : B ≤ w2.heap.size) (hjB : B ≤ jb) :
  ∃ (F : Nat → Prop) (d : Dv), (∀ b, F b ↔ kfoot w2.heap.size jb sb mb f sl F' b) ∧ KeepP (w2.alloc (.cells (kepA db jb sb (openM l c st)) 90)) B w2.heap.size db jb sb mb f D sl F' (openM l c st) d := by
 obtain ⟨hh, hl⟩ := read_holds h hr;have hbd := hh.bounds;rw [hl] at hbd;have hcl := clean_laid l st hbd.2.2.2.2.1;have hz : (zeros (halfN l.length - st.endp)).length = halfN l.length - st.endp := zeros_length _;have hin : regAt l.length st.reg + st.endp + (zeros (halfN l.length - st.endp)).length ≤ l.length := by
  rw [hz]; have := (regAt_le h hbd.2.2.1).1; omega
 have hlen : (laidB l (regAt l.length st.reg + st.endp) (zeros (halfN l.length - st.endp))).length = l.length := laidB_length hin;have hbelow : Below w2.heap.size w2 (w2.alloc (.cells (kepA db jb sb (openM l c st)) 90)) := bA;have hjl := hJ.lt;refine ⟨_, _, fun b => Iff.rfl, ⟨Blk.new _ _ _, ⟨hd.kept (S := fun _ => False) (Fr.of_below hbelow) (fun _ _ h => h), ⟨?_, rfl, fun _ hs => (by cases hs), List.nodup_nil, fun hx => (by cases hx)⟩, ⟨?_, rfl, rfl, rfl, fun _ => ⟨rfl, rfl⟩⟩, ?_, hj, hjB⟩, hT.kept (S := fun _ => False) (Fr.of_below hbelow) (fun _ _ h => h), ⟨?_, by omega, hB⟩, fun b hb => ?_, openM_ok hc h hr⟩⟩
 ·show okSize (laidB l _ _).length;rw [hlen]; exact h
 ·exact hcl.symm
 ·show JB _ jb db (jnOf (cleanD l st).length st);rw [hl];exact Blk.below hJ hbelow
 ·intro hx;have := (hd.foot hx).2;omega
 ·have := hT.lt b hb;exact ⟨(hft b hb).2.2, (hft b hb).2.1, by omega, (hft b hb).1⟩
theorem step5 {w0 w1 w2 : World} {q : Nat} {v0 v1 v2 v3 v4 : Value}
  (h : w1.cell? ⟨q, 0, none⟩ = some v0 ∧ w1.cell? ⟨q, 1, none⟩ = some v1 ∧ w1.cell? ⟨q, 2, none⟩ = some v2 ∧ w1.cell? ⟨q, 3, none⟩ = some v3 ∧ w1.cell? ⟨q, 4, none⟩ = some v4 ∧ q < w1.heap.size ∧ Below w0.heap.size w0 w1) (hb : Below w1.heap.size w1 w2) :
  w2.cell? ⟨q, 0, none⟩ = some v0 ∧ w2.cell? ⟨q, 1, none⟩ = some v1 ∧ w2.cell? ⟨q, 2, none⟩ = some v2 ∧ w2.cell? ⟨q, 3, none⟩ = some v3 ∧ w2.cell? ⟨q, 4, none⟩ = some v4 ∧ q < w2.heap.size ∧ Below w0.heap.size w0 w2 := by
 obtain ⟨a0, a1, a2, a3, a4, b1, b3⟩ := h;exact ⟨(below_cell hb b1).trans a0, (below_cell hb b1).trans a1, (below_cell hb b1).trans a2, (below_cell hb b1).trans a3, (below_cell hb b1).trans a4, Nat.lt_of_lt_of_le b1 hb.size, bstep b3 hb⟩
theorem open_any (l : Bs) (c : Cfg) (B : Nat) (G : Gl) (w : World) (hc : c.ok = true) (hm : l.length ≤ 9223372036854775807) (hG : Glob B G w) :
  Calls Tryz.prog 75 #[.string (ofL l), cfgV c] w (opTo w B (openK l c).2) := by
 obtain ⟨o, ho⟩ : ∃ o, o = (openK l c).2 := ⟨_, rfl⟩;rw [← ho];have HO : Hid (o = (openK l c).2) := ho;have HG : Hid (Glob B G w) := hG;have HC : Hid (c.ok = true) := hc;have hbox : Below w.heap.size w (w.alloc (.cells #[.string (ofL c.secret), .int .i64 c.seed, .int .i64 c.idle, .int .i64 c.abs, .int .i64 c.now] 23)) := bA;have HB0 : Hid (Below w.heap.size w _) := hbox;have HG0 : Hid (Glob B G _) := DigitsBelow hG hbox;have HM : Hid (l.length ≤ 9223372036854775807) := hm;have HQ0 : Hid (Blk _ w.heap.size _ 23) := Blk.new w #[.string (ofL c.secret), .int .i64 c.seed, .int .i64 c.idle, .int .i64 c.abs, .int .i64 c.now] 23;have HSE : Hid ((ofL c.secret).size ≤ 281474976710656) := by
  show _ ≤ _;rw [ofL_size]; have := (Cfg.ok.bounds hc).1; omega
 clear ho hG hc hm hbox;unfold cfgV;by_cases hs : okSize l.length
 ·have HS : Hid (okSize l.length) := hs;clear hs;go_enter Tryz.func75, Tryz.ntmps75;go_wp2_with fail;generalize w.alloc (Obj.cells _ _ _) = w0 at *
  refine (dnew_ok l B w0 HS.out HG0.out.le).mono ?_;rintro e w1 ⟨db, F, rfl, hd, hb1, hF⟩;have HD : Hid (DrvAt w1 B db F ⟨l, l, [], 0, false⟩) := hd;have HB1 : Hid (Below w0.heap.size w0 w1) := hb1;have HF : Hid (∀ b, F b → w0.heap.size ≤ b) := hF;clear hd hb1 hF;have HJ : Hid (Calls Tryz.prog 129 #[drvV db] w1 (joTo w1 B db F ⟨l, l, [], 0, false⟩ (readD l))) :=
   jopen_any db B F ⟨l, l, [], 0, false⟩ G w1 HD.out ⟨HS.out, rfl, fun _ hs => (by cases hs), List.nodup_nil, fun hx => (by cases hx)⟩ (DigitsBelow HG0.out HB1.out)
  unfold drvV at HJ;go_wp2_with fail;refine HJ.out.mono ?_;rintro e w2 hj;cases hr : readD l with
  | none =>
   have HN : Hid (o = none) := by
    show o = none;rw [HO.out, openK_none HC.out HS.out hr]
   rw [hr] at hj;obtain ⟨a, rfl, hb2⟩ := hj;have HB2 : Hid (Below w.heap.size w w2) := bstep (bstep HB0.out HB1.out) hb2;clear hr hb2 HJ;unfold errV;go_wp2_with fail;refine bodyPost_ret (v := .tuple #[.pointer none, errV a]) (by simp [results, Tryz.results75, go_sem, errV]) rfl ?_;rw [HN.out];exact ⟨⟨_, rfl⟩, HB2.out⟩
  | some st =>
   have HN : Hid (o = some (openM l c st)) := by
    show o = _;rw [HO.out, openK_some HC.out HS.out hr]
   rw [hr] at hj;obtain ⟨jb, sb, mb, f, D, sl, F', rfl, hd2, hf2, hn2, hjn, hJ2, hT2, hjg, hft⟩ := hj;have hw1 : w.heap.size < w0.heap.size := HQ0.out.lt;have hz0 := HB0.out.size;have hz1 := HB1.out.size;have HB2 : Hid (Below w.heap.size w w2) := (bstep HB0.out HB1.out).trans (hf2.belowB (by omega) (fun b hb => by have := HF.out b hb; omega));have HQ2 : Hid (Blk w2 w.heap.size _ 23) := Blk.kept (Blk.below HQ0.out HB1.out) hf2 (fun hh => by have := HF.out _ hh; omega);have hz2 := hf2.size;have hBw := HG.out.le;have HK : Hid (∀ w3, Below w2.heap.size w2 w3 → ∃ (F : Nat → Prop) (d : Dv), (∀ b, F b ↔ kfoot w3.heap.size jb sb mb f sl F' b) ∧ KeepP (w3.alloc (.cells #[.pointer (some ⟨db, 0, none⟩), .pointer (some ⟨jb, 0, none⟩), .pointer (some ⟨sb, 0, none⟩), .int .i64 c.seed, .string (ofL c.secret), .int .i64 c.idle, .int .i64 c.abs, .int .i64 c.now] 90)) B w3.heap.size db jb sb mb f D sl F' (openM l c st) d ∧ ∀ b, F b → w.heap.size ≤ b) := fun w3 h3 => by
    have hz3 := h3.size;obtain ⟨F3, d3, hF3, hk3⟩ := open_keep (B := B) (w2 := w3) HC.out HS.out hr (hd2.kept (S := fun _ => False) (Fr.of_below h3) (fun _ _ h => h)) hjn (Blk.below hJ2 h3) (hT2.kept (S := fun _ => False) (Fr.of_below h3) (fun _ _ h => h)) (fun b hb => ⟨by have := (hft b hb).1; omega, (hft b hb).2.1, (hft b hb).2.2⟩) (by omega) (by omega);refine ⟨F3, d3, hF3, ?_, fun b hb => ?_⟩
    ·obtain ⟨_, q2, q3, q4, q5⟩ := Cfg.ok.bounds HC.out;have e : kepA db jb sb (openM l c st) = #[.pointer (some ⟨db, 0, none⟩), .pointer (some ⟨jb, 0, none⟩), .pointer (some ⟨sb, 0, none⟩), .int .i64 c.seed, .string (ofL c.secret), .int .i64 c.idle, .int .i64 c.abs, .int .i64 c.now] := by
      unfold kepA openM;simp only;rw [Int.toNat_of_nonneg q2.1, Int.toNat_of_nonneg (show 0 ≤ c.idle by omega), Int.toNat_of_nonneg (show 0 ≤ c.abs by omega), Int.toNat_of_nonneg q5.1]
     rw [← e]; exact hk3
    ·rcases (hF3 b).1 hb with rfl | rfl | hb | hb
     ·omega
     ·omega
     ·rcases hn2 b hb with hb | hb
      ·have := HF.out b hb; omega
      ·omega
     ·have := (hft b hb).1; omega
   clear hw1 hz0 hz1 hz2 hBw;clear hr HJ hd2 hf2 hn2 hjn hJ2 hT2 hjg hft;go_wp2_with fail;have c0 := Blk.cell HQ2.out 0;have c1 := Blk.cell HQ2.out 1;have c2 := Blk.cell HQ2.out 2;have c3 := Blk.cell HQ2.out 3;have c4 := Blk.cell HQ2.out 4;have l1 := HQ2.out.lt;simp only [gT, gZ, gS] at c0 c1 c2 c3 c4
   go_region_held3 (fun w' => w'.cell? ⟨w.heap.size, 0, none⟩ = some (.string (ofL c.secret)) ∧ w'.cell? ⟨w.heap.size, 1, none⟩ = some (.int .i64 c.seed) ∧ w'.cell? ⟨w.heap.size, 2, none⟩ = some (.int .i64 c.idle) ∧ w'.cell? ⟨w.heap.size, 3, none⟩ = some (.int .i64 c.abs) ∧ w'.cell? ⟨w.heap.size, 4, none⟩ = some (.int .i64 c.now) ∧ w.heap.size < w'.heap.size ∧ Below w2.heap.size w2 w')
    (first
     | exact step5 (by assumption) (by assumption)
     | exact step5 (by assumption) (bA)
     | exact ⟨c0, c1, c2, c3, c4, l1, (Below.refl _ _).drew⟩)
    (first
     | (go_at_call 130; refine (clone_any (ofL c.secret) _ HSE.out).mono ?_; rintro e w' ⟨rfl, hbN⟩))
   clear c0 c1 c2 c3 c4 l1;go_wp2_with fail;refine bodyPost_ret (v := .tuple #[.pointer (some ⟨w'.heap.size, 0, none⟩), .nilIface]) (by simp [results, Tryz.results75, go_sem]) rfl ?_;rw [HN.out];have hb3 : Below w2.heap.size w2 w' := bstep (Below.refl _ _).drew hbN;obtain ⟨F3, d3, hF3, hk3, hn3⟩ := HK.out w' hb3;exact ⟨w'.heap.size, F3, rfl, ⟨_, _, _, _, _, _, _, _, _, hk3, hF3⟩, bstep (bstep HB2.out hb3) (bA), hn3⟩
 ·have HN : Hid (o = none) := by
   show o = none;rw [HO.out, openK_size HC.out hs]
  have HSZ : Hid (¬ okSize l.length) := hs;clear hs;go_enter Tryz.func75, Tryz.ntmps75;go_wp2_with fail;generalize w.alloc (Obj.cells _ _ _) = w0 at *
  refine (dnew_err l B G w0 HSZ.out HM.out HG0.out).mono ?_;rintro e w1 ⟨rfl, hb1⟩;have HB1 : Hid (Below w.heap.size w w1) := bstep HB0.out hb1;clear hb1;unfold errV;go_wp2_with fail;refine bodyPost_ret (v := .tuple #[.pointer none, errV G.size]) (by simp [results, Tryz.results75, go_sem, errV]) rfl ?_;rw [HN.out];exact ⟨⟨_, rfl⟩, HB1.out⟩
def oTo (w : World) (B : Nat) (r : Nat × Option Kp) (e : Ending) (w' : World) : Prop :=
 match r.2 with
 | none => e = .returned (.tuple #[.pointer none, .int .i64 r.1]) ∧ Below w.heap.size w w'
 | some m => r.1 = 0 ∧ ∃ kb F, e = .returned (.tuple #[.pointer (some ⟨kb, 0, none⟩), .int .i64 0]) ∧ KAt w' B kb F m ∧ Below w.heap.size w w' ∧ ∀ b, F b → w.heap.size ≤ b
theorem Open_any (l : Bs) (c : Cfg) (B : Nat) (G : Gl) (w : World) (hm : l.length ≤ 9223372036854775807) (hs : c.secret.length ≤ 9223372036854775000) (hG : Glob B G w) :
  Calls Tryz.prog 38 #[.string (ofL l), cfgV c] w (oTo w B (openK l c)) := by
 obtain ⟨o, ho⟩ : ∃ o, o = openK l c := ⟨_, rfl⟩;rw [← ho];have HO : Hid (o = openK l c) := ho;have HG : Hid (Glob B G w) := hG;have HM : Hid (l.length ≤ 9223372036854775807) := hm;have HS : Hid (c.secret.length ≤ 9223372036854775000) := hs;have HMB : Hid (∀ w, Calls Tryz.prog 74 #[cfgV c] w fun e w' => e = .returned (.bool c.ok) ∧ Below w.heap.size w w') := fun w => mayBe_any c w HS.out;have hbox : Below w.heap.size w (w.alloc (.cells #[.string (ofL c.secret), .int .i64 c.seed, .int .i64 c.idle, .int .i64 c.abs, .int .i64 c.now] 23)) := bA;have HB0 : Hid (Below w.heap.size w _) := hbox;have HQ0 : Hid (Blk _ w.heap.size _ 23) := Blk.new w #[.string (ofL c.secret), .int .i64 c.seed, .int .i64 c.idle, .int .i64 c.abs, .int .i64 c.now] 23;have HOP : Hid (c.ok = true → ∀ w', Below w.heap.size w w' → Calls Tryz.prog 75 #[.string (ofL l), cfgV c] w' (opTo w' B o.2)) := fun hc w' hb => by
  rw [ho];exact open_any l c B G w' hc HM.out (DigitsBelow HG.out hb)
 have HX : Hid (c.ok = true → o.2 = none → o.1 = 3) := fun hc hn => by
  rw [ho] at hn ⊢;by_cases hz : okSize l.length
  ·cases hr : readD l with
   | none => rw [openK_none hc hz hr]
   | some st => rw [openK_some hc hz hr] at hn; cases hn
  ·rw [openK_size hc hz]
 have HY : Hid (c.ok = true → ∀ m, o.2 = some m → o.1 = 0) := fun hc m hn => by
  rw [ho] at hn ⊢;by_cases hz : okSize l.length
  ·cases hr : readD l with
   | none => rw [openK_none hc hz hr] at hn; cases hn
   | some st => rw [openK_some hc hz hr]
  ·rw [openK_size hc hz] at hn; cases hn
 clear ho hG hm hs hbox;unfold cfgV at *
 cases hc : c.ok with
 | false =>
  have HN : Hid (o = (2, none)) := HO.out.trans (openK_conf hc);rw [hc] at HMB;clear hc HOP HX HY;go_enter Tryz.func38, Tryz.ntmps38;go_wp2_with fail;refine (HMB.out _).mono ?_;rintro e w1 ⟨rfl, hb1⟩;have HB1 : Hid (Below w.heap.size w w1) := bstep HB0.out hb1;clear hb1;go_wp2_with fail;go_ret2;rw [HN.out];exact ⟨rfl, HB1.out⟩
 | true =>
  have HO2 := HOP.out hc;have HOP2 : Hid (∀ w', Below w.heap.size w w' → Calls _ _ _ w' _) := HO2;have HX2 : Hid (o.2 = none → o.1 = 3) := HX.out hc;have HY2 : Hid (∀ m, o.2 = some m → o.1 = 0) := HY.out hc;rw [hc] at HMB;clear hc HOP HX HY HO2 HO;go_enter Tryz.func38, Tryz.ntmps38;go_wp2_with fail;generalize w.alloc (Obj.cells _ _ _) = w0 at *
  refine (HMB.out _).mono ?_;rintro e w1 ⟨rfl, hb1⟩;have HB1 : Hid (Below w.heap.size w w1) := bstep HB0.out hb1;have hq := Blk.below HQ0.out hb1;have c0 := Blk.cell hq 0;have c1 := Blk.cell hq 1;have c2 := Blk.cell hq 2;have c3 := Blk.cell hq 3;have c4 := Blk.cell hq 4;simp only [gT, gZ, gS] at c0 c1 c2 c3 c4;clear hb1 hq;go_wp2_with fail;refine (HOP2.out _ HB1.out).mono ?_;rintro e w2 hop;clear c0 c1 c2 c3 c4 HOP2;obtain ⟨o1, o2⟩ := o;cases o2 with
  | none =>
   obtain ⟨⟨a, rfl⟩, hb2⟩ := hop;have HB2 : Hid (Below w.heap.size w w2) := bstep HB1.out hb2;have h3 : o1 = 3 := HX2.out rfl;subst h3;clear hb2 HX2 HY2;unfold errV;go_wp2_with fail;go_ret2;exact ⟨rfl, HB2.out⟩
  | some m =>
   obtain ⟨kb, F, rfl, hk, hb2, hF⟩ := hop;have h0 : o1 = 0 := HY2.out m rfl;subst h0;have HB2 : Hid (Below w.heap.size w w2) := bstep HB1.out hb2;have HK : Hid (KAt w2 B kb F m ∧ ∀ b, F b → w.heap.size ≤ b) := ⟨hk, fun b hb => Nat.le_trans HB1.out.size (hF b hb)⟩;clear hb2 hk hF HX2 HY2;go_wp2_with fail;go_ret2;exact ⟨rfl, kb, F, rfl, HK.out.1, HB2.out, HK.out.2⟩
end Go.Proofs.YtmnajomkfnkmeaaGreatDoor
namespace Go.Proofs.YtmnajomkfnkmeaaGreatDoor
open Go.RowKit Go.Conc
attribute [local go_sem] ofL_size
theorem blank_same (n : Nat) : blankA n = ofL (blankB n) := by
 unfold blankA frontA emptyRec blankB;have h1 : sectorA 1 0 = ofL (sectB 1 0) := sectorA_L 1 0;have h2 : recA 1 0 (ofL [0]) = ofL (recB 1 0 [0]) := recA_L 1 0 [0];rw [h1, show (⟨#[0]⟩ : ByteArray) = ofL [0] from rfl, h2];apply toL_inj;rw [toL_append, toL_append, toL_append, toL_zA, toL_zA, toL_ofL, toL_ofL, toL_ofL]
theorem blankB_length (n : Nat) (h : 12 ≤ n) : (blankB n).length = 32 * n := by
 have := congrArg ByteArray.size (blank_same n);rw [ofL_size] at this;rw [← this];unfold blankA;rw [ByteArray.size_append, frontA_size];have hz : (zA (32 * n - 75)).size = 32 * n - 75 := by
  have := congrArg List.length (toL_zA (32 * n - 75));rw [toL_length, zeros_length] at this;exact this
 omega
end Go.Proofs.YtmnajomkfnkmeaaGreatDoor
namespace Go.Proofs.YtmnajomkfnkmeaaGreatDoor
open Go.RowKit Go.Conc
attribute [local go_sem] ofL_size
end Go.Proofs.YtmnajomkfnkmeaaGreatDoor
