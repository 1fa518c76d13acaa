import Derived.Test.YtmnajomkfnkmeaaGreatDoorKlkA
import Derived.Test.YtmnajomkfnkmeaaGreatDoorDrvL
set_option maxRecDepth 20000
set_option maxHeartbeats 2000000
namespace Go.Proofs.YtmnajomkfnkmeaaGreatDoor
open Go.RowKit Go.Conc
attribute [local go_sem] ofL_size
theorem isSpan_any (u : Int) (w : World) :
  Calls Tryz.prog 126 #[.int .i64 u] w fun e w' => e = .returned (.bool (decide (1 ≤ u ∧ u ≤ 1000000000))) ∧ w' = w := by
 obtain ⟨r, hr⟩ : ∃ r, r = decide (1 ≤ u ∧ u ≤ 1000000000) := ⟨_, rfl⟩;rw [← hr];have HR : Hid (r = decide (1 ≤ u ∧ u ≤ 1000000000)) := hr;clear hr;by_cases h1 : 1 ≤ u
 ·have HR2 : Hid (r = decide (0 ≤ u ∧ u ≤ 1000000000)) := by
   show _ = _;rw [HR.out]; congr 1; apply propext; omega
  go_enter Tryz.func126, Tryz.ntmps126;go_wp2_with fail;refine (isTime_any u _).mono ?_;rintro e w' ⟨rfl, rfl⟩;rw [← HR2.out];go_wp2_with fail;go_ret;exact ⟨rfl, rfl⟩
 ·have HR2 : Hid (r = false) := HR.out.trans (decide_eq_false (fun h => h1 h.1));go_enter Tryz.func126, Tryz.ntmps126;go_wp2;go_ret;exact ⟨by rw [HR2.out]; rfl, rfl⟩
theorem kdown_drv {w : World} {B kb db jb sb mb : Nat} {f : Fn} {D : DataW Unit} {sl : Nat → Value} {Fd : Nat → Prop} {m : Kp} {d : Dv} (h : KeepP w B kb db jb sb mb f D sl Fd m d) {w' : World} (hb : Below w.heap.size w w') :
  Calls Tryz.prog 54 #[.pointer (some ⟨db, 0, none⟩)] w' fun e w'' => e = .returned (.bool m.down) ∧ w'' = w' := by
 have := down_any db B Fd d w' (h.below hb).dj.drv;rw [h.dj.kd.down] at this;exact this
theorem MOK.ids {m : Kp} (h : MOK m) : ∀ i x, m.st.T i = some x → i < 4096 := fun i x hx => (h.wf.each i x hx).1
theorem klive_any (B kb : Nat) (F : Nat → Prop) (m : Kp) (w : World) (h : KAt w B kb F m) :
  Calls Tryz.prog 25 #[.pointer (some ⟨kb, 0, none⟩)] w fun e w' => e = .returned (.tuple #[.int .i64 m.live.1, .int .i64 m.live.2]) ∧ w' = w := by
 obtain ⟨db, jb, sb, mb, f, D, sl, Fd, d, hp, -⟩ := h;have HP : Hid (KeepP w B kb db jb sb mb f D sl Fd m d) := hp;have HDN : Hid (Calls Tryz.prog 54 #[.pointer (some ⟨db, 0, none⟩)] w fun e w'' => e = .returned (.bool m.down) ∧ w'' = w) := kdown_drv hp (Below.refl _ _);have HL : Hid (m.live = if m.down then (0, 4) else (m.st.T.live, 0)) := rfl;have k0 := Blk.cell HP.out.blk 0;have k2 := Blk.cell HP.out.blk 2;simp only [kepA, gT, gZ, gS] at k0 k2;clear hp;generalize m.live = L at *
 by_cases hd : m.down = true
 ·have HL2 : Hid (L = (0, 4)) := HL.out.trans (if_pos hd);go_enter Tryz.func25, Tryz.ntmps25;go_wp2_with fail;refine HDN.out.mono ?_;rintro e w' ⟨rfl, rfl⟩;rw [hd];clear hd;go_wp2_with fail;go_ret2;exact ⟨by rw [HL2.out]; rfl, rfl⟩
 ·have hu : m.down = false := Bool.eq_false_iff.2 hd;have HL2 : Hid (L = (m.st.T.live, 0)) := HL.out.trans (if_neg hd);clear hd;go_enter Tryz.func25, Tryz.ntmps25;go_wp2_with fail;refine HDN.out.mono ?_;rintro e w' ⟨rfl, rfl⟩;rw [hu];clear hu HDN;go_wp2_with fail;refine (live_any sb m.st.T mb f D sl _ HP.out.tab HP.out.ok.ids).mono ?_;rintro e w' ⟨rfl, rfl⟩;generalize m.st.T.live = n at *
  go_wp2_with fail;go_ret2;exact ⟨by rw [HL2.out]; rfl, rfl⟩
theorem tick_yes {m : Kp} {n : Int} (hd : m.down = false) (h : 0 ≤ n ∧ n ≤ 1000000000 - (m.now : Int)) : m.tick n = (0, { m with now := m.now + n.toNat }) := by
 unfold Kp.tick;rw [if_neg (by rw [hd]; decide), if_neg (by omega)]
theorem tick_no {m : Kp} {n : Int} (hd : m.down = false) (h : ¬ (0 ≤ n ∧ n ≤ 1000000000 - (m.now : Int))) : m.tick n = (1, m) := by
 unfold Kp.tick;rw [if_neg (by rw [hd]; decide), if_pos (by omega)]
theorem tick_down {m : Kp} {n : Int} (hd : m.down = true) : m.tick n = (4, m) := by
 unfold Kp.tick;rw [if_pos hd]
theorem KAt.of_keep {w w1 : World} {B kb db jb sb mb : Nat} {f : Fn} {D : DataW Unit} {sl : Nat → Value} {Fd F : Nat → Prop} {m' : Kp} {d : Dv} (hF : ∀ b, F b ↔ kfoot kb jb sb mb f sl Fd b) (hf : Fr (· = kb) w w1) (h : KeepP w1 B kb db jb sb mb f D sl Fd m' d) : KTo w B kb F m' w1 :=
 ⟨F, ⟨db, jb, sb, mb, f, D, sl, Fd, d, h, hF⟩, hf.mono (fun b _ e => (hF b).2 (Or.inl e)), fun _ h => Or.inl h⟩
theorem ktick_any (B kb : Nat) (F : Nat → Prop) (m : Kp) (n : Int) (w : World) (h : KAt w B kb F m) (hn : -9223372036854775808 ≤ n ∧ n ≤ 9223372036854775807) :
  Calls Tryz.prog 20 #[.pointer (some ⟨kb, 0, none⟩), .int .i64 n] w fun e w' => e = .returned (.int .i64 (m.tick n).1) ∧ KTo w B kb F (m.tick n).2 w' := by
 have HA : Hid (KAt w B kb F m) := h;obtain ⟨db, jb, sb, mb, f, D, sl, Fd, d, hp, hF⟩ := h;have HP : Hid (KeepP w B kb db jb sb mb f D sl Fd m d) := hp;have HF : Hid (∀ b, F b ↔ kfoot kb jb sb mb f sl Fd b) := hF;have HDN : Hid (Calls Tryz.prog 54 #[.pointer (some ⟨db, 0, none⟩)] w fun e w'' => e = .returned (.bool m.down) ∧ w'' = w) := kdown_drv hp (Below.refl _ _);have k0 := Blk.cell HP.out.blk 0;have k7 := Blk.cell HP.out.blk 7;have f7 := Blk.frozen HP.out.blk 7;simp only [kepA, gT, gZ, gS] at k0 k7;have hnow : m.now ≤ 1000000000 := HP.out.ok.now;clear hp hF;obtain ⟨L, hL⟩ : ∃ L, L = m.tick n := ⟨_, rfl⟩;rw [← hL];have HL : Hid (L = m.tick n) := hL;clear hL;by_cases hd : m.down = true
 ·have HL2 : Hid (L = (4, m)) := HL.out.trans (tick_down hd);go_enter Tryz.func20, Tryz.ntmps20;go_wp2_with fail;refine HDN.out.mono ?_;rintro e w' ⟨rfl, rfl⟩;rw [hd];clear hd;go_wp2_with fail;go_ret;rw [HL2.out];exact ⟨rfl, KTo.same HA.out⟩
 ·have hu : m.down = false := Bool.eq_false_iff.2 hd;have HU : Hid (m.down = false) := hu;have e1 : wrap64 (1000000000 - (m.now : Int)) = 1000000000 - m.now := by unfold wrap64; omega
  clear hd;by_cases h1 : n < 0
  ·have HL2 : Hid (L = (1, m)) := HL.out.trans (tick_no hu (by omega));go_enter Tryz.func20, Tryz.ntmps20;go_wp2_with fail;refine HDN.out.mono ?_;rintro e w' ⟨rfl, rfl⟩;rw [hu];clear hu HDN;go_wp2_with fail;go_ret;rw [HL2.out];exact ⟨rfl, KTo.same HA.out⟩
  ·by_cases h2 : 1000000000 - (m.now : Int) < n
   ·have HL2 : Hid (L = (1, m)) := HL.out.trans (tick_no hu (by omega));go_enter Tryz.func20, Tryz.ntmps20;go_wp2_with fail;refine HDN.out.mono ?_;rintro e w' ⟨rfl, rfl⟩;rw [hu];clear hu HDN;go_wp2_with fail;go_ret;rw [HL2.out];exact ⟨rfl, KTo.same HA.out⟩
   ·have HL2 : Hid (L = (0, { m with now := m.now + n.toNat })) := HL.out.trans (tick_yes hu (by omega));have e2 : wrap64 ((m.now : Int) + n) = ((m.now + n.toNat : Nat) : Int) := by unfold wrap64; omega
    have HB : Hid (m.now + n.toNat ≤ maxT) := by show _ ≤ 1000000000; omega
    go_enter Tryz.func20, Tryz.ntmps20;go_wp2_with fail;refine HDN.out.mono ?_;rintro e w' ⟨rfl, rfl⟩;rw [hu];clear hu HDN;go_wp2_with fail;go_ret;rw [HL2.out];have ho := HP.out.ok;have hv : (m.now : Int) + n = ((m.now + n.toNat : Nat) : Int) := by omega
    rw [hv];have hk := HP.out.cell (m' := { m with now := m.now + n.toNat }) ((Fr.refl (· = kb) w').setCell ⟨kb, 7, none⟩ (fun _ => rfl) (.int .i64 ((m.now + n.toNat : Nat) : Int))) (HP.out.blk.set 7 _) rfl rfl rfl rfl rfl
     ⟨fun hd => ⟨(ho.good hd).up, (ho.good hd).way, (ho.good hd).holds, HB.out, (ho.good hd).drawn⟩, ho.wf, ho.secret, ho.idle, ho.abs, HB.out, ho.drawn⟩
    exact ⟨rfl, KAt.of_keep HF.out ((Fr.refl (· = kb) w').setCell ⟨kb, 7, none⟩ (fun _ => rfl) _) hk⟩
theorem Dv.ok.arm {d : Dv} (h : d.ok) (n : Int) : (d.arm n).ok := by
 unfold Dv.arm;by_cases hd : d.down = true
 ·rw [if_pos hd]; exact h
 ·rw [if_neg hd]; exact ⟨h.size, h.wsize, h.way, h.nodup, fun x => absurd x hd⟩
theorem arm_same (m : Kp) (n : Int) : m.arm n = { m with fuse := (m.arm n).fuse } := by
 unfold Kp.arm; split <;> rfl
theorem MOK.arm {m : Kp} (h : MOK m) (n : Int) : MOK (m.arm n) := by
 rw [arm_same];exact ⟨fun hd => ⟨(h.good hd).up, (h.good hd).way, (h.good hd).holds, (h.good hd).now, (h.good hd).drawn⟩, h.wf, h.secret, h.idle, h.abs, h.now, h.drawn⟩
theorem karm_any (B kb : Nat) (F : Nat → Prop) (m : Kp) (n : Int) (w : World) (h : KAt w B kb F m) (hn : -9223372036854775808 ≤ n ∧ n ≤ 9223372036854775807) (hB : B ≤ w.heap.size) :
  Calls Tryz.prog 22 #[.pointer (some ⟨kb, 0, none⟩), .int .i64 n] w fun e w' => e = .returned (.tuple #[]) ∧ KTo w B kb F (m.arm n) w' := by
 obtain ⟨db, jb, sb, mb, f, D, sl, Fd, d, hp, hF⟩ := h;have HP : Hid (KeepP w B kb db jb sb mb f D sl Fd m d) := hp;have HF : Hid (∀ b, F b ↔ kfoot kb jb sb mb f sl Fd b) := hF;have HB : Hid (B ≤ w.heap.size) := hB;have HAR : Hid (Calls _ _ _ _ _) := darm_any db B Fd d n w hp.dj.drv hn.2;have k0 := Blk.cell HP.out.blk 0;simp only [kepA, List.getElem?_toArray, List.getElem?_cons_zero] at k0;clear hp hF hB hn;go_enter Tryz.func22, Tryz.ntmps22;go_wp2_with fail;refine HAR.out.mono ?_;rintro e w1 ⟨rfl, hd1⟩;have HD1 : Hid (DrvTo w B db Fd (d.arm n) w1) := hd1;clear hd1 HAR k0;go_wp2_with fail;go_end0;refine ⟨rfl, ?_⟩;have hp := HP.out;obtain ⟨Fd', hd, hf, hn⟩ := HD1.out;have hno : ¬ Fd' jb := fun x => (hn jb x).elim hp.dj.apart (fun h => by have := hp.dj.jrn.lt; omega);have hdj : DJTo w B db jb Fd (m.arm n) w1 := by
  refine ⟨Fd', d.arm n, ⟨hd, hp.dj.ok.arm n, hp.dj.kd.arm n, ?_, hno, hp.dj.ge⟩, hf.mono (fun b _ h => Or.inl h), hn⟩;rw [arm_same];exact hp.dj.jrn.kept hf hp.dj.apart
 obtain ⟨Fd2, d2, h1, h2, h3, h4, h5, h6, h7⟩ := keep_wrote hp hdj (fun _ _ _ => by rw [arm_same]; rfl);exact keep_close hp HF.out HB.out h1 h2 (fun b hb => (h5 b hb).1) h4.1 h6 h7 (by rw [arm_same]; exact h3) (Fr.refl _ w1) (fun b hb => Or.inl hb) (hp.ok.arm n)
theorem kleft_any (B kb : Nat) (F : Nat → Prop) (m : Kp) (keep torn part : Int) (w : World) (h : KAt w B kb F m) (h0 : -9223372036854775808 ≤ keep ∧ keep ≤ 9223372036854775807) (h2 : -9223372036854775808 ≤ part ∧ part ≤ 9223372036854775807) :
  Calls Tryz.prog 23 #[.pointer (some ⟨kb, 0, none⟩), .int .i64 keep, .int .i64 torn, .int .i64 part] w fun e w' => e = .returned (.string (ofL (m.left keep torn part))) ∧ Below w.heap.size w w' := by
 obtain ⟨db, jb, sb, mb, f, D, sl, Fd, d, hp, hF⟩ := h;have hc := left_any db B Fd d keep torn part w hp.dj.drv hp.dj.ok h0 h2;rw [hp.dj.kd.left] at hc;have HC : Hid (Calls _ _ _ _ _) := hc;have k0 := Blk.cell hp.blk 0;simp only [kepA, List.getElem?_toArray, List.getElem?_cons_zero] at k0;clear hp hF h0 h2 hc;generalize m.left keep torn part = L at *
 go_enter Tryz.func23, Tryz.ntmps23;go_wp2_with fail;refine HC.out.mono ?_;rintro e w1 ⟨rfl, hb⟩;have HB : Hid (Below w.heap.size w w1) := hb;clear hb HC k0;go_wp2_with fail;go_ret;exact ⟨rfl, HB.out⟩
end Go.Proofs.YtmnajomkfnkmeaaGreatDoor
namespace Go.Proofs.YtmnajomkfnkmeaaGreatDoor
open Go.RowKit Go.Conc
attribute [local go_sem] ofL_size
theorem look_in {m : Kp} {p : Bs} (h : (m.look p).2.1 = 0) : m.look p = ((m.look p).1, 0, m) ∧ m.down = false ∧ (m.look p).1 < 4096 ∧ ∃ x, m.st.T (m.look p).1 = some x := by
 have hl : m.look p = if (m.find p).2 = 7 then (if (m.change (.X (m.find p).1)).1 = 0 then (0, 7, (m.change (.X (m.find p).1)).2) else (0, (m.change (.X (m.find p).1)).1, (m.change (.X (m.find p).1)).2)) else ((m.find p).1, (m.find p).2, m) := rfl
 by_cases h7 : (m.find p).2 = 7
 ·rw [if_pos h7] at hl;by_cases hc : (m.change (.X (m.find p).1)).1 = 0
  ·rw [if_pos hc] at hl; rw [hl] at h; cases h
  ·rw [if_neg hc] at hl; rw [hl] at h; exact absurd h hc
 ·rw [if_neg h7] at hl;have h0 : (m.find p).2 = 0 := by rw [hl] at h; exact h
  obtain ⟨hd, id, x, _, hid, ht, e⟩ := find_in (Or.inl h0);rw [hl, h0];exact ⟨rfl, hd, by rw [e]; exact hid, x, by rw [e]; exact ht⟩
def Looked (m : Kp) (L : Nat × Nat × Kp) : Prop := L.2.1 = 0 → L = (L.1, 0, m) ∧ m.down = false ∧ L.1 < 4096 ∧ ∃ x, m.st.T L.1 = some x
theorem ktouch_any (B kb : Nat) (F : Nat → Prop) (m : Kp) (G : Gl) (p : Bs) (w : World) (h : KAt w B kb F m) (hp : p.length ≤ 9223372036854775000) (hG : Glob B G w) :
  Calls Tryz.prog 21 #[.pointer (some ⟨kb, 0, none⟩), .string (ofL p)] w fun e w' => e = .returned (.int .i64 (m.touch p).1) ∧ KTo w B kb F (m.touch p).2 w' := by
 have HA : Hid (KAt w B kb F m) := h;have HG : Hid (Glob B G w) := hG;obtain ⟨db, jb, sb, mb, f, D, sl, Fd, d, hk, hF⟩ := h;have HLK : Hid (Calls _ _ _ _ _) := klook_any B kb db jb sb mb f D sl Fd F m d G p w hk hF hp hG;have HTAB : Hid (TabAt w sb m.st.T mb f D sl) := hk.tab;obtain ⟨R, hR⟩ : ∃ R, R = m.touch p := ⟨_, rfl⟩;rw [← hR];have HR : Hid (R = if (m.look p).2.1 = 0 then (m.look p).2.2.change (.T (m.look p).1 m.now) else ((m.look p).2.1, (m.look p).2.2)) := hR;have HIN : Hid (Looked m (m.look p)) := look_in;have HNOW : Hid (m.now ≤ maxT) := hk.ok.now;clear hp hG hk hF hR;generalize m.look p = L at *
 go_enter Tryz.func21, Tryz.ntmps21;go_wp2_with fail;refine HLK.out.mono ?_;rintro e w1 (⟨h0, rfl, hb⟩ | ⟨h0, rfl, hk⟩)
 ·obtain ⟨hL, hd, hid, x, hx⟩ := HIN.out h0;obtain ⟨s, hsv, hs, -⟩ := sess_shape HTAB.out hx;have HR2 : Hid (R = m.change (.T L.1 m.now)) := by
   show _ = _;rw [HR.out, if_pos h0, show L.2.2 = m by rw [hL]]
  rw [hsv];have HCH : Hid (∀ w', Below w.heap.size w w' → Calls Tryz.prog 58 #[.pointer (some ⟨kb, 0, none⟩), chgZ (.T L.1 m.now)] w' fun e w'' => e = .returned (.int .i64 R.1) ∧ KTo w' B kb F R.2 w'') := by
   intro w' hb';rw [HR2.out];exact kchange_any B kb F m G (.T L.1 m.now) w' (HA.out.below hb') hd ⟨hid, HNOW.out⟩ (by show (m.st.T L.1).isSome = true; rw [hx]; rfl) rfl (DigitsBelow HG.out hb')
  have HB : Hid (Below w.heap.size w w1) := hb;unfold chgZ chV at HCH;clear HLK HR HIN HR2 h0 hL hd hid hx hsv hb HTAB;generalize L.1 = id at *
  rcases hs with rfl | ⟨g0, n0, cap0, rfl⟩
  all_goals
   go_wp2_with fail;refine (HCH.out _ (bstep HB.out (bA))).mono ?_;rintro e w3 ⟨rfl, hk3⟩;have HK3 : Hid (KTo w B kb F R.2 w3) := KTo.after_below (bstep HB.out (bA)) hk3;clear hk3 HCH;go_wp2_with fail;go_ret;exact ⟨rfl, HK3.out⟩
 ·have HR2 : Hid (R = (L.2.1, L.2.2)) := by
   show _ = _;rw [HR.out, if_neg h0]
  have HK : Hid (KTo w B kb F L.2.2 w1) := hk;clear HLK HR HIN hk HTAB;generalize L.2.1 = code at *
  have e0 : ((code : Int) == 0) = false := by rw [Bool.eq_false_iff]; intro h; rw [beq_iff_eq] at h; omega
  unfold noSess;clear h0;go_wp2_with fail;go_ret;rw [HR2.out];exact ⟨rfl, HK.out.then_below (bA)⟩
theorem klogout_any (B kb : Nat) (F : Nat → Prop) (m : Kp) (G : Gl) (p : Bs) (w : World) (h : KAt w B kb F m) (hp : p.length ≤ 9223372036854775000) (hG : Glob B G w) :
  Calls Tryz.prog 28 #[.pointer (some ⟨kb, 0, none⟩), .string (ofL p)] w fun e w' => e = .returned (.int .i64 (m.logout p).1) ∧ KTo w B kb F (m.logout p).2 w' := by
 have HA : Hid (KAt w B kb F m) := h;have HG : Hid (Glob B G w) := hG;obtain ⟨db, jb, sb, mb, f, D, sl, Fd, d, hk, hF⟩ := h;have HLK : Hid (Calls _ _ _ _ _) := klook_any B kb db jb sb mb f D sl Fd F m d G p w hk hF hp hG;have HTAB : Hid (TabAt w sb m.st.T mb f D sl) := hk.tab;obtain ⟨R, hR⟩ : ∃ R, R = m.logout p := ⟨_, rfl⟩;rw [← hR];have HR : Hid (R = if (m.look p).2.1 = 0 then m.change (.X (m.look p).1) else ((m.look p).2.1, (m.look p).2.2)) := hR;have HIN : Hid (Looked m (m.look p)) := look_in;clear hp hG hk hF hR;generalize m.look p = L at *
 go_enter Tryz.func28, Tryz.ntmps28;go_wp2_with fail;refine HLK.out.mono ?_;rintro e w1 (⟨h0, rfl, hb⟩ | ⟨h0, rfl, hk⟩)
 ·obtain ⟨hL, hd, hid, x, hx⟩ := HIN.out h0;obtain ⟨s, hsv, hs, -⟩ := sess_shape HTAB.out hx;have HR2 : Hid (R = m.change (.X L.1)) := by
   show _ = _;rw [HR.out, if_pos h0]
  rw [hsv];have HCH : Hid (∀ w', Below w.heap.size w w' → Calls Tryz.prog 64 #[.pointer (some ⟨kb, 0, none⟩), .agg #[.int .i64 L.1, .int .i64 x.user, .int .i64 x.created, .int .i64 x.used, s]] w' fun e w'' => e = .returned (.int .i64 R.1) ∧ KTo w' B kb F R.2 w'') := by
   intro w' hb';rw [HR2.out];exact kend_any B kb F m G L.1 x x.user x.created x.used s w' (HA.out.below hb') hd hid hx hs (DigitsBelow HG.out hb')
  have HB : Hid (Below w.heap.size w w1) := hb;clear HLK HR HIN HR2 h0 hL hd hid hx hsv hb HTAB;generalize L.1 = id at *
  rcases hs with rfl | ⟨g0, n0, cap0, rfl⟩
  all_goals
   go_wp2_with fail;refine (HCH.out _ (bstep HB.out (bA))).mono ?_;rintro e w3 ⟨rfl, hk3⟩;have HK3 : Hid (KTo w B kb F R.2 w3) := KTo.after_below (bstep HB.out (bA)) hk3;clear hk3 HCH;go_wp2_with fail;go_ret;exact ⟨rfl, HK3.out⟩
 ·have HR2 : Hid (R = (L.2.1, L.2.2)) := by
   show _ = _;rw [HR.out, if_neg h0]
  have HK : Hid (KTo w B kb F L.2.2 w1) := hk;clear HLK HR HIN hk HTAB;generalize L.2.1 = code at *
  have e0 : ((code : Int) == 0) = false := by rw [Bool.eq_false_iff]; intro h; rw [beq_iff_eq] at h; omega
  unfold noSess;clear h0;go_wp2_with fail;go_ret;rw [HR2.out];exact ⟨rfl, HK.out.then_below (bA)⟩
theorem get_yes {m : Kp} {p n : Bs} {x : Sess} (h : (m.find p).2 = 0) (hx : m.st.T (m.find p).1 = some x) : m.get p n = match valAt n x.vals with | some v => (v, 0) | none => ([], 6) := by
 unfold Kp.get;rw [if_pos h, hx];rfl
theorem get_no {m : Kp} {p n : Bs} (h : (m.find p).2 ≠ 0) : m.get p n = ([], (m.find p).2) := by
 unfold Kp.get;rw [if_neg h]
theorem kget_any (B kb : Nat) (F : Nat → Prop) (m : Kp) (G : Gl) (p n : Bs) (w : World) (h : KAt w B kb F m) (hp : p.length ≤ 9223372036854775000) (hG : Glob B G w) :
  Calls Tryz.prog 27 #[.pointer (some ⟨kb, 0, none⟩), .string (ofL p), .string (ofL n)] w fun e w' => e = .returned (.tuple #[.string (ofL (m.get p n).1), .int .i64 (m.get p n).2]) ∧ Below w.heap.size w w' := by
 obtain ⟨db, jb, sb, mb, f, D, sl, Fd, d, hk, hF⟩ := h;have HLK : Hid (Calls _ _ _ _ _) := kfind_any B kb db jb sb mb f D sl Fd m d G p w hk hp hG;have HTAB : Hid (TabAt w sb m.st.T mb f D sl) := hk.tab;have HWF : Hid (m.st.T.wf) := hk.ok.wf;obtain ⟨R, hR⟩ : ∃ R, R = m.get p n := ⟨_, rfl⟩;rw [← hR];have HR : Hid (R = m.get p n) := hR;have HIN : Hid ((m.find p).2 = 0 → ∃ x, m.st.T (m.find p).1 = some x) := fun h => by
  obtain ⟨_, id, x, _, _, ht, e⟩ := find_in (Or.inl h);exact ⟨x, by rw [e]; exact ht⟩
 clear hp hG hk hF hR;by_cases h0 : (m.find p).2 = 0
 ·obtain ⟨x, hx⟩ := HIN.out h0;have hget := get_yes (n := n) h0 hx;have HR2 : Hid (R = match valAt n x.vals with | some v => (v, 0) | none => ([], 6)) := HR.out.trans hget;have hfv : fndV m.st.T sl (m.find p) = foundV m.st.T sl (m.find p).1 := fndV_yes (Or.inl h0);obtain ⟨s, hsv, hs, hvs⟩ := sess_shape HTAB.out hx;rw [hfv, hsv, h0] at HLK;have HV : Hid (∀ w', Below w.heap.size w w' → Calls Tryz.prog 63 #[.agg #[.int .i64 (m.find p).1, .int .i64 x.user, .int .i64 x.created, .int .i64 x.used, s], .string (ofL n)] w' fun e w'' => e = .returned (valV (valAt n x.vals)) ∧ Below w'.heap.size w' w'') := by
   intro w' hb';obtain ⟨s', hsv', hs', hvs'⟩ := sess_shape (HTAB.out.kept (S := fun _ => False) (Fr.of_below hb') (fun _ _ h => h)) hx;rw [hsv] at hsv';simp only [Value.agg.injEq, Array.mk.injEq, List.cons.injEq, and_true, true_and] at hsv';subst hsv';have hwf := (HWF.out.each _ x hx).2;exact value_any _ _ _ _ s x.vals n w' hvs' hwf.rise (by have := hwf.few; omega)
  clear HR HIN HTAB HWF h0 hx hget hfv hsv hvs;generalize (m.find p).1 = id at *
  generalize valAt n x.vals = V at *
  rcases hs with rfl | ⟨g0, n0, cap0, rfl⟩
  all_goals
   go_enter Tryz.func27, Tryz.ntmps27;go_wp2_with fail;refine HLK.out.mono ?_;rintro e w1 ⟨rfl, hb⟩;have HB : Hid (Below w.heap.size w w1) := hb;clear hb;go_wp2_with fail;refine (HV.out _ (bstep HB.out (bA))).mono ?_;rintro e w3 ⟨rfl, hb3⟩;have HB3 : Hid (Below w.heap.size w w3) := bstep (bstep HB.out (bA)) hb3;clear hb3;cases V with
   | none =>
    unfold valV;go_wp2_with fail;go_ret2;rw [HR2.out];exact ⟨rfl, HB3.out⟩
   | some v =>
    unfold valV;go_wp2_with fail;go_ret2;rw [HR2.out];exact ⟨rfl, HB3.out⟩
 ·have HR2 : Hid (R = ([], (m.find p).2)) := HR.out.trans (get_no h0);have HC : Hid ((m.find p).2 ≠ 0) := h0;have hss : ∃ a b c dd s, fndV m.st.T sl (m.find p) = .agg #[.int .i64 a, .int .i64 b, .int .i64 c, .int .i64 dd, s] ∧ (s = .slice none 0 0 ∨ ∃ g n cap, s = .slice (some ⟨g, 0, none⟩) n cap) := by
   by_cases h7 : (m.find p).2 = 7
   ·obtain ⟨a, b, c, dd, s, hfv, hs, -⟩ := found_shape HTAB.out (m.find p).1;exact ⟨a, b, c, dd, s, (fndV_yes (Or.inr h7)).trans hfv, hs⟩
   ·exact ⟨0, 0, 0, 0, .slice none 0 0, fndV_no (fun h => h.elim h0 h7), Or.inl rfl⟩
  obtain ⟨a, b, c, dd, s, hfv, hs⟩ := hss;rw [hfv] at HLK;clear HR HIN HTAB HWF hfv h0;generalize (m.find p).2 = code at *
  have e0 : ((code : Int) == 0) = false := by rw [Bool.eq_false_iff]; intro h; rw [beq_iff_eq] at h; have := HC.out; omega
  rcases hs with rfl | ⟨g0, n0, cap0, rfl⟩
  all_goals
   go_enter Tryz.func27, Tryz.ntmps27;go_wp2_with fail;refine HLK.out.mono ?_;rintro e w1 ⟨rfl, hb⟩;have HB : Hid (Below w.heap.size w w1) := hb;clear hb;go_wp2_with fail;go_ret2;rw [HR2.out];exact ⟨rfl, bstep HB.out (bA)⟩
end Go.Proofs.YtmnajomkfnkmeaaGreatDoor
namespace Go.Proofs.YtmnajomkfnkmeaaGreatDoor
open Go.RowKit Go.Conc
attribute [local go_sem] ofL_size
theorem set_arg {m : Kp} {p n v : Bs} (h : n.length = 0 ∨ 8 < n.length ∨ 8 < v.length) : m.set p n v = (1, m) := by
 unfold Kp.set; rw [if_pos h]
theorem set_look {m : Kp} {p n v : Bs} (h : ¬ (n.length = 0 ∨ 8 < n.length ∨ 8 < v.length)) (hl : (m.look p).2.1 ≠ 0) : m.set p n v = ((m.look p).2.1, (m.look p).2.2) := by
 unfold Kp.set; rw [if_neg h, if_neg hl]
theorem set_yes {m : Kp} {p n v : Bs} {x : Sess} (h : ¬ (n.length = 0 ∨ 8 < n.length ∨ 8 < v.length)) (hl : (m.look p).2.1 = 0) (hx : m.st.T (m.look p).1 = some x) :
  m.set p n v = if x.room n then m.change (.S (m.look p).1 n v m.now) else (8, m) := by
 unfold Kp.set; rw [if_neg h, if_pos hl, hx]
theorem kset_any (B kb : Nat) (F : Nat → Prop) (m : Kp) (G : Gl) (p n v : Bs) (w : World) (h : KAt w B kb F m) (hp : p.length ≤ 9223372036854775000) (hn : n.length ≤ 9223372036854775000) (hv : v.length ≤ 9223372036854775000) (hG : Glob B G w) :
  Calls Tryz.prog 32 #[.pointer (some ⟨kb, 0, none⟩), .string (ofL p), .string (ofL n), .string (ofL v)] w fun e w' => e = .returned (.int .i64 (m.set p n v).1) ∧ KTo w B kb F (m.set p n v).2 w' := by
 have HA : Hid (KAt w B kb F m) := h;have HG : Hid (Glob B G w) := hG;obtain ⟨db, jb, sb, mb, f, D, sl, Fd, d, hk, hF⟩ := h;have HLK : Hid (Calls _ _ _ _ _) := klook_any B kb db jb sb mb f D sl Fd F m d G p w hk hF hp hG;have HTAB : Hid (TabAt w sb m.st.T mb f D sl) := hk.tab;have HWF : Hid (m.st.T.wf) := hk.ok.wf;obtain ⟨R, hR⟩ : ∃ R, R = m.set p n v := ⟨_, rfl⟩;rw [← hR];have HR : Hid (R = m.set p n v) := hR;have HIN : Hid (Looked m (m.look p)) := look_in;have HNOW : Hid (m.now ≤ maxT) := hk.ok.now;have HNM : Hid (∀ w, Calls Tryz.prog 67 #[.string (ofL n)] w fun e w' => e = .returned (.bool (decide (1 ≤ n.length ∧ n.length ≤ 8))) ∧ w' = w) := by
  intro w;have := isName_any (ofL n) w (by rw [ofL_size]; unfold maxLen; omega);rw [toL_ofL] at this;exact this
 have HTX : Hid (∀ w, Calls Tryz.prog 68 #[.string (ofL v)] w fun e w' => e = .returned (.bool (decide (v.length ≤ 8))) ∧ w' = w) := by
  intro w;have := isText_any (ofL v) w (by rw [ofL_size]; unfold maxLen; omega);rw [toL_ofL] at this;exact this
 clear hp hG hk hF hR hn hv;by_cases h1 : 1 ≤ n.length ∧ n.length ≤ 8
 ·by_cases h2 : v.length ≤ 8
  ·have hno : ¬ (n.length = 0 ∨ 8 < n.length ∨ 8 < v.length) := by omega
   have HOK : Hid ((1 ≤ n.length ∧ n.length ≤ 8) ∧ v.length ≤ 8) := ⟨h1, h2⟩;have HRL : Hid ((m.look p).2.1 ≠ 0 → R = ((m.look p).2.1, (m.look p).2.2)) := fun hl => HR.out.trans (set_look hno hl);have HRY : Hid (∀ x, (m.look p).2.1 = 0 → m.st.T (m.look p).1 = some x → R = if x.room n then m.change (.S (m.look p).1 n v m.now) else (8, m)) := fun x hl hx => HR.out.trans (set_yes hno hl hx);rw [decide_eq_true h1] at HNM;rw [decide_eq_true h2] at HTX;clear h1 h2 hno HR;generalize m.look p = L at *
   go_enter Tryz.func32, Tryz.ntmps32;go_wp2_with fail;refine (HNM.out _).mono ?_;rintro e w' ⟨rfl, hw⟩;subst w';go_wp2_with fail;refine (HTX.out _).mono ?_;rintro e w' ⟨rfl, hw⟩;subst w';go_wp2_with fail;refine HLK.out.mono ?_;rintro e w1 (⟨h0, rfl, hb⟩ | ⟨h0, rfl, hk⟩)
   ·obtain ⟨hL, hd, hid, x, hx⟩ := HIN.out h0;obtain ⟨s, hsv, hs, hvs⟩ := sess_shape HTAB.out hx;have HR2 : Hid (R = if x.room n then m.change (.S L.1 n v m.now) else (8, m)) := HRY.out x h0 hx;rw [hsv];have HCH : Hid (x.room n = true → ∀ w', Below w'.heap.size w' w' → Below w.heap.size w w' → Calls Tryz.prog 58 #[.pointer (some ⟨kb, 0, none⟩), chgZ (.S L.1 n v m.now)] w' fun e w'' => e = .returned (.int .i64 R.1) ∧ KTo w' B kb F R.2 w'') := by
     intro hroom w' _ hb';rw [HR2.out, if_pos hroom];exact kchange_any B kb F m G (.S L.1 n v m.now) w' (HA.out.below hb') hd ⟨hid, HOK.out.1.1, HOK.out.1.2, HOK.out.2, HNOW.out⟩ (by show (match m.st.T L.1 with | some x => x.room n | none => false) = true; rw [hx]; exact hroom) rfl (DigitsBelow HG.out hb')
    have HRM : Hid (∀ w', Below w.heap.size w w' → Calls Tryz.prog 69 #[.agg #[.int .i64 L.1, .int .i64 x.user, .int .i64 x.created, .int .i64 x.used, s], .string (ofL n)] w' fun e w'' => e = .returned (.bool (x.room n)) ∧ Below w'.heap.size w' w'') := by
     intro w' hb';obtain ⟨s', hsv', hs', hvs'⟩ := sess_shape (HTAB.out.kept (S := fun _ => False) (Fr.of_below hb') (fun _ _ h => h)) hx;rw [hsv] at hsv';simp only [Value.agg.injEq, Array.mk.injEq, List.cons.injEq, and_true, true_and] at hsv';subst hsv';have hwf := (HWF.out.each _ x hx).2;exact room_any _ _ _ _ s x n w' hvs' hwf.rise (by have := hwf.few; omega)
    have HB : Hid (Below w.heap.size w w1) := hb;unfold chgZ chV at HCH;clear HLK HRL HRY HIN h0 hL hd hid hx hsv hb HTAB hvs HNM HTX HOK;generalize L.1 = id at *
    rcases hs with rfl | ⟨g0, n0, cap0, rfl⟩
    all_goals
     go_wp2_with fail;refine (HRM.out _ (bstep HB.out (bA))).mono ?_;rintro e w2 ⟨rfl, hb2⟩;have HB2 : Hid (Below w.heap.size w w2) := bstep (bstep HB.out (bA)) hb2;have HQ : Hid (Blk w2 w1.heap.size _ 104) := Blk.below (Blk.new w1 _ _) hb2;have c0 := Blk.cell HQ.out 0;simp only [List.getElem?_toArray, List.getElem?_cons_zero] at c0;clear hb2 HRM;by_cases hr : x.room n = true
     ·have HCH2 := HCH.out hr;have HCH2 : Hid (∀ w', Below w'.heap.size w' w' → Below w.heap.size w w' → Calls _ _ _ w' _) := HCH2;rw [hr];clear hr HCH HR2;go_wp2_with fail;refine (HCH2.out _ (Below.refl _ _) HB2.out).mono ?_;rintro e w3 ⟨rfl, hk3⟩;have HK3 : Hid (KTo w B kb F R.2 w3) := KTo.after_below HB2.out hk3;clear hk3 HCH2 HQ c0;go_wp2_with fail;go_ret;exact ⟨rfl, HK3.out⟩
     ·have HR3 : Hid (R = (8, m)) := HR2.out.trans (if_neg hr);rw [Bool.eq_false_iff.2 hr];clear hr HCH HR2;go_wp2_with fail;go_ret;rw [HR3.out];exact ⟨rfl, KTo.of_below HA.out HB2.out⟩
   ·have HR2 : Hid (R = (L.2.1, L.2.2)) := HRL.out h0;have HK : Hid (KTo w B kb F L.2.2 w1) := hk;clear HLK HRL HRY HIN hk HTAB HNM HTX HOK;generalize L.2.1 = code at *
    have e0 : ((code : Int) == 0) = false := by rw [Bool.eq_false_iff]; intro h; rw [beq_iff_eq] at h; omega
    unfold noSess;clear h0;go_wp2_with fail;go_ret;rw [HR2.out];exact ⟨rfl, HK.out.then_below (bA)⟩
  ·have HR2 : Hid (R = (1, m)) := HR.out.trans (set_arg (by omega));rw [decide_eq_true h1] at HNM;rw [decide_eq_false h2] at HTX;clear h1 h2 HLK HIN;go_enter Tryz.func32, Tryz.ntmps32;go_wp2_with fail;refine (HNM.out _).mono ?_;rintro e w' ⟨rfl, hw⟩;subst w';go_wp2_with fail;refine (HTX.out _).mono ?_;rintro e w' ⟨rfl, hw⟩;subst w';go_wp2_with fail;go_ret;rw [HR2.out];exact ⟨rfl, KTo.same HA.out⟩
 ·have HR2 : Hid (R = (1, m)) := HR.out.trans (set_arg (by omega));rw [decide_eq_false h1] at HNM;clear h1 HLK HIN HTX;go_enter Tryz.func32, Tryz.ntmps32;go_wp2_with fail;refine (HNM.out _).mono ?_;rintro e w' ⟨rfl, hw⟩;subst w';go_wp2_with fail;go_ret;rw [HR2.out];exact ⟨rfl, KTo.same HA.out⟩
end Go.Proofs.YtmnajomkfnkmeaaGreatDoor
namespace Go.Proofs.YtmnajomkfnkmeaaGreatDoor
open Go.RowKit Go.Conc
attribute [local go_sem] ofL_size
theorem draw_facts {m m1 : Kp} {o : Option Nat} (h : MOK m) (hd : m.draw = (o, m1)) : m1.st = m.st ∧ m1.now = m.now ∧ m1.secret = m.secret ∧ m1.down = m.down ∧ MOK m1 ∧ ∀ too, o = some too → m.st.T too = none ∧ too < 4096 := by
 have e : m.draw = ((drawN 8 m.drawn m.st.T).1, { m with drawn := (drawN 8 m.drawn m.st.T).2 }) := rfl;rw [e] at hd;injection hd with h1 h2
 subst h2;refine ⟨rfl, rfl, rfl, rfl, h.redrawn (drawN_lt h.drawn), fun too ht => ?_⟩;have hh : drawN 8 m.drawn m.st.T = (some too, (drawN 8 m.drawn m.st.T).2) := by rw [← ht, ← h1]
 have := drawN_free hh;exact ⟨this.1, this.2.1⟩
theorem change_secret {m : Kp} (h : MOK m) (hu : m.down = false) {c : Chg} (hc : c.ok) (ha : m.st.T.allows c = true) : (m.change c).2.secret = m.secret ∧ MOK (m.change c).2 := by
 obtain ⟨h1, h2, _⟩ := change_facts h hu hc ha;refine ⟨?_, h1⟩;have := h2 0 0 0;simp only [kepA, Array.mk.injEq, List.cons.injEq, Value.string.injEq] at this;have h3 := congrArg toL this.2.2.2.2.1
 rwa [toL_ofL, toL_ofL] at h3
theorem pass_call (s : Bs) (id : Nat) (w : World) (hid : id < 4096) (hs : s.length ≤ 16) (hd : DigitsIn w) :
  Calls Tryz.prog 16 #[.string (ofL s), .int .i64 id] w fun e w' => e = .returned (.tuple #[.string (ofL (passL s id)), .int .i64 0]) ∧ Below w.heap.size w w' := by
 have := pass_ok (ofL s) (id : Int) w (by omega) (by omega) (by rw [ofL_size]; omega) hd;rw [passB_L] at this;exact this
theorem KTo.secret {w w' : World} {B kb : Nat} {F : Nat → Prop} {m : Kp} (h : KTo w B kb F m w') : w'.cell? ⟨kb, 4, none⟩ = some (.string (ofL m.secret)) := by
 obtain ⟨F2, ⟨db, jb, sb, mb, f, D, sl, Fd, d, hp, hF⟩, hf, hn⟩ := h;exact Blk.cell hp.blk 4
theorem rotate_look {m : Kp} {p : Bs} (h : (m.look p).2.1 ≠ 0) : m.rotate p = ([], (m.look p).2.1, (m.look p).2.2) := by
 unfold Kp.rotate; rw [if_neg h]
theorem rotate_none {m m1 : Kp} {p : Bs} (h : (m.look p).2.1 = 0) (hd : m.draw = (none, m1)) : m.rotate p = ([], 8, m1) := by
 unfold Kp.rotate; rw [if_pos h, hd]
theorem rotate_some {m m1 : Kp} {p : Bs} {too : Nat} (h : (m.look p).2.1 = 0) (hd : m.draw = (some too, m1)) :
  m.rotate p = if (m1.change (.R (m.look p).1 too m.now)).1 = 0 then (passL m.secret too, 0, (m1.change (.R (m.look p).1 too m.now)).2) else ([], (m1.change (.R (m.look p).1 too m.now)).1, (m1.change (.R (m.look p).1 too m.now)).2) := by
 unfold Kp.rotate; rw [if_pos h, hd]
theorem krotate_any (B kb : Nat) (F : Nat → Prop) (m : Kp) (G : Gl) (p : Bs) (w : World) (h : KAt w B kb F m) (hp : p.length ≤ 9223372036854775000) (hG : Glob B G w) :
  Calls Tryz.prog 29 #[.pointer (some ⟨kb, 0, none⟩), .string (ofL p)] w fun e w' => e = .returned (.tuple #[.string (ofL (m.rotate p).1), .int .i64 (m.rotate p).2.1]) ∧ KTo w B kb F (m.rotate p).2.2 w' := by
 have HA : Hid (KAt w B kb F m) := h;have HG : Hid (Glob B G w) := hG;have HFT : Hid (∀ b, F b → B ≤ b ∧ b < w.heap.size) := fun b hb => h.foot hb;obtain ⟨db, jb, sb, mb, f, D, sl, Fd, d, hk, hF⟩ := h;have HLK : Hid (Calls _ _ _ _ _) := klook_any B kb db jb sb mb f D sl Fd F m d G p w hk hF hp hG;have HTAB : Hid (TabAt w sb m.st.T mb f D sl) := hk.tab;have HOK : Hid (MOK m) := hk.ok;obtain ⟨R, hR⟩ : ∃ R, R = m.rotate p := ⟨_, rfl⟩;rw [← hR];have HR : Hid (R = m.rotate p) := hR;have HIN : Hid (Looked m (m.look p)) := look_in;have HRL : Hid ((m.look p).2.1 ≠ 0 → R = ([], (m.look p).2.1, (m.look p).2.2)) := fun hl => hR.trans (rotate_look hl);have HRN : Hid (∀ m1, (m.look p).2.1 = 0 → m.draw = (none, m1) → R = ([], 8, m1)) := fun m1 hl hd => hR.trans (rotate_none hl hd);have HRS : Hid (∀ too m1, (m.look p).2.1 = 0 → m.draw = (some too, m1) → R = if (m1.change (.R (m.look p).1 too m.now)).1 = 0 then (passL m.secret too, 0, (m1.change (.R (m.look p).1 too m.now)).2) else ([], (m1.change (.R (m.look p).1 too m.now)).1, (m1.change (.R (m.look p).1 too m.now)).2)) := fun too m1 hl hd => hR.trans (rotate_some hl hd);clear hp hG hk hF hR HR;generalize m.look p = L at *
 go_enter Tryz.func29, Tryz.ntmps29;go_wp2_with fail;refine HLK.out.mono ?_;rintro e w1 (⟨h0, rfl, hb⟩ | ⟨h0, rfl, hk⟩)
 ·obtain ⟨hL, hd, hid, x, hx⟩ := HIN.out h0;obtain ⟨s, hsv, hs, -⟩ := sess_shape HTAB.out hx;obtain ⟨o, m1, hdr⟩ : ∃ o m1, m.draw = (o, m1) := ⟨_, _, rfl⟩;obtain ⟨d1, d2, d3, d4, d5, d6⟩ := draw_facts HOK.out hdr;rw [hsv];have HB : Hid (Below w.heap.size w w1) := hb;have HDR : Hid (∀ w', Below w.heap.size w w' → Calls Tryz.prog 57 #[.pointer (some ⟨kb, 0, none⟩)] w' fun e w'' => e = .returned (drawV o) ∧ KTo w' B kb F m1 w'') := by
   intro w' hb';have := drawFree_any B kb F m w' (HA.out.below hb');rw [hdr] at this;exact this
  have HLT : Hid (w.heap.size ≤ w1.heap.size) := hb.size;cases o with
  | none =>
   have HR2 : Hid (R = ([], 8, m1)) := HRN.out m1 h0 hdr;clear HLK HRL HRN HRS HIN h0 hL hd hid hx hsv hb HTAB hdr d1 d2 d3 d4 d5 d6;generalize L.1 = id at *
   unfold drawV at HDR;rcases hs with rfl | ⟨g0, n0, cap0, rfl⟩
   all_goals
    go_wp2_with fail;refine (HDR.out _ (bstep HB.out (bA))).mono ?_;rintro e w3 ⟨rfl, hk3⟩;have HK3 : Hid (KTo w B kb F m1 w3) := KTo.after_below (bstep HB.out (bA)) hk3;clear hk3 HDR;go_wp2_with fail;go_ret2;rw [HR2.out];exact ⟨rfl, HK3.out⟩
  | some too =>
   obtain ⟨ht, hto⟩ := d6 too rfl;have HR2 : Hid (R = _) := HRS.out too m1 h0 hdr;have hcok : Chg.ok (.R L.1 too m.now) := ⟨hid, hto, HOK.out.now⟩;have hall : m1.st.T.allows (.R L.1 too m.now) = true := by
    rw [d1];show ((m.st.T L.1).isSome && (m.st.T too).isNone) = true;rw [hx, ht]; rfl
   have HCH : Hid (∀ F' w', KAt w' B kb F' m1 → Glob B G w' → Calls Tryz.prog 58 #[.pointer (some ⟨kb, 0, none⟩), chgZ (.R L.1 too m.now)] w' fun e w'' => e = .returned (.int .i64 (m1.change (.R L.1 too m.now)).1) ∧ KTo w' B kb F' (m1.change (.R L.1 too m.now)).2 w'') :=
    fun F' w' h1 h2 => kchange_any B kb F' m1 G (.R L.1 too m.now) w' h1 (d4.trans hd) hcok hall d2.symm h2
   have HSC : Hid ((m1.change (.R L.1 too m.now)).2.secret = m.secret) := (change_secret d5 (d4.trans hd) hcok hall).1.trans d3;have HTO : Hid (too < 4096) := hto;have HS16 : Hid (m.secret.length ≤ 16) := HOK.out.secret;unfold chgZ chV at HCH;unfold drawV at HDR;clear HLK HRL HRN HRS HIN h0 hL hd hid hx hsv hb HTAB hdr d1 d2 d3 d4 d5 d6 ht hto hcok hall;generalize m1.change (.R L.1 too m.now) = q at *
   generalize L.1 = id at *
   have HQ0 : Hid (Blk (w1.alloc (.cells #[.int .i64 id, .int .i64 x.user, .int .i64 x.created, .int .i64 x.used, s] 104)) w1.heap.size #[.int .i64 id, .int .i64 x.user, .int .i64 x.created, .int .i64 x.used, s] 104) := Blk.new _ _ _;rcases hs with rfl | ⟨g0, n0, cap0, rfl⟩
   all_goals
    go_wp2_with fail;refine (HDR.out _ (bstep HB.out (bA))).mono ?_;rintro e w2 ⟨rfl, hk2⟩;have HK2 : Hid (KTo w B kb F m1 w2) := KTo.after_below (bstep HB.out (bA)) hk2;obtain ⟨F3, ha3, hf3, hn3⟩ := hk2;have hq := Blk.kept HQ0.out hf3 (fun hh => by have := (HFT.out _ hh).2; have := HLT.out; omega);have c0 := Blk.cell hq 0;simp only [List.getElem?_toArray, List.getElem?_cons_zero] at c0;clear ha3 hf3 hn3 hq HQ0 HDR;go_wp2_with fail;obtain ⟨F2, ha2, hf2, hn2⟩ := HK2.out;have HF2 : Hid (Fr F w w2) := hf2;have HN2 : Hid (∀ b, F2 b → F b ∨ w.heap.size ≤ b) := hn2;refine (HCH.out F2 w2 ha2 (KTo.glob HA.out HK2.out HG.out)).mono ?_;rintro e w3 ⟨rfl, hk3⟩;have HK3 : Hid (KTo w B kb F q.2 w3) := KTo.trans HF2.out HN2.out hk3;clear hk3 HCH ha2 hf2 hn2 c0;by_cases hc : q.1 = 0
    ·have HR3 : Hid (R = (passL m.secret too, 0, q.2)) := by
      show _ = _;rw [HR2.out, if_pos hc]
     rw [hc];have k4 := HK3.out.secret;rw [HSC.out] at k4;clear hc HR2;go_wp2_with fail;refine (pass_call m.secret too w3 HTO.out HS16.out (KTo.glob HA.out HK3.out HG.out).digits).mono ?_;rintro e w4 ⟨rfl, hb4⟩;have HK4 : Hid (KTo w B kb F q.2 w4) := HK3.out.then_below hb4;clear hb4 k4;generalize passL m.secret too = P at *
     go_wp2_with fail;go_ret2;rw [HR3.out];exact ⟨rfl, HK4.out⟩
    ·have HR3 : Hid (R = ([], q.1, q.2)) := by
      show _ = _;rw [HR2.out, if_neg hc]
     have e0 : ((q.1 : Int) == 0) = false := by rw [Bool.eq_false_iff]; intro h; rw [beq_iff_eq] at h; omega
     clear hc HR2;go_wp2_with fail;go_ret2;rw [HR3.out];exact ⟨rfl, HK3.out⟩
 ·have HR2 : Hid (R = ([], L.2.1, L.2.2)) := HRL.out h0;have HK : Hid (KTo w B kb F L.2.2 w1) := hk;clear HLK HRL HRN HRS HIN hk HTAB;generalize L.2.1 = code at *
  have e0 : ((code : Int) == 0) = false := by rw [Bool.eq_false_iff]; intro h; rw [beq_iff_eq] at h; omega
  unfold noSess;clear h0;go_wp2_with fail;go_ret2;rw [HR2.out];exact ⟨rfl, HK.out.then_below (bA)⟩
end Go.Proofs.YtmnajomkfnkmeaaGreatDoor
namespace Go.Proofs.YtmnajomkfnkmeaaGreatDoor
open Go.RowKit Go.Conc
attribute [local go_sem] ofL_size
theorem login_down {m : Kp} {u : Int} (h : m.down = true) : m.login u = ([], 4, m) := by
 unfold Kp.login; rw [if_pos h]
theorem login_arg {m : Kp} {u : Int} (h : m.down = false) (hu : ¬ (1 ≤ u ∧ u ≤ 99)) : m.login u = ([], 1, m) := by
 unfold Kp.login; rw [if_neg (by rw [h]; decide), if_pos hu]
theorem login_many {m : Kp} {u : Int} (h : m.down = false) (hu : 1 ≤ u ∧ u ≤ 99) (hl : 12 ≤ m.st.T.live) : m.login u = ([], 8, m) := by
 unfold Kp.login; rw [if_neg (by rw [h]; decide), if_neg (fun x => x hu), if_pos hl]
theorem login_none {m m1 : Kp} {u : Int} (h : m.down = false) (hu : 1 ≤ u ∧ u ≤ 99) (hl : ¬ 12 ≤ m.st.T.live) (hd : m.draw = (none, m1)) : m.login u = ([], 8, m1) := by
 unfold Kp.login; rw [if_neg (by rw [h]; decide), if_neg (fun x => x hu), if_neg hl, hd]
theorem login_some {m m1 : Kp} {u : Int} {id : Nat} (h : m.down = false) (hu : 1 ≤ u ∧ u ≤ 99) (hl : ¬ 12 ≤ m.st.T.live) (hd : m.draw = (some id, m1)) :
  m.login u = if (m1.change (.L id u.toNat m.now)).1 = 0 then (passL m.secret id, 0, (m1.change (.L id u.toNat m.now)).2) else ([], (m1.change (.L id u.toNat m.now)).1, (m1.change (.L id u.toNat m.now)).2) := by
 unfold Kp.login; rw [if_neg (by rw [h]; decide), if_neg (fun x => x hu), if_neg hl, hd]
theorem klogin_any (B kb : Nat) (F : Nat → Prop) (m : Kp) (G : Gl) (u : Int) (w : World) (h : KAt w B kb F m) (hG : Glob B G w) :
  Calls Tryz.prog 19 #[.pointer (some ⟨kb, 0, none⟩), .int .i64 u] w fun e w' => e = .returned (.tuple #[.string (ofL (m.login u).1), .int .i64 (m.login u).2.1]) ∧ KTo w B kb F (m.login u).2.2 w' := by
 have HA : Hid (KAt w B kb F m) := h;have HG : Hid (Glob B G w) := hG;obtain ⟨db, jb, sb, mb, f, D, sl, Fd, d, hk, hF⟩ := h;have HP : Hid (KeepP w B kb db jb sb mb f D sl Fd m d) := hk;have HDN : Hid (Calls Tryz.prog 54 #[.pointer (some ⟨db, 0, none⟩)] w fun e w'' => e = .returned (.bool m.down) ∧ w'' = w) := kdown_drv hk (Below.refl _ _);have HUS : Hid (∀ w, Calls Tryz.prog 55 #[.int .i64 u] w fun e w' => e = .returned (.bool (decide (1 ≤ u ∧ u ≤ 99))) ∧ w' = w) := fun w => isUser_any u w;have HLV : Hid (Calls Tryz.prog 56 #[.pointer (some ⟨sb, 0, none⟩)] w fun e w' => e = .returned (.int .i64 m.st.T.live) ∧ w' = w) := live_any sb m.st.T mb f D sl w hk.tab hk.ok.ids;have HOK : Hid (MOK m) := hk.ok;have k0 := Blk.cell hk.blk 0;have k2 := Blk.cell hk.blk 2;simp only [kepA, gT, gZ, gS] at k0 k2;obtain ⟨R, hR⟩ : ∃ R, R = m.login u := ⟨_, rfl⟩;rw [← hR];have HR : Hid (R = m.login u) := hR;clear hG hk hF hR HP;by_cases hd : m.down = true
 ·have HR2 : Hid (R = ([], 4, m)) := HR.out.trans (login_down hd);rw [hd] at HDN;clear hd HUS HLV k2;go_enter Tryz.func19, Tryz.ntmps19;go_wp2_with fail;refine HDN.out.mono ?_;rintro e w' ⟨rfl, hw⟩;subst w';go_wp2_with fail;go_ret2;rw [HR2.out];exact ⟨rfl, KTo.same HA.out⟩
 ·have hup : m.down = false := Bool.eq_false_iff.2 hd;rw [hup] at HDN;clear hd;by_cases hu : 1 ≤ u ∧ u ≤ 99
  ·rw [decide_eq_true hu] at HUS;by_cases hl : 12 ≤ m.st.T.live
   ·have HR2 : Hid (R = ([], 8, m)) := HR.out.trans (login_many hup hu hl);have e12 : (decide ((12 : Int) ≤ (m.st.T.live : Int))) = true := decide_eq_true (by omega);clear hu hup;generalize m.st.T.live = n at *
    go_enter Tryz.func19, Tryz.ntmps19;go_wp2_with fail;refine HDN.out.mono ?_;rintro e w' ⟨rfl, hw⟩;subst w';go_wp2_with fail;refine (HUS.out _).mono ?_;rintro e w' ⟨rfl, hw⟩;subst w';go_wp2_with fail;refine HLV.out.mono ?_;rintro e w' ⟨rfl, hw⟩;subst w';go_wp2_with fail;go_ret2;rw [HR2.out];exact ⟨rfl, KTo.same HA.out⟩
   ·obtain ⟨o, m1, hdr⟩ : ∃ o m1, m.draw = (o, m1) := ⟨_, _, rfl⟩;obtain ⟨d1, d2, d3, d4, d5, d6⟩ := draw_facts HOK.out hdr;have HDR : Hid (Calls Tryz.prog 57 #[.pointer (some ⟨kb, 0, none⟩)] w fun e w'' => e = .returned (drawV o) ∧ KTo w B kb F m1 w'') := by
     have := drawFree_any B kb F m w HA.out;rw [hdr] at this;exact this
    have hlt : m.st.T.live < 12 := by omega
    cases o with
    | none =>
     have HR2 : Hid (R = ([], 8, m1)) := HR.out.trans (login_none hup hu hl hdr);clear hu hup hdr d1 d2 d3 d4 d5 d6 hl;generalize m.st.T.live = n at *
     unfold drawV at HDR;go_enter Tryz.func19, Tryz.ntmps19;go_wp2_with fail;refine HDN.out.mono ?_;rintro e w' ⟨rfl, hw⟩;subst w';go_wp2_with fail;refine (HUS.out _).mono ?_;rintro e w' ⟨rfl, hw⟩;subst w';go_wp2_with fail;refine HLV.out.mono ?_;rintro e w' ⟨rfl, hw⟩;subst w';go_wp2_with fail;refine HDR.out.mono ?_;rintro e w3 ⟨rfl, hk3⟩;have HK3 : Hid (KTo w B kb F m1 w3) := hk3;clear hk3 HDR;go_wp2_with fail;go_ret2;rw [HR2.out];exact ⟨rfl, HK3.out⟩
    | some id =>
     obtain ⟨ht, hid⟩ := d6 id rfl;have HR2 : Hid (R = _) := HR.out.trans (login_some hup hu hl hdr);obtain ⟨v, rfl⟩ : ∃ v : Nat, u = v := ⟨u.toNat, by omega⟩;rw [Int.toNat_natCast] at HR2;have hcok : Chg.ok (.L id v m.now) := ⟨hid, by omega, by omega, HOK.out.now⟩;have hall : m1.st.T.allows (.L id v m.now) = true := by
      rw [d1];show ((m.st.T id).isNone && decide (m.st.T.live < 12)) = true;rw [ht, decide_eq_true hlt]; rfl
     have HCH : Hid (∀ F' w', KAt w' B kb F' m1 → Glob B G w' → Calls Tryz.prog 58 #[.pointer (some ⟨kb, 0, none⟩), chgZ (.L id v m.now)] w' fun e w'' => e = .returned (.int .i64 (m1.change (.L id v m.now)).1) ∧ KTo w' B kb F' (m1.change (.L id v m.now)).2 w'') :=
      fun F' w' h1 h2 => kchange_any B kb F' m1 G (.L id v m.now) w' h1 (d4.trans hup) hcok hall d2.symm h2
     have HSC : Hid ((m1.change (.L id v m.now)).2.secret = m.secret) := (change_secret d5 (d4.trans hup) hcok hall).1.trans d3;have HTO : Hid (id < 4096) := hid;have HS16 : Hid (m.secret.length ≤ 16) := HOK.out.secret;unfold chgZ chV at HCH;unfold drawV at HDR;clear hu hup hdr d1 d2 d3 d4 d5 d6 ht hid hcok hall hl;generalize m1.change (.L id v m.now) = q at *
     generalize m.st.T.live = n at *
     go_enter Tryz.func19, Tryz.ntmps19;go_wp2_with fail;refine HDN.out.mono ?_;rintro e w' ⟨rfl, hw⟩;subst w';go_wp2_with fail;refine (HUS.out _).mono ?_;rintro e w' ⟨rfl, hw⟩;subst w';go_wp2_with fail;refine HLV.out.mono ?_;rintro e w' ⟨rfl, hw⟩;subst w';go_wp2_with fail;refine HDR.out.mono ?_;rintro e w2 ⟨rfl, hk2⟩;have HK2 : Hid (KTo w B kb F m1 w2) := hk2;clear hk2 HDR;go_wp2_with fail;obtain ⟨F2, ha2, hf2, hn2⟩ := HK2.out;have HF2 : Hid (Fr F w w2) := hf2;have HN2 : Hid (∀ b, F2 b → F b ∨ w.heap.size ≤ b) := hn2;refine (HCH.out F2 w2 ha2 (KTo.glob HA.out HK2.out HG.out)).mono ?_;rintro e w3 ⟨rfl, hk3⟩;have HK3 : Hid (KTo w B kb F q.2 w3) := KTo.trans HF2.out HN2.out hk3;clear hk3 HCH ha2 hf2 hn2 k0 k2;by_cases hc : q.1 = 0
     ·have HR3 : Hid (R = (passL m.secret id, 0, q.2)) := by
       show _ = _;rw [HR2.out, if_pos hc]
      rw [hc];have k4 := HK3.out.secret;rw [HSC.out] at k4;clear hc HR2;go_wp2_with fail;refine (pass_call m.secret id w3 HTO.out HS16.out (KTo.glob HA.out HK3.out HG.out).digits).mono ?_;rintro e w4 ⟨rfl, hb4⟩;have HK4 : Hid (KTo w B kb F q.2 w4) := HK3.out.then_below hb4;clear hb4 k4;generalize passL m.secret id = P at *
      go_wp2_with fail;go_ret2;rw [HR3.out];exact ⟨rfl, HK4.out⟩
     ·have HR3 : Hid (R = ([], q.1, q.2)) := by
       show _ = _;rw [HR2.out, if_neg hc]
      have e0 : ((q.1 : Int) == 0) = false := by rw [Bool.eq_false_iff]; intro h; rw [beq_iff_eq] at h; omega
      clear hc HR2;go_wp2_with fail;go_ret2;rw [HR3.out];exact ⟨rfl, HK3.out⟩
  ·have HR2 : Hid (R = ([], 1, m)) := HR.out.trans (login_arg hup hu);rw [decide_eq_false hu] at HUS;clear hu hup HLV k2;go_enter Tryz.func19, Tryz.ntmps19;go_wp2_with fail;refine HDN.out.mono ?_;rintro e w' ⟨rfl, hw⟩;subst w';go_wp2_with fail;refine (HUS.out _).mono ?_;rintro e w' ⟨rfl, hw⟩;subst w';go_wp2_with fail;go_ret2;rw [HR2.out];exact ⟨rfl, KTo.same HA.out⟩
theorem outall_down {m : Kp} {u : Int} (h : m.down = true) : m.logoutAll u = (0, 4, m) := by
 unfold Kp.logoutAll; rw [if_pos h]
theorem outall_arg {m : Kp} {u : Int} (h : m.down = false) (hu : ¬ (1 ≤ u ∧ u ≤ 99)) : m.logoutAll u = (0, 1, m) := by
 unfold Kp.logoutAll; rw [if_neg (by rw [h]; decide), if_pos hu]
theorem outall_none {m : Kp} {v : Nat} (h : m.down = false) (hu : 1 ≤ v ∧ v ≤ 99) (hl : m.st.T.ofUser v = 0) : m.logoutAll v = (0, 0, m) := by
 unfold Kp.logoutAll; rw [if_neg (by rw [h]; decide), if_neg (fun x => x (by omega)), Int.toNat_natCast, if_pos hl]
theorem outall_some {m : Kp} {v : Nat} (h : m.down = false) (hu : 1 ≤ v ∧ v ≤ 99) (hl : m.st.T.ofUser v ≠ 0) :
  m.logoutAll v = if (m.change (.U v)).1 = 0 then (m.st.T.ofUser v, 0, (m.change (.U v)).2) else (0, (m.change (.U v)).1, (m.change (.U v)).2) := by
 unfold Kp.logoutAll; rw [if_neg (by rw [h]; decide), if_neg (fun x => x (by omega)), Int.toNat_natCast, if_neg hl]
theorem klogoutAll_any (B kb : Nat) (F : Nat → Prop) (m : Kp) (G : Gl) (u : Int) (w : World) (h : KAt w B kb F m) (hG : Glob B G w) :
  Calls Tryz.prog 30 #[.pointer (some ⟨kb, 0, none⟩), .int .i64 u] w fun e w' => e = .returned (.tuple #[.int .i64 (m.logoutAll u).1, .int .i64 (m.logoutAll u).2.1]) ∧ KTo w B kb F (m.logoutAll u).2.2 w' := by
 have HA : Hid (KAt w B kb F m) := h;have HG : Hid (Glob B G w) := hG;obtain ⟨db, jb, sb, mb, f, D, sl, Fd, d, hk, hF⟩ := h;have HDN : Hid (Calls Tryz.prog 54 #[.pointer (some ⟨db, 0, none⟩)] w fun e w'' => e = .returned (.bool m.down) ∧ w'' = w) := kdown_drv hk (Below.refl _ _);have HUS : Hid (∀ w, Calls Tryz.prog 55 #[.int .i64 u] w fun e w' => e = .returned (.bool (decide (1 ≤ u ∧ u ≤ 99))) ∧ w' = w) := fun w => isUser_any u w;have HTAB : Hid (TabAt w sb m.st.T mb f D sl) := hk.tab;have HOK : Hid (MOK m) := hk.ok;have k0 := Blk.cell hk.blk 0;have k2 := Blk.cell hk.blk 2;simp only [kepA, gT, gZ, gS] at k0 k2;obtain ⟨R, hR⟩ : ∃ R, R = m.logoutAll u := ⟨_, rfl⟩;rw [← hR];have HR : Hid (R = m.logoutAll u) := hR;clear hG hk hF hR;by_cases hd : m.down = true
 ·have HR2 : Hid (R = (0, 4, m)) := HR.out.trans (outall_down hd);rw [hd] at HDN;clear hd HUS k2;go_enter Tryz.func30, Tryz.ntmps30;go_wp2_with fail;refine HDN.out.mono ?_;rintro e w' ⟨rfl, hw⟩;subst w';go_wp2_with fail;go_ret2;rw [HR2.out];exact ⟨rfl, KTo.same HA.out⟩
 ·have hup : m.down = false := Bool.eq_false_iff.2 hd;rw [hup] at HDN;clear hd;by_cases hu : 1 ≤ u ∧ u ≤ 99
  ·rw [decide_eq_true hu] at HUS;obtain ⟨v, rfl⟩ : ∃ v : Nat, u = v := ⟨u.toNat, by omega⟩;have hv : 1 ≤ v ∧ v ≤ 99 := by omega
   have HOF : Hid (Calls Tryz.prog 65 #[.pointer (some ⟨sb, 0, none⟩), .int .i64 v] w fun e w' => e = .returned (.int .i64 (m.st.T.ofUser v)) ∧ Below w.heap.size w w') := of_any sb m.st.T mb f D sl v w HTAB.out HOK.out.ids;by_cases hl : m.st.T.ofUser v = 0
   ·have HR2 : Hid (R = (0, 0, m)) := HR.out.trans (outall_none hup hv hl);rw [hl] at HOF;clear hu hv hup hl;go_enter Tryz.func30, Tryz.ntmps30;go_wp2_with fail;refine HDN.out.mono ?_;rintro e w' ⟨rfl, hw⟩;subst w';go_wp2_with fail;refine (HUS.out _).mono ?_;rintro e w' ⟨rfl, hw⟩;subst w';go_wp2_with fail;refine HOF.out.mono ?_;rintro e w2 ⟨rfl, hb⟩;have HB : Hid (Below w.heap.size w w2) := hb;clear hb;go_wp2_with fail;go_ret2;rw [HR2.out];exact ⟨rfl, KTo.of_below HA.out HB.out⟩
   ·have HR2 : Hid (R = _) := HR.out.trans (outall_some hup hv hl);have hall : m.st.T.allows (.U v) = true := decide_eq_true (by omega);have HCH : Hid (∀ w', Below w.heap.size w w' → Calls Tryz.prog 58 #[.pointer (some ⟨kb, 0, none⟩), chgZ (.U v)] w' fun e w'' => e = .returned (.int .i64 (m.change (.U v)).1) ∧ KTo w' B kb F (m.change (.U v)).2 w'') :=
     fun w' hb' => kchange_any B kb F m G (.U v) w' (HA.out.below hb') hup hv hall trivial (DigitsBelow HG.out hb')
    unfold chgZ chV at HCH;have en : ((m.st.T.ofUser v : Int) == 0) = false := by rw [Bool.eq_false_iff]; intro h; rw [beq_iff_eq] at h; omega
    clear hu hv hup hall hl HR;generalize m.change (.U v) = q at *
    generalize m.st.T.ofUser v = n at *
    go_enter Tryz.func30, Tryz.ntmps30;go_wp2_with fail;refine HDN.out.mono ?_;rintro e w' ⟨rfl, hw⟩;subst w';go_wp2_with fail;refine (HUS.out _).mono ?_;rintro e w' ⟨rfl, hw⟩;subst w';go_wp2_with fail;refine HOF.out.mono ?_;rintro e w2 ⟨rfl, hb⟩;have HB : Hid (Below w.heap.size w w2) := hb;clear hb;go_wp2_with fail;refine (HCH.out w2 HB.out).mono ?_;rintro e w3 ⟨rfl, hk3⟩;have HK3 : Hid (KTo w B kb F q.2 w3) := KTo.after_below HB.out hk3;clear hk3 HCH k0 k2;by_cases hc : q.1 = 0
    ·have HR3 : Hid (R = (n, 0, q.2)) := by
      show _ = _;rw [HR2.out, if_pos hc]
     rw [hc];clear hc HR2;go_wp2_with fail;go_ret2;rw [HR3.out];exact ⟨rfl, HK3.out⟩
    ·have HR3 : Hid (R = (0, q.1, q.2)) := by
      show _ = _;rw [HR2.out, if_neg hc]
     have e0 : ((q.1 : Int) == 0) = false := by rw [Bool.eq_false_iff]; intro h; rw [beq_iff_eq] at h; omega
     clear hc HR2;go_wp2_with fail;go_ret2;rw [HR3.out];exact ⟨rfl, HK3.out⟩
  ·have HR2 : Hid (R = (0, 1, m)) := HR.out.trans (outall_arg hup hu);rw [decide_eq_false hu] at HUS;clear hu hup k2;go_enter Tryz.func30, Tryz.ntmps30;go_wp2_with fail;refine HDN.out.mono ?_;rintro e w' ⟨rfl, hw⟩;subst w';go_wp2_with fail;refine (HUS.out _).mono ?_;rintro e w' ⟨rfl, hw⟩;subst w';go_wp2_with fail;go_ret2;rw [HR2.out];exact ⟨rfl, KTo.same HA.out⟩
end Go.Proofs.YtmnajomkfnkmeaaGreatDoor
