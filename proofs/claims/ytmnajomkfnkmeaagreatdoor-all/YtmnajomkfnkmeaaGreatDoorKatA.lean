import Derived.Test.YtmnajomkfnkmeaaGreatDoorJrnB
import Derived.Test.YtmnajomkfnkmeaaGreatDoorIs
import Derived.Test.YtmnajomkfnkmeaaGreatDoorNum
import Derived.Deep.RegionWith
set_option maxRecDepth 20000
set_option maxHeartbeats 2000000
namespace Go.Proofs.YtmnajomkfnkmeaaGreatDoor
open Go.RowKit Go.Conc
attribute [local go_sem] ofL_size
def kepA (db jb sb : Nat) (m : Kp) : Array Value := #[.pointer (some ⟨db, 0, none⟩), .pointer (some ⟨jb, 0, none⟩), .pointer (some ⟨sb, 0, none⟩), .int .i64 m.drawn, .string (ofL m.secret), .int .i64 m.idle, .int .i64 m.abs, .int .i64 m.now]
structure MOK (m : Kp) : Prop where
 good : m.down = false → Good m
 wf : m.st.T.wf
 secret : m.secret.length ≤ 16
 idle : m.idle ≤ 1000000000
 abs : m.abs ≤ 1000000000
 now : m.now ≤ maxT
 drawn : m.drawn < 65537
structure KeepP (w : World) (B kb db jb sb mb : Nat) (f : Fn) (D : DataW Unit) (sl : Nat → Value) (Fd : Nat → Prop) (m : Kp) (d : Dv) : Prop where
 blk : Blk w kb (kepA db jb sb m) 90
 dj : DJ w B db jb Fd m d
 tab : TabAt w sb m.st.T mb f D sl
 kd : ¬ Fd kb ∧ kb ≠ jb ∧ B ≤ kb
 ft : ∀ b, foot sb mb f sl b → ¬ Fd b ∧ b ≠ jb ∧ b ≠ kb ∧ B ≤ b
 ok : MOK m
def kfoot (kb jb sb mb : Nat) (f : Fn) (sl : Nat → Value) (Fd : Nat → Prop) (b : Nat) : Prop := b = kb ∨ b = jb ∨ Fd b ∨ foot sb mb f sl b
def KAt (w : World) (B kb : Nat) (F : Nat → Prop) (m : Kp) : Prop := ∃ db jb sb mb f D sl Fd d, KeepP w B kb db jb sb mb f D sl Fd m d ∧ ∀ b, F b ↔ kfoot kb jb sb mb f sl Fd b
theorem KeepP.foot {w : World} {B kb db jb sb mb : Nat} {f : Fn} {D : DataW Unit} {sl : Nat → Value} {Fd : Nat → Prop} {m : Kp} {d : Dv} (h : KeepP w B kb db jb sb mb f D sl Fd m d) {b : Nat} (hb : kfoot kb jb sb mb f sl Fd b) : B ≤ b ∧ b < w.heap.size := by
 rcases hb with rfl | rfl | hb | hb
 ·exact ⟨h.kd.2.2, h.blk.lt⟩
 ·exact ⟨h.dj.ge, h.dj.jrn.lt⟩
 ·exact h.dj.drv.foot hb
 ·exact ⟨(h.ft b hb).2.2.2, h.tab.lt b hb⟩
theorem KeepP.kept {S : Nat → Prop} {w w' : World} {B kb db jb sb mb : Nat} {f : Fn} {D : DataW Unit} {sl : Nat → Value} {Fd : Nat → Prop} {m : Kp} {d : Dv} (h : KeepP w B kb db jb sb mb f D sl Fd m d) (hf : Fr S w w') (hn : ∀ b, kfoot kb jb sb mb f sl Fd b → ¬ S b) : KeepP w' B kb db jb sb mb f D sl Fd m d :=
 ⟨h.blk.kept hf (hn kb (Or.inl rfl)), h.dj.kept hf (fun b hb => hn b (hb.elim (fun h => Or.inr (Or.inr (Or.inl h))) (fun h => Or.inr (Or.inl h)))), h.tab.kept hf (fun b hb => hn b (Or.inr (Or.inr (Or.inr hb)))), h.kd, h.ft, h.ok⟩
theorem KeepP.below {w w' : World} {B kb db jb sb mb : Nat} {f : Fn} {D : DataW Unit} {sl : Nat → Value} {Fd : Nat → Prop} {m : Kp} {d : Dv} (h : KeepP w B kb db jb sb mb f D sl Fd m d) (hb : Below w.heap.size w w') : KeepP w' B kb db jb sb mb f D sl Fd m d := h.kept (S := fun _ => False) (Fr.of_below hb) (fun _ _ h => h)
theorem KAt.foot {w : World} {B kb : Nat} {F : Nat → Prop} {m : Kp} (h : KAt w B kb F m) {b : Nat} (hb : F b) : B ≤ b ∧ b < w.heap.size := by
 obtain ⟨db, jb, sb, mb, f, D, sl, Fd, d, hp, hF⟩ := h;exact hp.foot ((hF b).1 hb)
theorem KAt.kept {S : Nat → Prop} {w w' : World} {B kb : Nat} {F : Nat → Prop} {m : Kp} (h : KAt w B kb F m) (hf : Fr S w w') (hn : ∀ b, F b → ¬ S b) : KAt w' B kb F m := by
 obtain ⟨db, jb, sb, mb, f, D, sl, Fd, d, hp, hF⟩ := h;exact ⟨db, jb, sb, mb, f, D, sl, Fd, d, hp.kept hf (fun b hb => hn b ((hF b).2 hb)), hF⟩
theorem KAt.below {w w' : World} {B kb : Nat} {F : Nat → Prop} {m : Kp} (h : KAt w B kb F m) (hb : Below w.heap.size w w') : KAt w' B kb F m := h.kept (S := fun _ => False) (Fr.of_below hb) (fun _ _ h => h)
theorem KAt.ok {w : World} {B kb : Nat} {F : Nat → Prop} {m : Kp} (h : KAt w B kb F m) : MOK m := by
 obtain ⟨db, jb, sb, mb, f, D, sl, Fd, d, hp, hF⟩ := h;exact hp.ok
def KTo (w : World) (B kb : Nat) (F : Nat → Prop) (m : Kp) (w' : World) : Prop := ∃ F', KAt w' B kb F' m ∧ Fr F w w' ∧ ∀ b, F' b → F b ∨ w.heap.size ≤ b
theorem KTo.trans {w w1 w2 : World} {B kb : Nat} {F F1 : Nat → Prop} {m : Kp} (hf : Fr F w w1) (hF : ∀ b, F1 b → F b ∨ w.heap.size ≤ b) (h2 : KTo w1 B kb F1 m w2) : KTo w B kb F m w2 := by
 obtain ⟨F2, ha2, hf2, hF2⟩ := h2;refine ⟨F2, ha2, hf.trans hf2 (fun i hi h => ?_), fun b hb => ?_⟩
 ·rcases hF i h with h | h
  ·exact h
  ·omega
 ·rcases hF2 b hb with h | h
  ·exact hF b h
  ·exact Or.inr (Nat.le_trans hf.size h)
theorem KTo.same {w : World} {B kb : Nat} {F : Nat → Prop} {m : Kp} (h : KAt w B kb F m) : KTo w B kb F m w := ⟨F, h, Fr.refl F w, fun _ h => Or.inl h⟩
theorem KTo.of_below {w w' : World} {B kb : Nat} {F : Nat → Prop} {m : Kp} (h : KAt w B kb F m) (hb : Below w.heap.size w w') : KTo w B kb F m w' := ⟨F, h.below hb, Fr.of_below hb, fun _ h => Or.inl h⟩
theorem KTo.then_below {w w1 w2 : World} {B kb : Nat} {F : Nat → Prop} {m : Kp} (h : KTo w B kb F m w1) (hb : Below w1.heap.size w1 w2) : KTo w B kb F m w2 := by
 obtain ⟨F2, ha2, hf2, hF2⟩ := h;exact ⟨F2, ha2.below hb, hf2.trans (Fr.of_below (S := fun _ => False) hb) (fun _ _ h => h.elim), hF2⟩
theorem KTo.after_below {w w1 w2 : World} {B kb : Nat} {F : Nat → Prop} {m : Kp} (hb : Below w.heap.size w w1) (h2 : KTo w1 B kb F m w2) : KTo w B kb F m w2 := KTo.trans (Fr.of_below hb) (fun _ h => Or.inl h) h2
theorem KTo.glob {w w' : World} {B kb : Nat} {F : Nat → Prop} {m m0 : Kp} {G : Gl} (h0 : KAt w B kb F m0) (h : KTo w B kb F m w') (hG : Glob B G w) : Glob B G w' := by
 obtain ⟨F2, ha2, hf2, hF2⟩ := h;exact hG.fr hf2 (fun b hb => (h0.foot hb).1)
theorem errno_nil (w : World) : Calls Tryz.prog 70 #[.nilIface] w fun e w' => e = .returned (.int .i64 0) ∧ w' = w := by
 go_enter Tryz.func70, Tryz.ntmps70;go_wp2;go_ret;exact ⟨rfl, rfl⟩
theorem errno_down (B : Nat) (G : Gl) (w : World) (hG : Glob B G w) : Calls Tryz.prog 70 #[errV G.down] w fun e w' => e = .returned (.int .i64 4) ∧ w' = w := by
 have hd := hG.down.1;have HIS : Hid (∀ w, Calls Tryz.prog 117 #[errV G.down, errV G.down] w fun e w' => e = .returned (.bool true) ∧ w' = w) := fun w => is_same G.down w;clear hG;unfold errV at hd HIS ⊢;go_enter Tryz.func70, Tryz.ntmps70;go_wp2_with fail;refine (HIS.out _).mono ?_;rintro e w' ⟨rfl, rfl⟩;go_wp2_with fail;go_ret;exact ⟨rfl, rfl⟩
theorem errno_full (B : Nat) (G : Gl) (w : World) (hG : Glob B G w) : Calls Tryz.prog 70 #[errV G.full] w fun e w' => e = .returned (.int .i64 9) ∧ w' = w := by
 have hd := hG.down.1;obtain ⟨⟨c1, t1, h1⟩, _⟩ := hG.fullAt;obtain ⟨⟨c2, t2, h2⟩, _⟩ := hG.downAt;have HIS : Hid (Calls Tryz.prog 117 #[errV G.full, errV G.down] w fun e w' => e = .returned (.bool false) ∧ w' = w) := is_other G.full G.down c1 c2 t1 t2 w hG.ne h1 h2;clear hG h1 h2;unfold errV at hd HIS ⊢;go_enter Tryz.func70, Tryz.ntmps70;go_wp2_with fail;refine HIS.out.mono ?_;rintro e w' ⟨rfl, rfl⟩;go_wp2_with fail;go_ret;exact ⟨rfl, rfl⟩
theorem errno_any (B : Nat) (G : Gl) (e : Nat) (w : World) (hG : Glob B G w) (he : e = 0 ∨ e = 4 ∨ e = 9) : Calls Tryz.prog 70 #[jerrV G e] w fun x w' => x = .returned (.int .i64 e) ∧ w' = w := by
 rcases he with rfl | rfl | rfl
 ·exact errno_nil w
 ·exact errno_down B G w hG
 ·exact errno_full B G w hG
theorem change_codes (m : Kp) (c : Chg) : (m.change c).1 = 0 ∨ (m.change c).1 = 4 ∨ (m.change c).1 = 9 := by
 unfold Kp.change;split
 ·exact Or.inr (Or.inr rfl)
 ·split
  ·exact Or.inl rfl
  ·exact Or.inr (Or.inl rfl)
end Go.Proofs.YtmnajomkfnkmeaaGreatDoor
namespace Go.Proofs.YtmnajomkfnkmeaaGreatDoor
open Go.RowKit Go.Conc
attribute [local go_sem] ofL_size
def chgZ : Chg → Value
 | .L id u _ => chV 76 id 0 u 0 [] []
 | .T id _ => chV 84 id 0 0 0 [] []
 | .R id too _ => chV 82 id too 0 0 [] []
 | .S id n v _ => chV 83 id 0 0 0 n v
 | .X id => chV 88 id 0 0 0 [] []
 | .U u => chV 85 0 0 u 0 [] []
def timed (t : Nat) : Chg → Prop
 | .L _ _ s => s = t
 | .T _ s => s = t
 | .R _ _ s => s = t
 | .S _ _ _ s => s = t
 | _ => True
theorem chgZ_W (t : Nat) (c : Chg) (h : timed t c) : ∃ k id too u n v, chgZ c = chV k id too u 0 n v ∧ chgW t c = chV k id too u t n v := by
 cases c with
 | L id u s => have h : s = t := h; subst h; exact ⟨_, _, _, _, _, _, rfl, rfl⟩
 | T id s => have h : s = t := h; subst h; exact ⟨_, _, _, _, _, _, rfl, rfl⟩
 | R id too s => have h : s = t := h; subst h; exact ⟨_, _, _, _, _, _, rfl, rfl⟩
 | S id n v s => have h : s = t := h; subst h; exact ⟨_, _, _, _, _, _, rfl, rfl⟩
 | X id => exact ⟨_, _, _, _, _, _, rfl, rfl⟩
 | U u => exact ⟨_, _, _, _, _, _, rfl, rfl⟩
theorem change_facts {m : Kp} (h : MOK m) (hu : m.down = false) {c : Chg} (hc : c.ok) (ha : m.st.T.allows c = true) :
  MOK (m.change c).2 ∧ (∀ db jb sb, kepA db jb sb (m.change c).2 = kepA db jb sb m) ∧ ((m.change c).1 = 0 → (m.change c).2.st = m.st.does c) ∧ ((m.change c).1 ≠ 0 → (m.change c).2.st = m.st) := by
 have hg := h.good hu;rcases hg.change hc ha with ⟨hf, e⟩ | ⟨f, hf, e, g, _, _⟩ | ⟨m', hf, e, _, hd, _, hb⟩
 ·rw [e];exact ⟨h, fun _ _ _ => rfl, (fun x => (by cases x)), fun _ => rfl⟩
 ·rw [e];exact ⟨⟨fun _ => g, g.holds.wf, h.secret, h.idle, h.abs, h.now, h.drawn⟩, fun _ _ _ => rfl, fun _ => rfl, fun x => absurd rfl x⟩
 ·rw [e];obtain ⟨qs, rs, _, _, e3⟩ := hb.ex;refine ⟨⟨(fun x => (by have x : m'.down = false := x; rw [hd] at x; cases x)), ?_, ?_, ?_, ?_, ?_, ?_⟩, fun _ _ _ => ?_, (fun x => (by cases x)), fun _ => ?_⟩
  ·rw [e3]; exact h.wf
  ·rw [e3]; exact h.secret
  ·rw [e3]; exact h.idle
  ·rw [e3]; exact h.abs
  ·rw [e3]; exact h.now
  ·rw [e3]; exact h.drawn
  ·rw [e3]; rfl
  ·rw [e3]
theorem keep_wrote {w w1 : World} {B kb db jb sb mb : Nat} {f : Fn} {D : DataW Unit} {sl : Nat → Value} {Fd : Nat → Prop} {m m' : Kp} {d : Dv} (h : KeepP w B kb db jb sb mb f D sl Fd m d) (hj : DJTo w B db jb Fd m' w1) (hk : ∀ db jb sb, kepA db jb sb m' = kepA db jb sb m) :
  ∃ Fd' d', Blk w1 kb (kepA db jb sb m') 90 ∧ DJ w1 B db jb Fd' m' d' ∧ TabAt w1 sb m.st.T mb f D sl ∧ (¬ Fd' kb ∧ kb ≠ jb ∧ B ≤ kb) ∧ (∀ b, foot sb mb f sl b → ¬ Fd' b ∧ b ≠ jb ∧ b ≠ kb ∧ B ≤ b) ∧ Fr (fun b => Fd b ∨ b = jb) w w1 ∧ ∀ b, Fd' b → Fd b ∨ w.heap.size ≤ b := by
 obtain ⟨Fd', d', hd, hf, hn⟩ := hj;have no : ∀ b, b < w.heap.size → ¬ Fd b → ¬ Fd' b := fun b hb hnb hb' => by
  rcases hn b hb' with h | h
  ·exact hnb h
  ·omega
 refine ⟨Fd', d', ?_, hd, h.tab.kept hf (fun b hb e => ?_), ⟨no kb h.blk.lt h.kd.1, h.kd.2⟩, fun b hb => ⟨no b (h.tab.lt b hb) (h.ft b hb).1, (h.ft b hb).2⟩, hf, hn⟩
 ·rw [hk]; exact h.blk.kept hf (fun e => e.elim h.kd.1 h.kd.2.1)
 ·exact e.elim (h.ft b hb).1 (h.ft b hb).2.1
theorem keep_close {w w1 w2 : World} {B kb db jb sb mb : Nat} {f f' : Fn} {D D' : DataW Unit} {sl sl' : Nat → Value} {Fd Fd' F : Nat → Prop} {m m' : Kp} {d d' : Dv} (h : KeepP w B kb db jb sb mb f D sl Fd m d) (hF : ∀ b, F b ↔ kfoot kb jb sb mb f sl Fd b) (hB : B ≤ w.heap.size)
  (hk : Blk w1 kb (kepA db jb sb m') 90) (hd : DJ w1 B db jb Fd' m' d') (hft : ∀ b, foot sb mb f sl b → ¬ Fd' b) (hkd : ¬ Fd' kb) (hf1 : Fr (fun b => Fd b ∨ b = jb) w w1) (hn1 : ∀ b, Fd' b → Fd b ∨ w.heap.size ≤ b)
  (ht : TabAt w2 sb m'.st.T mb f' D' sl') (hf2 : Fr (foot sb mb f sl) w1 w2) (hn2 : ∀ b, foot sb mb f' sl' b → foot sb mb f sl b ∨ w1.heap.size ≤ b) (hok : MOK m') : KTo w B kb F m' w2 := by
 have hs1 := hf1.size;have hd2 : DJ w2 B db jb Fd' m' d' := hd.kept hf2 (fun b hb e => hb.elim (fun hb => hft b e hb) (fun hb => (h.ft b e).2.1 hb));have hk2 : Blk w2 kb (kepA db jb sb m') 90 := hk.kept hf2 (fun e => (h.ft kb e).2.2.1 rfl);refine ⟨kfoot kb jb sb mb f' sl' Fd', ⟨db, jb, sb, mb, f', D', sl', Fd', d', ⟨hk2, hd2, ht, ⟨hkd, h.kd.2⟩, fun b hb => ?_, hok⟩, fun b => Iff.rfl⟩, ?_, fun b hb => ?_⟩
 ·rcases hn2 b hb with hb' | hb'
  ·exact ⟨hft b hb', (h.ft b hb').2⟩
  ·have h1 := h.dj.jrn.lt;have h2 := h.blk.lt;refine ⟨fun hx => ?_, by omega, by omega, by omega⟩;have := (hd.drv.foot hx).2;omega
 ·refine (hf1.mono (fun b _ hb => (hF b).2 ?_)).trans hf2 (fun b _ hb => (hF b).2 (Or.inr (Or.inr (Or.inr hb))));exact hb.elim (fun hb => Or.inr (Or.inr (Or.inl hb))) (fun hb => Or.inr (Or.inl hb))
 ·rcases hb with hb | hb | hb | hb
  ·exact Or.inl ((hF b).2 (Or.inl hb))
  ·exact Or.inl ((hF b).2 (Or.inr (Or.inl hb)))
  ·exact (hn1 b hb).imp (fun hb => (hF b).2 (Or.inr (Or.inr (Or.inl hb)))) id
  ·rcases hn2 b hb with hb | hb
   ·exact Or.inl ((hF b).2 (Or.inr (Or.inr (Or.inr hb))))
   ·exact Or.inr (by omega)
theorem kchange_any (B kb : Nat) (F : Nat → Prop) (m : Kp) (G : Gl) (c : Chg) (w : World) (h : KAt w B kb F m) (hu : m.down = false) (hc : c.ok) (ha : m.st.T.allows c = true) (ht : timed m.now c) (hG : Glob B G w) :
  Calls Tryz.prog 58 #[.pointer (some ⟨kb, 0, none⟩), chgZ c] w fun e w' => e = .returned (.int .i64 (m.change c).1) ∧ KTo w B kb F (m.change c).2 w' := by
 obtain ⟨db, jb, sb, mb, f, D, sl, Fd, d, hp, hF⟩ := h;obtain ⟨k, id, too, u, n, v, hz, hw⟩ := chgZ_W m.now c ht;have HP : Hid (KeepP w B kb db jb sb mb f D sl Fd m d) := hp;have HF : Hid (∀ b, F b ↔ kfoot kb jb sb mb f sl Fd b) := hF;have HG : Hid (Glob B G w) := hG;have HC : Hid (c.ok ∧ m.st.T.allows c = true ∧ m.down = false) := ⟨hc, ha, hu⟩;have HFA : Hid (_ ∧ _ ∧ _ ∧ _) := change_facts hp.ok hu hc ha;have HW : Hid (chgW m.now c = chV k id too u m.now n v) := hw;have hbl : Below w.heap.size w (w.alloc (.cells #[.int .u8 k, .int .i64 id, .int .i64 too, .int .i64 u, .int .i64 0, .string (ofL n), .string (ofL v)] 101)) := bA;have hkb : Blk (w.alloc (.cells #[.int .u8 k, .int .i64 id, .int .i64 too, .int .i64 u, .int .i64 0, .string (ofL n), .string (ofL v)] 101)) kb (kepA db jb sb m) 90 := hp.blk.below hbl;have k7 := Blk.cell hkb 7;simp only [kepA, gT, gZ, gS] at k7;rw [hz];unfold chV;have hb1 : Below w.heap.size w (w.alloc (.cells #[.int .u8 k, .int .i64 id, .int .i64 too, .int .i64 u, .int .i64 m.now, .string (ofL n), .string (ofL v)] 101)) := bA;have HQ1 : Hid (Blk (w.alloc (.cells #[.int .u8 k, .int .i64 id, .int .i64 too, .int .i64 u, .int .i64 m.now, .string (ofL n), .string (ofL v)] 101)) w.heap.size _ 101) := Blk.new _ _ _;have HB1 : Hid (Below _ _ _) := hb1;have HP1 : Hid (KeepP (w.alloc (.cells #[.int .u8 k, .int .i64 id, .int .i64 too, .int .i64 u, .int .i64 m.now, .string (ofL n), .string (ofL v)] 101)) B kb db jb sb mb f D sl Fd m d) := hp.below hb1;have HAPP : Hid (∀ w', DJ w' B db jb Fd m d → Glob B G w' → Calls Tryz.prog 110 #[.pointer (some ⟨jb, 0, none⟩), .agg #[.int .u8 k, .int .i64 id, .int .i64 too, .int .i64 u, .int .i64 m.now, .string (ofL n), .string (ofL v)]] w' fun e w'' => e = .returned (jerrV G (m.change c).1) ∧ DJTo w' B db jb Fd (m.change c).2 w'') := fun w' h1 h2 => by
  have := append_any jb db B Fd d m G c m.now w' h1 (hp.ok.good hu) hc hp.ok.now h2;rw [hw] at this;exact this
 have HDO : Hid (∀ w', TabAt w' sb m.st.T mb f D sl → Calls Tryz.prog 111 #[.pointer (some ⟨sb, 0, none⟩), .agg #[.int .u8 k, .int .i64 id, .int .i64 too, .int .i64 u, .int .i64 m.now, .string (ofL n), .string (ofL v)]] w' (DoTo w' sb (m.st.T.does c) mb f sl)) := fun w' h1 => by
  have := do_at sb m.st.T mb f D sl c m.now w' h1 hp.ok.wf hc ha;rw [hw] at this;exact this
 clear hp hF hG hu hc ha ht hbl hkb hz hw hb1;go_enter Tryz.func58, Tryz.ntmps58;go_wp2_with fail;clear k7;generalize w.alloc (Obj.cells _ _ _) = w1 at *
 have q0 := Blk.cell HQ1.out 0;have q1 := Blk.cell HQ1.out 1;have q2 := Blk.cell HQ1.out 2;have q3 := Blk.cell HQ1.out 3;have q4 := Blk.cell HQ1.out 4;have q5 := Blk.cell HQ1.out 5;have q6 := Blk.cell HQ1.out 6;have k1 := Blk.cell HP1.out.blk 1;simp only [kepA, gT, gZ, gS] at k1 q0 q1 q2 q3 q4 q5 q6;have HD1 : Hid (DJ w1.drew B db jb Fd m d) := HP1.out.dj.kept ((Fr.refl (fun _ => False) w1).drew) (fun _ _ h => h);have HG1 : Hid (Glob B G w1.drew) := (DigitsBelow HG.out HB1.out).drew
 go_region_with (go_at_call 110; refine (HAPP.out _ HD1.out HG1.out).mono ?_; rintro e w2 ⟨rfl, hd2⟩)
 all_goals
  have hPD : KeepP w1.drew B kb db jb sb mb f D sl Fd m d := HP1.out.kept ((Fr.refl (fun _ => False) w1).drew) (fun _ _ h => h);have HPD : Hid (KeepP w1.drew B kb db jb sb mb f D sl Fd m d) := hPD;obtain ⟨Fd', d', hk2, hdj2, ht2, hkd2, hft2, hfr2, hn2⟩ := keep_wrote hPD hd2 HFA.out.2.1;have hq2 : Blk w2 w.heap.size _ 101 := (Blk.drew HQ1.out).kept hfr2 (fun e => by
   rcases e with e | e
   ·have := (HP.out.dj.drv.foot e).2; omega
   ·have := HP.out.dj.jrn.lt; omega)
  have HK2 : Hid (_ ∧ _ ∧ _ ∧ _ ∧ _ ∧ _ ∧ _ ∧ _) := ⟨hk2, hdj2, ht2, hkd2, hft2, hfr2, hn2, hq2⟩;have HG2 : Hid (Glob B G w2) := HG1.out.fr hfr2 (fun b hb => (HPD.out.dj.foot hb).1);have HB0 : Hid (B ≤ w.heap.size) := HG.out.le;clear hk2 hdj2 ht2 hkd2 hft2 hfr2 hn2 hq2 hd2 k1 q0 q1 q2 q3 q4 q5 q6 hPD HAPP HD1 HG1;rcases change_codes m c with h0 | h0 | h0
  ·have HS0 : Hid ((m.change c).2.st = m.st.does c) := HFA.out.2.2.1 h0;have HC0 : Hid ((m.change c).1 = 0) := h0;rw [show jerrV G (m.change c).1 = .nilIface by rw [h0]; rfl];have k2 := Blk.cell HK2.out.1 2;have q0 := Blk.cell HK2.out.2.2.2.2.2.2.2 0;have q1 := Blk.cell HK2.out.2.2.2.2.2.2.2 1;have q2 := Blk.cell HK2.out.2.2.2.2.2.2.2 2;have q3 := Blk.cell HK2.out.2.2.2.2.2.2.2 3;have q4 := Blk.cell HK2.out.2.2.2.2.2.2.2 4;have q5 := Blk.cell HK2.out.2.2.2.2.2.2.2 5;have q6 := Blk.cell HK2.out.2.2.2.2.2.2.2 6;simp only [kepA, gT, gZ, gS] at k2 q0 q1 q2 q3 q4 q5 q6;clear h0;have HTD : Hid (TabAt w2.drew sb m.st.T mb f D sl) := HK2.out.2.2.1.kept ((Fr.refl (fun _ => False) w2).drew) (fun _ _ h => h);go_wp2_with fail
   go_region_with (go_at_call 111; refine (HDO.out _ HTD.out).mono ?_; rintro e w3 ⟨rfl, f', D', sl', ht3, hf3, hn3⟩)
   all_goals
    have HE : Hid (KTo w B kb F (m.change c).2 w3) := by
     have hkx := HK2.out;refine KTo.after_below HB1.out ?_;have hq : ∀ b, foot sb mb f sl b → ¬ Fd' b := fun b hb => (hkx.2.2.2.2.1 b hb).1;have ht3' : TabAt w3 sb (m.change c).2.st.T mb f' D' sl' := by rw [HS0.out]; exact ht3
     exact keep_close (w := w1) HP1.out HF.out (Nat.le_trans HB0.out HB1.out.size) hkx.1 hkx.2.1 hq hkx.2.2.2.1.1 (((Fr.refl _ w1).drew).trans hkx.2.2.2.2.2.1 (fun _ _ h => h)) hkx.2.2.2.2.2.2.1 ht3' (((Fr.refl _ w2).drew).trans hf3 (fun _ _ h => h)) hn3 HFA.out.1
    clear ht3 hf3 hn3 k2 q0 q1 q2 q3 q4 q5 q6 HTD HDO;go_wp2_with fail;go_ret;rw [HC0.out];exact ⟨rfl, HE.out⟩
  all_goals
   have HE : Hid (KTo w B kb F (m.change c).2 w2) := by
    have hkx := HK2.out;refine KTo.after_below HB1.out ?_;have hst : (m.change c).2.st = m.st := HFA.out.2.2.2 (by rw [h0]; decide);have hq : ∀ b, foot sb mb f sl b → ¬ Fd' b := fun b hb => (hkx.2.2.2.2.1 b hb).1;have ht3' : TabAt w2 sb (m.change c).2.st.T mb f D sl := by rw [hst]; exact hkx.2.2.1
    exact keep_close (w := w1) HP1.out HF.out (Nat.le_trans HB0.out HB1.out.size) hkx.1 hkx.2.1 hq hkx.2.2.2.1.1 (((Fr.refl _ w1).drew).trans hkx.2.2.2.2.2.1 (fun _ _ h => h)) hkx.2.2.2.2.2.2.1 ht3' (Fr.refl _ w2) (fun _ h => Or.inl h) HFA.out.1
   have HER : Hid (∀ w', Glob B G w' → Calls Tryz.prog 70 #[jerrV G (m.change c).1] w' fun x w'' => x = .returned (.int .i64 (m.change c).1) ∧ w'' = w') := fun w' hg => errno_any B G _ w' hg (change_codes m c);have HC0 : Hid ((m.change c).1 = _) := h0;rw [h0] at HER ⊢;clear h0 HDO;unfold jerrV errV at HER ⊢;simp only [Nat.reduceEqDiff, if_true, if_false] at HER ⊢;go_wp2_with fail;refine (HER.out _ HG2.out).mono ?_;rintro e w3 ⟨rfl, rfl⟩;go_wp2_with fail;go_ret;rw [HC0.out];exact ⟨rfl, HE.out⟩
end Go.Proofs.YtmnajomkfnkmeaaGreatDoor
namespace Go.Proofs.YtmnajomkfnkmeaaGreatDoor
open Go.RowKit Go.Conc
attribute [local go_sem] ofL_size
theorem next_draw (kb x : Nat) (w : World) (h : w.cell? ⟨kb, 3, none⟩ = some (.int .i64 x)) (hf : w.frozen? ⟨kb, 3, none⟩ = false) (hx : x < 65537) :
  Calls Tryz.prog 108 #[.pointer (some ⟨kb, 3, none⟩)] w fun e w' => e = .returned (.int .i64 ((drawX x % 4096 : Nat) : Int)) ∧ w' = w.setCell ⟨kb, 3, none⟩ (.int .i64 (drawX x : Int)) := by
 have HX : Hid (drawX x = (75 * x + 74) % 65537) := rfl;have e1 : wrap64 (75 * (x : Int)) = 75 * x := by unfold wrap64; omega
 have e2 : wrap64 (75 * (x : Int) + 74) = 75 * x + 74 := by unfold wrap64; omega
 have e3 : ((75 * (x : Int) + 74).tmod 65537) = ((drawX x : Nat) : Int) := by
  rw [HX.out, Int.tmod_eq_emod_of_nonneg (by omega)]; omega
 have e4 : ((drawX x : Nat) : Int).tmod 4096 = ((drawX x % 4096 : Nat) : Int) := rfl;have hlt := drawX_lt x;clear hx;generalize drawX x = y at *
 go_enter Tryz.func108, Tryz.ntmps108;go_wp2_with fail;go_ret;exact ⟨by rw [Int.natCast_emod]; rfl, rfl⟩
theorem MOK.redrawn {m : Kp} (h : MOK m) {y : Nat} (hy : y < 65537) : MOK { m with drawn := y } :=
 ⟨fun hd => ⟨(h.good hd).up, (h.good hd).way, (h.good hd).holds, (h.good hd).now, hy⟩, h.wf, h.secret, h.idle, h.abs, h.now, hy⟩
theorem DJ.with {w : World} {B db jb : Nat} {F : Nat → Prop} {m m' : Kp} {d : Dv} (h : DJ w B db jb F m d) (h1 : m'.disk = m.disk) (h2 : m'.fuse = m.fuse) (h3 : m'.down = m.down) (h4 : m'.way = m.way) (h5 : m'.st = m.st) : DJ w B db jb F m' d :=
 ⟨h.drv, h.ok, ⟨h.kd.stable.trans h1.symm, h.kd.fuse.trans h2.symm, h.kd.down.trans h3.symm, h4.trans h.kd.way, h.kd.rest⟩, by rw [h1, h5]; exact h.jrn, h.apart, h.ge⟩
theorem KeepP.cell {w w1 : World} {B kb db jb sb mb : Nat} {f : Fn} {D : DataW Unit} {sl : Nat → Value} {Fd : Nat → Prop} {m m' : Kp} {d : Dv} (h : KeepP w B kb db jb sb mb f D sl Fd m d) (hf : Fr (· = kb) w w1) (hb : Blk w1 kb (kepA db jb sb m') 90)
  (h1 : m'.disk = m.disk) (h2 : m'.fuse = m.fuse) (h3 : m'.down = m.down) (h4 : m'.way = m.way) (h5 : m'.st = m.st) (hok : MOK m') : KeepP w1 B kb db jb sb mb f D sl Fd m' d :=
 ⟨hb, (h.dj.kept hf (fun b hx e => (e ▸ hx : Fd kb ∨ kb = jb).elim h.kd.1 h.kd.2.1)).with h1 h2 h3 h4 h5, by rw [h5]; exact h.tab.kept hf (fun b hb e => (h.ft b hb).2.2.1 e), h.kd, h.ft, hok⟩
theorem drawN_succ (n x : Nat) (T : Tab) : drawN (n + 1) x T = if (T (drawX x % 4096)).isNone then (some (drawX x % 4096), drawX x) else drawN n (drawX x) T := rfl
def drawV : Option Nat → Value
 | some id => .tuple #[.int .i64 id, .int .i64 0]
 | none => .tuple #[.int .i64 0, .int .i64 8]
theorem drawFree_any (B kb : Nat) (F : Nat → Prop) (m : Kp) (w : World) (h : KAt w B kb F m) :
  Calls Tryz.prog 57 #[.pointer (some ⟨kb, 0, none⟩)] w fun e w' => e = .returned (drawV m.draw.1) ∧ KTo w B kb F m.draw.2 w' := by
 obtain ⟨db, jb, sb, mb, f, D, sl, Fd, d, hp, hF⟩ := h;have HF : Hid (∀ b, F b ↔ kfoot kb jb sb mb f sl Fd b) := hF;have HP : Hid (KeepP w B kb db jb sb mb f D sl Fd m d) := hp;obtain ⟨R, hR⟩ : ∃ R, R = drawN 8 m.drawn m.st.T := ⟨_, rfl⟩;have HR : Hid (R = drawN 8 m.drawn m.st.T) := hR;have HD : Hid (m.draw = (R.1, { m with drawn := R.2 })) := by
  show _ = _;rw [hR]; rfl
 have h0 : m.drawn < 65537 := hp.ok.drawn;have HD0 : Hid (m.drawn < 65537) := h0;clear hp hF hR h0;go_enter Tryz.func57, Tryz.ntmps57;go_wp2_with fail
 go_loopw [7] (fun iv wx => ∃ (k x : Nat), iv = .int .i64 k ∧ k ≤ 8 ∧ Hid (R = drawN (8 - k) x m.st.T) ∧ Hid (KeepP wx B kb db jb sb mb f D sl Fd { m with drawn := x } d) ∧ Hid (Fr (· = kb) w wx)) (fun iv _ => 8 - (intOf iv).toNat)
 case atStart => exact ⟨0, m.drawn, rfl, Nat.zero_le _, HR.out, HP.out, Fr.refl _ _⟩
 case round =>
  obtain ⟨k, x, rfl, hk, HRR, HPP, HFF⟩ := hrel;by_cases hlt : k < 8
  ·have c3 := Blk.cell HPP.out.blk 3;have f3 := Blk.frozen HPP.out.blk 3;simp only [kepA, gT, gZ, gS] at c3;have HX : Hid (x < 65537) := HPP.out.ok.drawn;go_wp2_with fail;refine (next_draw kb x _ c3 f3 HX.out).mono ?_;rintro e w1 ⟨rfl, hw1⟩;have hb1 := HPP.out.blk.set 3 (.int .i64 (drawX x : Int));rw [← hw1] at hb1;have hf1 : Fr (· = kb) wr w1 := by rw [hw1]; exact (Fr.refl (· = kb) wr).setCell ⟨kb, 3, none⟩ (fun _ => rfl) _
   have HP1 : Hid (KeepP w1 B kb db jb sb mb f D sl Fd { m with drawn := drawX x } d) := HPP.out.cell hf1 hb1 rfl rfl rfl rfl rfl (HPP.out.ok.redrawn (drawX_lt x));have HF1 : Hid (Fr (· = kb) w w1) := HFF.out.trans hf1 (fun _ _ h => h);have HRN : Hid (R = if (m.st.T (drawX x % 4096)).isNone then (some (drawX x % 4096), drawX x) else drawN (8 - (k + 1)) (drawX x) m.st.T) := by
    show _ = _;rw [HRR.out, show 8 - k = (8 - (k + 1)) + 1 by omega, drawN_succ]
   clear hb1 hf1 hw1 c3 f3 HRR HPP HFF;have hid : drawX x % 4096 < 4096 := Nat.mod_lt _ (by decide);generalize drawX x = y at *
   generalize hidd : y % 4096 = id at *
   have c2 := Blk.cell HP1.out.blk 2;simp only [kepA, gT, gZ, gS] at c2;go_wp2_with fail;refine (find_any sb m.st.T mb f D sl id _ HP1.out.tab (by omega)).mono ?_;rintro e w2 ⟨rfl, hb2⟩;obtain ⟨a, b, c, dd, s, hfv, hs, -⟩ := found_shape HP1.out.tab id;have hfv : foundV m.st.T sl id = _ := hfv;rw [hfv];have HP2 : Hid (KeepP w2 B kb db jb sb mb f D sl Fd { m with drawn := y } d) := HP1.out.below hb2;have HF2 : Hid (Fr (· = kb) w w2) := HF1.out.trans (Fr.of_below (S := fun _ => False) hb2) (fun _ _ h => h.elim);clear hb2 hfv c2 HP1 HF1;have hsome : ({ m with drawn := y } : Kp).st.T id = m.st.T id := rfl;rw [hsome];clear hsome;have HNX : Hid (k + 1 ≤ 8) := hlt;by_cases hn : (m.st.T id).isNone = true
   ·have hs0 : (m.st.T id).isSome = false := by rw [Option.isNone_iff_eq_none.1 hn]; rfl
    have HRR : Hid (R = (some id, y)) := by
     show _ = _;rw [HRN.out, if_pos hn]
    rw [hs0];clear hn hs0 HRN;rcases hs with rfl | ⟨g0, n0, cap0, rfl⟩
    all_goals
     go_wp2_with fail;refine bodyPost_ret (v := .tuple #[.int .i64 id, .int .i64 0]) (by simp [results, Tryz.results57, go_sem]) rfl ?_;rw [HD.out, HRR.out];refine ⟨rfl, KTo.then_below (w1 := w2) ?_ ((Below.refl _ w2).alloc (Nat.le_refl _) _)⟩;exact ⟨F, ⟨db, jb, sb, mb, f, D, sl, Fd, d, HP2.out, HF.out⟩, HF2.out.mono (fun b _ e => (HF.out b).2 (Or.inl e)), fun _ h => Or.inl h⟩
   ·have hs0 : (m.st.T id).isSome = true := by
     cases hx : m.st.T id with
     | none => rw [hx] at hn; exact absurd rfl hn
     | some x => rfl
    have HRR : Hid (R = drawN (8 - (k + 1)) y m.st.T) := by
     show _ = _;rw [HRN.out, if_neg hn]
    rw [hs0];clear hn hs0 HRN;rcases hs with rfl | ⟨g0, n0, cap0, rfl⟩
    all_goals
     go_wp2_with fail
     go_round
     case rel => exact ⟨k + 1, y, by go_num, HNX.out, HRR.out, HP2.out.below ((Below.refl _ w2).alloc (Nat.le_refl _) _), HF2.out.trans ((Fr.refl (fun _ => False) w2).alloc _) (fun _ _ h => h.elim)⟩
     case measure => simp [intOf]; omega
  ·have hk8 : k = 8 := by omega
   subst hk8;go_wp2_with fail;refine bodyPost_ret (v := .tuple #[.int .i64 0, .int .i64 8]) (by simp [results, Tryz.results57, go_sem]) rfl ?_;rw [HD.out, HRR.out];exact ⟨rfl, F, ⟨db, jb, sb, mb, f, D, sl, Fd, d, HPP.out, HF.out⟩, HFF.out.mono (fun b _ e => (HF.out b).2 (Or.inl e)), fun _ h => Or.inl h⟩
end Go.Proofs.YtmnajomkfnkmeaaGreatDoor
