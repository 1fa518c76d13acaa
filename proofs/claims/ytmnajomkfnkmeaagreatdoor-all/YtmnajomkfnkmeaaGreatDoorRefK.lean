import Derived.Test.YtmnajomkfnkmeaaGreatDoorRefS
import Derived.Deep.RegionWith
import Derived.BigQuiet
import Derived.Deep.DeepCutAuto
import Derived.Deep.RegionHeld3
set_option maxRecDepth 20000
set_option maxHeartbeats 4000000
namespace Go.Proofs.YtmnajomkfnkmeaaGreatDoor
open Go.RowKit
attribute [local go_sem] ofL_size
def wrV (x : Nat × Bs) : List Value := [.int .i64 x.1, .string (ofL x.2)]
theorem wrV_length (x : Nat × Bs) : (wrV x).length = 2 := rfl
abbrev WYO (w : World) (s : Value) (l : List (Nat × Bs)) : Prop := Own w 145 2 wrV s l
def halfS (n : Nat) : Nat := (n / 32 - 2) / 2
theorem halfS_N (n : Nat) : halfN n = 32 * halfS n := rfl
def rkA (m : Kp) (seed cn : Int) (wv : Value) (tb : Nat) : Array Value :=
 #[.string (ofL m.secret), .int .i64 seed, .int .i64 m.idle, .int .i64 m.abs, .int .i64 cn, .int .i64 m.now, .int .i64 m.drawn, .string (ofL m.disk), wv, .int .i64 m.fuse, .bool m.down, .int .i64 (halfS m.disk.length), .int .i64 m.st.gen, .int .i64 m.st.reg, .int .i64 m.st.slot, .int .i64 m.st.endp, .int .i64 m.st.next, .slice (some ⟨tb, 0, none⟩) 4096 4096]
structure Bnd (m : Kp) : Prop where
 wf : m.st.T.wf
 secret : m.secret.length ≤ 1000
 idle : m.idle ≤ 1000000000
 abs : m.abs ≤ 1000000000
 now : m.now ≤ 1000000000
 drawn : m.drawn < 65537
 size : okSize m.disk.length
 gen : m.st.gen < 4294967296
 reg : m.st.reg ≤ 1
 slot : m.st.slot ≤ 1
 endp : m.st.endp ≤ 6400
 next : m.st.next ≤ 100000
 fuse : (m.fuse : Int) ≤ 9223372036854775807
 few : m.way.length ≤ 1000
structure DKP (w : World) (kb : Nat) (seed cn : Int) (wv : Value) (tb : Nat) (f : RF) (m : Kp) : Prop where
 blk : Blk w kb (rkA m seed cn wv tb) 131
 tab : RT w tb m.st.T f
 way : WYO w wv m.way
 kt : ¬ rfoot tb f kb
 wk : ∀ b, wv.ownBlock = some b → b ≠ kb ∧ ¬ rfoot tb f b
 bnd : Bnd m
def rkfoot (kb tb : Nat) (f : RF) (wv : Value) (b : Nat) : Prop := b = kb ∨ rfoot tb f b ∨ wv.ownBlock = some b
theorem DKP.foot {w : World} {kb : Nat} {seed cn : Int} {wv : Value} {tb : Nat} {f : RF} {m : Kp} (h : DKP w kb seed cn wv tb f m) {b : Nat} (hb : rkfoot kb tb f wv b) : b < w.heap.size := by
 rcases hb with e | e | e
 ·rw [e]; exact h.blk.lt
 ·exact h.tab.foot e
 ·exact h.way.lt e
theorem DKP.kept {S : Nat → Prop} {w w' : World} {kb : Nat} {seed cn : Int} {wv : Value} {tb : Nat} {f : RF} {m : Kp} (h : DKP w kb seed cn wv tb f m) (hf : Fr S w w') (hn : ∀ b, rkfoot kb tb f wv b → ¬ S b) : DKP w' kb seed cn wv tb f m :=
 ⟨h.blk.kept hf (hn kb (Or.inl rfl)), h.tab.kept hf (fun b hb => hn b (Or.inr (Or.inl hb))), h.way.kept hf (fun b hb => hn b (Or.inr (Or.inr hb))), h.kt, h.wk, h.bnd⟩
def DK (w : World) (kb : Nat) (F : Nat → Prop) (m : Kp) : Prop := ∃ seed cn wv tb f, DKP w kb seed cn wv tb f m ∧ ∀ b, F b ↔ rkfoot kb tb f wv b
theorem DK.foot {w : World} {kb : Nat} {F : Nat → Prop} {m : Kp} (h : DK w kb F m) {b : Nat} (hb : F b) : b < w.heap.size := by
 obtain ⟨_, _, _, _, _, hp, hF⟩ := h;exact hp.foot ((hF b).1 hb)
theorem DK.kept {S : Nat → Prop} {w w' : World} {kb : Nat} {F : Nat → Prop} {m : Kp} (h : DK w kb F m) (hf : Fr S w w') (hn : ∀ b, F b → ¬ S b) : DK w' kb F m := by
 obtain ⟨seed, cn, wv, tb, f, hp, hF⟩ := h;exact ⟨seed, cn, wv, tb, f, hp.kept hf (fun b hb => hn b ((hF b).2 hb)), hF⟩
theorem DK.below {w w' : World} {kb : Nat} {F : Nat → Prop} {m : Kp} (h : DK w kb F m) (hb : Below w.heap.size w w') : DK w' kb F m := h.kept (S := fun _ => False) (Fr.of_below hb) (fun _ _ h => h)
def DKTo (w : World) (kb : Nat) (F : Nat → Prop) (m' : Kp) (w' : World) : Prop := ∃ F', DK w' kb F' m' ∧ Fr F w w' ∧ ∀ b, F' b → F b ∨ w.heap.size ≤ b
theorem DKTo.same {w : World} {kb : Nat} {F : Nat → Prop} {m : Kp} (h : DK w kb F m) : DKTo w kb F m w := ⟨F, h, Fr.refl _ _, fun _ h => Or.inl h⟩
theorem DKTo.of_below {w w' : World} {kb : Nat} {F : Nat → Prop} {m : Kp} (h : DK w kb F m) (hb : Below w.heap.size w w') : DKTo w kb F m w' := ⟨F, h.below hb, Fr.of_below hb, fun _ h => Or.inl h⟩
theorem DKTo.trans {w w1 w2 : World} {kb : Nat} {F F1 : Nat → Prop} {m' : Kp} (hf : Fr F w w1) (hn : ∀ b, F1 b → F b ∨ w.heap.size ≤ b) (h : DKTo w1 kb F1 m' w2) : DKTo w kb F m' w2 := by
 obtain ⟨F2, ha, hf2, hn2⟩ := h;refine ⟨F2, ha, hf.trans hf2 (fun i hi hs => ?_), fun b hb => ?_⟩
 ·rcases hn i hs with h | h
  ·exact h
  ·omega
 ·rcases hn2 b hb with h | h
  ·exact hn b h
  ·exact Or.inr (Nat.le_trans hf.size h)
theorem DKTo.then {w w1 w2 : World} {kb : Nat} {F : Nat → Prop} {m1 m2 : Kp} (h : DKTo w kb F m1 w1) (hs : ∀ F1, DK w1 kb F1 m1 → DKTo w1 kb F1 m2 w2) : DKTo w kb F m2 w2 := by
 obtain ⟨F1, ha, hf, hn⟩ := h;exact DKTo.trans hf hn (hs F1 ha)
theorem DKP.turned {w w' : World} {kb : Nat} {seed cn : Int} {wv : Value} {tb : Nat} {f : RF} {m m' : Kp} (h : DKP w kb seed cn wv tb f m) (hf : Fr (fun b => b = kb) w w') (hb : Blk w' kb (rkA m' seed cn wv tb) 131) (ht : m'.st.T = m.st.T) (hw : m'.way = m.way) (ho : Bnd m') : DKP w' kb seed cn wv tb f m' :=
 ⟨hb, by rw [ht]; exact h.tab.kept hf (fun b hb e => h.kt (e ▸ hb)), by rw [hw]; exact h.way.kept hf (fun b hb e => (h.wk b hb).1 e), h.kt, h.wk, ho⟩
theorem DKP.to {w w' : World} {kb : Nat} {seed cn : Int} {wv : Value} {tb : Nat} {f : RF} {m' : Kp} {F : Nat → Prop} (hF : ∀ b, F b ↔ rkfoot kb tb f wv b) (hf : Fr (fun b => b = kb) w w') (h : DKP w' kb seed cn wv tb f m') : DKTo w kb F m' w' :=
 ⟨F, ⟨seed, cn, wv, tb, f, h, hF⟩, hf.mono (fun b _ e => (hF b).2 (Or.inl e)), fun _ h => Or.inl h⟩
theorem din_any (n lo hi : Int) (w : World) :
  Calls Tryz.prog 77 #[.int .i64 n, .int .i64 lo, .int .i64 hi] w fun e w' => e = .returned (.bool (decide (lo ≤ n ∧ n ≤ hi))) ∧ w' = w := by
 obtain ⟨V, hV⟩ : ∃ V, V = decide (lo ≤ n ∧ n ≤ hi) := ⟨_, rfl⟩;rw [← hV];by_cases h1 : lo ≤ n
 ·by_cases h2 : n ≤ hi
  ·have HV : Hid (V = true) := by rw [hV]; exact decide_eq_true ⟨h1, h2⟩
   clear hV;go_enter Tryz.func77, Tryz.ntmps77;go_wp2_with fail;go_ret;exact ⟨by rw [HV.out]; rfl, rfl⟩
  ·have HV : Hid (V = false) := by rw [hV]; exact decide_eq_false (fun h => h2 h.2)
   clear hV;go_enter Tryz.func77, Tryz.ntmps77;go_wp2_with fail;go_ret;exact ⟨by rw [HV.out]; rfl, rfl⟩
 ·have HV : Hid (V = false) := by rw [hV]; exact decide_eq_false (fun h => h1 h.1)
  clear hV;go_enter Tryz.func77, Tryz.ntmps77;go_wp2_with fail;go_ret;exact ⟨by rw [HV.out]; rfl, rfl⟩
theorem dklive_any (kb : Nat) (F : Nat → Prop) (m : Kp) (w : World) (h : DK w kb F m) :
  Calls Tryz.prog 44 #[.pointer (some ⟨kb, 0, none⟩)] w fun e w' => e = .returned (.tuple #[.int .i64 m.live.1, .int .i64 m.live.2]) ∧ w' = w := by
 obtain ⟨seed, cn, wv, tb, f, hp, hF⟩ := h;have c10 := hp.blk.cell 10;have c17 := hp.blk.cell 17;simp only [rkA, gT, gZ, gS] at c10 c17;have HLV : Hid (Calls _ _ _ _ _) := rlive_any tb m.st.T f w hp.tab;obtain ⟨V, hV⟩ : ∃ V, V = m.live := ⟨_, rfl⟩;rw [← hV];cases hd : m.down with
 | true =>
  have HV : Hid (V = (0, 4)) := by rw [hV]; show _ = _; unfold Kp.live; rw [hd]; rfl
  rw [hd] at c10;clear hV hp hF hd;go_enter Tryz.func44, Tryz.ntmps44;go_wp2_with fail;go_ret2;exact ⟨by rw [HV.out]; rfl, rfl⟩
 | false =>
  have HV : Hid (V = (m.st.T.live, 0)) := by rw [hV]; show _ = _; unfold Kp.live; rw [hd]; rfl
  rw [hd] at c10;clear hV hp hF hd;generalize m.st.T.live = lv at *
  go_enter Tryz.func44, Tryz.ntmps44;go_wp2_with fail;refine HLV.out.mono ?_;rintro e w' ⟨rfl, hw'⟩;subst w';go_wp2_with fail;go_ret2;exact ⟨by rw [HV.out]; rfl, rfl⟩
theorem fr_cell {w : World} {kb : Nat} (i : Nat) (v : Value) : Fr (fun b => b = kb) w (w.setCell ⟨kb, i, none⟩ v) := (Fr.refl (fun b => b = kb) w).setCell ⟨kb, i, none⟩ (fun _ => rfl) v
theorem Bnd.with_now {m : Kp} (h : Bnd m) (n : Nat) (hn : n ≤ 1000000000) : Bnd { m with now := n } := ⟨h.wf, h.secret, h.idle, h.abs, hn, h.drawn, h.size, h.gen, h.reg, h.slot, h.endp, h.next, h.fuse, h.few⟩
theorem Bnd.with_fuse {m : Kp} (h : Bnd m) (n : Nat) (d : Bool) (hn : (n : Int) ≤ 9223372036854775807) : Bnd { m with fuse := n, down := d } := ⟨h.wf, h.secret, h.idle, h.abs, h.now, h.drawn, h.size, h.gen, h.reg, h.slot, h.endp, h.next, hn, h.few⟩
theorem Bnd.with_drawn {m : Kp} (h : Bnd m) (n : Nat) (hn : n < 65537) : Bnd { m with drawn := n } := ⟨h.wf, h.secret, h.idle, h.abs, h.now, hn, h.size, h.gen, h.reg, h.slot, h.endp, h.next, h.fuse, h.few⟩
theorem dktick_any (kb : Nat) (F : Nat → Prop) (m : Kp) (n : Int) (w : World) (h : DK w kb F m) (hn : -9223372036854775808 ≤ n ∧ n ≤ 9223372036854775807) :
  Calls Tryz.prog 43 #[.pointer (some ⟨kb, 0, none⟩), .int .i64 n] w fun e w' => e = .returned (.int .i64 (m.tick n).1) ∧ DKTo w kb F (m.tick n).2 w' := by
 have HA : Hid (DK w kb F m) := h;obtain ⟨seed, cn, wv, tb, f, hp, hF⟩ := h;have HP : Hid (DKP w kb seed cn wv tb f m) := hp;have HF : Hid (∀ b, F b ↔ rkfoot kb tb f wv b) := hF;have c10 := hp.blk.cell 10;have c5 := hp.blk.cell 5;have f5 := hp.blk.frozen 5;simp only [rkA, gT, gZ, gS] at c10 c5;have hnow := hp.bnd.now;obtain ⟨V, hV⟩ : ∃ V, V = m.tick n := ⟨_, rfl⟩;rw [← hV];cases hd : m.down with
 | true =>
  have HV : Hid (V = (4, m)) := by rw [hV]; show _ = _; unfold Kp.tick; rw [hd]; rfl
  rw [hd] at c10;clear hV hp hF hd;go_enter Tryz.func43, Tryz.ntmps43;go_wp2_with fail;go_ret;exact ⟨by rw [HV.out]; rfl, by rw [HV.out]; exact DKTo.same HA.out⟩
 | false =>
  rw [hd] at c10;by_cases hbad : n < 0 ∨ 1000000000 < (m.now : Int) + n
  ·have HV : Hid (V = (1, m)) := by rw [hV]; show _ = _; unfold Kp.tick; rw [hd, if_neg (by decide), if_pos hbad]
   clear hV hp hF hd;generalize m.now = nw at *
   by_cases h0 : n < 0
   ·clear hbad;go_enter Tryz.func43, Tryz.ntmps43;go_wp2_with fail;go_ret;exact ⟨by rw [HV.out]; rfl, by rw [HV.out]; exact DKTo.same HA.out⟩
   ·have h1 : 1000000000 - n < (nw : Int) := by omega
    have hw1 : wrap64 (1000000000 - n) = 1000000000 - n := by unfold wrap64; omega
    clear hbad;go_enter Tryz.func43, Tryz.ntmps43;go_wp2_with fail;go_ret;exact ⟨by rw [HV.out]; rfl, by rw [HV.out]; exact DKTo.same HA.out⟩
  ·have HV : Hid (V = (0, { m with now := m.now + n.toNat })) := by rw [hV]; show _ = _; unfold Kp.tick; rw [hd, if_neg (by decide), if_neg hbad]
   obtain ⟨k, hk⟩ : ∃ k : Nat, n = k := ⟨n.toNat, by omega⟩;subst hk;have HE : Hid (DKTo w kb F { m with now := m.now + ((k : Nat) : Int).toNat } (w.setCell ⟨kb, 5, none⟩ (.int .i64 ((m.now : Int) + (k : Int))))) := by
    have hb := hp.blk.set 5 (.int .i64 ((m.now : Int) + (k : Int)));refine DKP.to hF (fr_cell 5 _) (hp.turned (fr_cell 5 _) ?_ rfl rfl (hp.bnd.with_now _ (by rw [Int.toNat_natCast]; omega)));have e : ((m.now + ((k : Nat) : Int).toNat : Nat) : Int) = (m.now : Int) + (k : Int) := by rw [Int.toNat_natCast]; omega
    unfold rkA at hb ⊢;simp only [e];exact hb
   clear hV hp hF hd;generalize m.now = nw at *
   go_enter Tryz.func43, Tryz.ntmps43;go_wp2_with fail;go_ret;exact ⟨by rw [HV.out]; rfl, by rw [HV.out]; exact HE.out⟩
theorem dkarm_any (kb : Nat) (F : Nat → Prop) (m : Kp) (n : Int) (w : World) (h : DK w kb F m) (hn : -9223372036854775808 ≤ n ∧ n ≤ 9223372036854775807) :
  Calls Tryz.prog 46 #[.pointer (some ⟨kb, 0, none⟩), .int .i64 n] w fun e w' => e = .returned (.tuple #[]) ∧ DKTo w kb F (m.arm n) w' := by
 have HA : Hid (DK w kb F m) := h;obtain ⟨seed, cn, wv, tb, f, hp, hF⟩ := h;have c10 := hp.blk.cell 10;have c9 := hp.blk.cell 9;have f9 := hp.blk.frozen 9;simp only [rkA, gT, gZ, gS] at c10 c9;cases hd : m.down with
 | true =>
  have HV : Hid (m.arm n = m) := by show _ = _; unfold Kp.arm; rw [hd]; rfl
  rw [hd] at c10;clear hp hF hd;go_enter Tryz.func46, Tryz.ntmps46;go_wp2_with fail;refine bodyPost_ret (v := .tuple #[]) (by simp [results, Tryz.results46, go_sem]) rfl ⟨rfl, ?_⟩;rw [HV.out]; exact DKTo.same HA.out
 | false =>
  have HV : Hid (m.arm n = { m with fuse := n.toNat }) := by show _ = _; unfold Kp.arm; rw [hd]; rfl
  rw [hd] at c10;by_cases h0 : 0 < n
  ·obtain ⟨k, hk⟩ : ∃ k : Nat, n = k := ⟨n.toNat, by omega⟩;subst hk;have HE : Hid (DKTo w kb F { m with fuse := ((k : Nat) : Int).toNat } ((w.setCell ⟨kb, 9, none⟩ (.int .i64 0)).setCell ⟨kb, 9, none⟩ (.int .i64 (k : Int)))) := by
    have hb := (hp.blk.set 9 (.int .i64 0)).set 9 (.int .i64 (k : Int));have hfr := (fr_cell (w := w) (kb := kb) 9 (.int .i64 0)).setCell ⟨kb, 9, none⟩ (fun _ => rfl) (.int .i64 (k : Int));refine DKP.to hF hfr (hp.turned hfr ?_ rfl rfl (hp.bnd.with_fuse _ m.down (by rw [Int.toNat_natCast]; exact hn.2)));rw [Int.toNat_natCast];exact hb
   clear hp hF hd;go_enter Tryz.func46, Tryz.ntmps46;go_wp2_with fail;go_end0;exact ⟨rfl, by rw [HV.out]; exact HE.out⟩
  ·have HE : Hid (DKTo w kb F { m with fuse := n.toNat } (w.setCell ⟨kb, 9, none⟩ (.int .i64 0))) := by
    have hb := hp.blk.set 9 (.int .i64 0);have e : n.toNat = 0 := by omega
    rw [e];exact DKP.to hF (fr_cell 9 _) (hp.turned (fr_cell 9 _) hb rfl rfl (hp.bnd.with_fuse 0 m.down (by decide)))
   clear hp hF hd;go_enter Tryz.func46, Tryz.ntmps46;go_wp2_with fail;go_end0;exact ⟨rfl, by rw [HV.out]; exact HE.out⟩
theorem Bnd.step {m : Kp} (h : Bnd m) : Bnd m.step.2 := by
 unfold Kp.step;split
 ·exact h
 ·exact h.with_fuse _ _ (by have := h.fuse; omega)
theorem dkstep_any (kb : Nat) (F : Nat → Prop) (m : Kp) (w : World) (h : DK w kb F m) :
  Calls Tryz.prog 142 #[.pointer (some ⟨kb, 0, none⟩)] w fun e w' => e = .returned (.bool m.step.1) ∧ DKTo w kb F m.step.2 w' := by
 have HA : Hid (DK w kb F m) := h;obtain ⟨seed, cn, wv, tb, f, hp, hF⟩ := h;have c10 := hp.blk.cell 10;have c9 := hp.blk.cell 9;have f9 := hp.blk.frozen 9;have f10 := hp.blk.frozen 10;simp only [rkA, gT, gZ, gS] at c10 c9;have hfz := hp.bnd.fuse;have hbs := hp.bnd.step;obtain ⟨V, hV⟩ : ∃ V, V = m.step := ⟨_, rfl⟩;rw [← hV] at hbs ⊢;by_cases h0 : m.fuse = 0
 ·have HV : Hid (V = (!m.down, m)) := by rw [hV]; show _ = _; unfold Kp.step; rw [if_pos h0]
  rw [h0] at c9;clear hV hp hF h0 hfz hbs;generalize m.down = dn at *
  go_enter Tryz.func142, Tryz.ntmps142;go_wp2_with fail;go_ret;exact ⟨by rw [HV.out]; rfl, by rw [HV.out]; exact DKTo.same HA.out⟩
 ·have HV : Hid (V = (decide (m.fuse ≠ 1), { m with fuse := m.fuse - 1, down := decide (m.fuse = 1) })) := by rw [hV]; show _ = _; unfold Kp.step; rw [if_neg h0]
  rw [HV.out] at hbs;obtain ⟨k, hk⟩ : ∃ k, m.fuse = k + 1 := ⟨m.fuse - 1, by omega⟩;have HE : Hid (DKTo w kb F V.2 ((w.setCell ⟨kb, 9, none⟩ (.int .i64 (k : Int))).setCell ⟨kb, 10, none⟩ (.bool ((k : Int) == 0)))) := by
   have hb := (hp.blk.set 9 (.int .i64 (k : Int))).set 10 (.bool ((k : Int) == 0));have hfr := (fr_cell (w := w) (kb := kb) 9 (.int .i64 (k : Int))).setCell ⟨kb, 10, none⟩ (fun _ => rfl) (.bool ((k : Int) == 0));have hds : DKTo w kb F _ _ := DKP.to hF hfr (hp.turned hfr (m' := { m with fuse := m.fuse - 1, down := decide (m.fuse = 1) }) ?_ rfl rfl hbs)
   ·rw [HV.out]; exact hds
   ·have e1 : m.fuse - 1 = k := by omega
    have e2 : decide (m.fuse = 1) = ((k : Int) == 0) := by
     rw [hk, Bool.eq_iff_iff, decide_eq_true_iff, beq_iff_eq]; omega
    rw [e1, e2];exact hb
  have HV1 : Hid (V.1 = !((k : Int) == 0)) := by
   rw [HV.out];show decide (m.fuse ≠ 1) = _;rw [hk];by_cases hk0 : k = 0
   ·subst hk0; rfl
   ·rw [decide_eq_true (by omega), show ((k : Int) == 0) = false by rw [Bool.eq_false_iff]; intro e; rw [beq_iff_eq] at e; omega]; rfl
  rw [hk] at c9 hfz;clear hV hp hF h0 hbs HV hk;go_enter Tryz.func142, Tryz.ntmps142;go_wp2_with fail;go_ret;exact ⟨by rw [HV1.out]; rfl, HE.out⟩
end Go.Proofs.YtmnajomkfnkmeaaGreatDoor
namespace Go.Proofs.YtmnajomkfnkmeaaGreatDoor
open Go.RowKit
attribute [local go_sem] ofL_size
theorem dlaid_any (s r : Bs) (p : Nat) (w : World) (h : p + r.length ≤ s.length) (hl : s.length ≤ 1000000) :
  Calls Tryz.prog 94 #[.string (ofL s), .int .i64 (p : Int), .string (ofL r)] w fun e w' => e = .returned (.string (ofL (laidB s p r))) ∧ Below w.heap.size w w' := by
 have x1 : (ofL s).extract 0 p = ofL (s.take p) := by rw [extract_ofL]; simp
 have x2 : (ofL s).extract (p + r.length) s.length = ofL (s.drop (p + r.length)) := by
  rw [extract_ofL, List.take_of_length_le (by rw [List.length_drop]; exact Nat.le_refl _)]
 have s1 : (s.take p).length = p := by rw [List.length_take]; omega
 have s2 : (s.drop (p + r.length)).length = s.length - (p + r.length) := List.length_drop;have HE : Hid (ofL (s.take p) ++ ofL r ++ ofL (s.drop (p + r.length)) = ofL (laidB s p r)) := by
  show _ = _;unfold laidB;rw [ofL_append, ofL_append]
 generalize s.take p = s0 at *
 generalize s.drop (p + r.length) = s3 at *
 generalize laidB s p r = V at *
 have b1 : (0 : Int) ≤ (p : Int) := by omega
 have b2 : (p : Int) ≤ (s.length : Int) := by omega
 have b3 : (0 : Int) ≤ (p : Int) + (r.length : Int) := by omega
 have b4 : (p : Int) + (r.length : Int) ≤ (s.length : Int) := by omega
 have e1 : IntKind.i64.wrap ((p : Int) + (r.length : Int)) = (p : Int) + (r.length : Int) := by rw [IntKind.wrap_i64]; omega
 have n1 : ((p : Int) + (r.length : Int)).toNat = p + r.length := by omega
 have p1 : ¬ (9223372036854775807 < s0.length + r.length) := by omega
 have p2 : ¬ (9223372036854775807 < s0.length + r.length + s3.length) := by omega
 clear s1 s2 h hl;go_enter Tryz.func94, Tryz.ntmps94;go_wp2_with fail
 go_quiet (fail)
 go_wp2;go_ret;exact ⟨by rw [← HE.out]; rfl, below_drewN (Below.refl _ _) _⟩
theorem dstart_any (kb : Nat) (F : Nat → Prop) (m : Kp) (r : Nat) (w : World) (h : DK w kb F m) (hr : r ≤ 1) :
  Calls Tryz.prog 79 #[.pointer (some ⟨kb, 0, none⟩), .int .i64 (r : Int)] w fun e w' => e = .returned (.int .i64 (regAt m.disk.length r : Nat)) ∧ w' = w := by
 obtain ⟨seed, cn, wv, tb, f, hp, hF⟩ := h;have c11 := hp.blk.cell 11;simp only [rkA, gT, gZ, gS] at c11;have hs := hp.bnd.size;unfold okSize at hs;have hh : halfS m.disk.length ≤ 100 := by unfold halfS; omega
 have HE : Hid ((regAt m.disk.length r : Nat) = 64 + 32 * halfS m.disk.length * r) := rfl;generalize halfS m.disk.length = hf at *
 generalize regAt m.disk.length r = V at *
 clear hp hF hs;obtain rfl | rfl : r = 0 ∨ r = 1 := by omega
 ·go_enter Tryz.func79, Tryz.ntmps79;go_wp2_with fail;go_ret;exact ⟨by rw [HE.out]; rfl, rfl⟩
 ·go_enter Tryz.func79, Tryz.ntmps79;go_wp2_with fail;go_ret;refine ⟨?_, rfl⟩;rw [HE.out, Nat.mul_one];show _ = Ending.returned (.int .i64 ((64 + 32 * hf : Nat) : Int));rw [show ((64 + 32 * hf : Nat) : Int) = 64 + 32 * (hf : Int) by omega]; rfl
theorem dkdraw_any (kb : Nat) (F : Nat → Prop) (m : Kp) (w : World) (h : DK w kb F m) :
  Calls Tryz.prog 85 #[.pointer (some ⟨kb, 0, none⟩)] w fun e w' => e = .returned (.int .i64 (idI m.draw.1)) ∧ DKTo w kb F m.draw.2 w' := by
 have HA : Hid (DK w kb F m) := h;have hdr : m.drawn < 65537 := by
  obtain ⟨seed, cn, wv, tb, f, hp, hF⟩ := h;exact hp.bnd.drawn
 obtain ⟨R, hR⟩ : ∃ R, R = drawN 8 m.drawn m.st.T := ⟨_, rfl⟩;have HV : Hid (m.draw = (R.1, { m with drawn := R.2 })) := by rw [hR]; exact rfl
 have HR0 : Hid (drawN (8 - 0) m.drawn m.st.T = R) := by rw [hR]; exact rfl
 obtain ⟨V, hV⟩ : ∃ V, V = m.draw := ⟨_, rfl⟩;rw [← hV] at HV ⊢;clear hR hV h;go_enter Tryz.func85, Tryz.ntmps85;go_wp2_with fail
 go_loopw [3] (fun iv wx => ∃ (i x : Nat), i ≤ 8 ∧ x < 65537 ∧ iv = .int .i64 i ∧ Hid (drawN (8 - i) x m.st.T = R) ∧ Hid (DKTo w kb F { m with drawn := x } wx)) (fun iv _ => 8 - (intOf iv).toNat)
 case atStart => exact ⟨0, m.drawn, by omega, hdr, rfl, HR0, DKTo.same HA.out⟩
 case round =>
  obtain ⟨i, x, hi, hx, rfl, HR, HD⟩ := hrel;by_cases hlt : i < 8
  ·obtain ⟨F1, ⟨seed, cn, wv, tb, f, hp, hF⟩, hf1, hn1⟩ := HD.out;have hst := HR.out;rw [show 8 - i = (8 - (i + 1)) + 1 by omega, drawN_step] at hst;obtain ⟨y, hy⟩ : ∃ y, y = drawX x := ⟨_, rfl⟩;rw [← hy] at hst;have hyl : y < 65537 := by rw [hy]; exact drawX_lt x
   have q1 : ((75 * (x : Int)) + 74).tmod 65537 = (y : Int) := by rw [hy]; exact rfl
   have hbk := hp.blk.set 6 (.int .i64 (y : Int));have hp1 : DKP _ kb seed cn wv tb f { m with drawn := y } := hp.turned (fr_cell 6 (.int .i64 (y : Int))) hbk rfl rfl (hp.bnd.with_drawn y hyl);have HD1 : Hid (DKTo w kb F { m with drawn := y } (wr.setCell ⟨kb, 6, none⟩ (.int .i64 (y : Int)))) := DKTo.trans hf1 hn1 (DKP.to hF (fr_cell 6 _) hp1);have c6 := hp.blk.cell 6;have f6 := hp.blk.frozen 6;have d6 := hp1.blk.cell 6;have d17 := hp1.blk.cell 17;simp only [rkA, gT, gZ, gS] at c6 d6 d17;have hlv := hp1.tab.live (i := y % 4096) (Nat.mod_lt _ (by decide));have q2 : (y : Int).tmod 4096 = ((y % 4096 : Nat) : Int) := rfl;have hy4 : y % 4096 < 4096 := Nat.mod_lt _ (by decide);change (wr.setCell ⟨kb, 6, none⟩ (.int .i64 (y : Int))).cell? ⟨tb, y % 4096 * 6, none⟩ = some (.bool (m.st.T (y % 4096)).isSome) at hlv;clear hp hp1 hF hf1 hn1 hbk hy;cases ht : m.st.T (y % 4096) with
   | none =>
    rw [ht] at hst hlv;have hst : (some (y % 4096), y) = R := hst;have HVV : Hid (V = (some (y % 4096), { m with drawn := y })) := by rw [HV.out, ← hst]; exact rfl
    change (wr.setCell ⟨kb, 6, none⟩ (.int .i64 (y : Int))).cell? ⟨tb, y % 4096 * 6, none⟩ = some (.bool false) at hlv;clear hst ht;generalize y % 4096 = z at *
    go_upto_region 5 with fail
    generalize wr.setCell ⟨kb, 6, none⟩ (.int .i64 (y : Int)) = w1 at *
    go_region
    have HD2 : Hid (DKTo w kb F { m with drawn := y } w1.drew) := HD1.out.then (fun F1 h1 => DKTo.of_below h1 (Below.refl _ _).drew);go_wp2_with fail;go_ret;exact ⟨by rw [HVV.out]; rfl, by rw [HVV.out]; exact HD2.out⟩
   | some s =>
    rw [ht] at hst hlv;have HST : Hid (drawN (8 - (i + 1)) y m.st.T = R) := hst;change (wr.setCell ⟨kb, 6, none⟩ (.int .i64 (y : Int))).cell? ⟨tb, y % 4096 * 6, none⟩ = some (.bool true) at hlv;clear hst ht;generalize y % 4096 = z at *
    go_upto_region 5 with fail
    generalize wr.setCell ⟨kb, 6, none⟩ (.int .i64 (y : Int)) = w1 at *
    go_region
    have HD2 : Hid (DKTo w kb F { m with drawn := y } w1.drew) := HD1.out.then (fun F1 h1 => DKTo.of_below h1 (Below.refl _ _).drew);go_wp2_with fail;go_roundw
    case rel => exact ⟨i + 1, y, by omega, hyl, by go_num, HST, HD2⟩
    case measure => simp [intOf]; omega
  ·have hie : i = 8 := by omega
   subst hie;have hst : (none, x) = R := HR.out;have HVV : Hid (V = (none, { m with drawn := x })) := by rw [HV.out, ← hst]; exact rfl
   clear hst;go_wp2_with fail;go_ret;exact ⟨by rw [HVV.out]; rfl, by rw [HVV.out]; exact HD.out⟩
end Go.Proofs.YtmnajomkfnkmeaaGreatDoor
namespace Go.Proofs.YtmnajomkfnkmeaaGreatDoor
open Go.RowKit
attribute [local go_sem] ofL_size
def firV : Option Bs → Value
 | some p => .tuple #[.string (ofL p), .bool true]
 | none => .tuple #[.string ⟨#[]⟩, .bool false]
theorem dfirst_any (s : Bs) (g k : Nat) (w : World) (hl : s.length ≤ 1000000) (hg : g < 4294967296) (hk : k ≤ 1000000) :
  Calls Tryz.prog 80 #[.string (ofL s), .int .i64 (g : Int), .int .i64 (k : Int)] w fun e w' => e = .returned (firV (firstB g k s)) ∧ Below w.heap.size w w' := by
 obtain ⟨V, hV⟩ : ∃ V, V = firstB g k s := ⟨_, rfl⟩;have HV : Hid (V = if numL (s.take 2) + 10 ≤ s.length ∧ s.take (numL (s.take 2) + 10) = recB g k ((s.drop 8).take (numL (s.take 2))) then some ((s.drop 8).take (numL (s.take 2))) else none) := hV;rw [← hV];clear hV;by_cases h10 : s.length < 10
 ·have HN : Hid (V = none) := by rw [HV.out, if_neg (by omega)]; exact rfl
  go_enter Tryz.func80, Tryz.ntmps80;go_wp2_with fail;go_ret2;exact ⟨by rw [HN.out]; rfl, Below.refl _ _⟩
 ·have x1 : (ofL s).extract 0 2 = ofL (s.take 2) := by rw [extract_ofL]; simp
  have HNU : Hid (∀ w', Calls Tryz.prog 131 #[.string (ofL (s.take 2))] w' fun e w'' => e = .returned (.int .i64 (numL (s.take 2))) ∧ w'' = w') := fun w' => by
   have := number_any (ofL (s.take 2)) w' (by rw [ofL_size, List.length_take]; omega)
   rwa [toL_ofL] at this
  have hn : numL (s.take 2) < 65536 := by
   have := numL_lt (s.take 2)
   rwa [List.length_take, show min 2 s.length = 2 by omega] at this
  generalize numL (s.take 2) = n at *
  generalize s.take 2 = s2 at *
  go_enter Tryz.func80, Tryz.ntmps80;go_wp2_with fail;refine (HNU.out _).mono ?_;rintro e w' ⟨rfl, hw'⟩;subst w';clear HNU x1;by_cases hshort : s.length < n + 10
  ·have HN : Hid (V = none) := by rw [HV.out, if_neg (by omega)]; exact rfl
   have e1 : IntKind.i64.wrap ((n : Int) + 10) = (n : Int) + 10 := by rw [IntKind.wrap_i64]; omega
   have b1 : (s.length : Int) < (n : Int) + 10 := by omega
   go_upto_region 4 with fail
   clear hshort
   go_cut [33] (fun cv wx => cv = .bool true ∧ Hid (Below w.heap.size w wx))
   case first =>
    go_quiet (fail)
    go_wp2_with fail;go_meet
    case rel => exact ⟨rfl, below_drewN (Below.refl _ _) _⟩
   case rest =>
   obtain ⟨rfl, HB⟩ := hcut;go_wp2_with fail;go_ret2;exact ⟨by rw [HN.out]; rfl, HB.out⟩
  ·have x2 : (ofL s).extract 0 (n + 10) = ofL (s.take (n + 10)) := by rw [extract_ofL]; simp
   have x3 : (ofL s).extract 8 (n + 8) = ofL ((s.drop 8).take n) := by rw [extract_ofL, show n + 8 - 8 = n by omega]
   have HRC : Hid (∀ w', Calls Tryz.prog 90 #[.int .i64 (g : Int), .int .i64 (k : Int), .string (ofL ((s.drop 8).take n))] w' fun e w'' => e = .returned (.string (ofL (recB g k ((s.drop 8).take n)))) ∧ Below w'.heap.size w' w'') := fun w' => by
    have := refrecord_any (g : Int) (k : Int) (ofL ((s.drop 8).take n)) w' (by omega) (by omega) (by omega) (by omega) (by rw [ofL_size, List.length_take]; omega)
    rwa [recA_L] at this
   have hq := seqL (s.take (n + 10)) (recB g k ((s.drop 8).take n));have b0 : ¬ (s.length : Int) < (n : Int) + 10 := by omega
   have bD : decide ((s.length : Int) < (n : Int) + 10) = false := decide_eq_false b0;have b1 : (0 : Int) ≤ (n : Int) + 10 := by omega
   have b2 : (n : Int) + 10 ≤ (s.length : Int) := by omega
   have b3 : (8 : Int) ≤ (n : Int) + 8 := by omega
   have b4 : (n : Int) + 8 ≤ (s.length : Int) := by omega
   have b5 : (0 : Int) ≤ (n : Int) + 8 := by omega
   have e1 : IntKind.i64.wrap ((n : Int) + 10) = (n : Int) + 10 := by rw [IntKind.wrap_i64]; omega
   have e2 : IntKind.i64.wrap ((n : Int) + 8) = (n : Int) + 8 := by rw [IntKind.wrap_i64]; omega
   have n1 : ((n : Int) + 10).toNat = n + 10 := by omega
   have n2 : ((n : Int) + 8).toNat = n + 8 := by omega
   obtain ⟨B, hB⟩ : ∃ B : Bool, B = decide (s.take (n + 10) = recB g k ((s.drop 8).take n)) := ⟨_, rfl⟩;have HVB : Hid (V = if B then some ((s.drop 8).take n) else none) := by
    rw [HV.out, hB];by_cases hh : s.take (n + 10) = recB g k ((s.drop 8).take n)
    ·rw [if_pos ⟨by omega, hh⟩, decide_eq_true hh]; exact rfl
    ·rw [if_neg (fun x => hh x.2), decide_eq_false hh]; exact rfl
   rw [← hB] at hq;clear hB HV hshort;generalize recB g k ((s.drop 8).take n) = rb at *
   generalize (s.drop 8).take n = pl at *
   generalize s.take (n + 10) = t10 at *
   go_upto_region 4 with fail
   go_cut [33] (fun cv wx => cv = .bool (!B) ∧ Hid (Below w.heap.size w wx))
   case first =>
    have HB1 : Hid (Below w.heap.size w w) := Below.refl _ _
    go_region_held3 (fun w' => Below w.heap.size w w')
     (first
      | exact bstep (by assumption) (by assumption)
      | assumption
      | exact HB1.out
      | exact HB1.out.drew)
     (first
      | (go_at_call 90; refine (HRC.out _).mono ?_; rintro e w' ⟨rfl, hbN⟩))
    rename_i hHeld;go_wp2_with fail;go_meet
    case rel => exact ⟨rfl, hHeld⟩
   case rest =>
   obtain ⟨rfl, HB⟩ := hcut;clear HRC hq;cases B with
   | true =>
    go_wp2_with fail;go_ret2;exact ⟨by rw [HVB.out]; rfl, HB.out⟩
   | false =>
    go_wp2_with fail;go_ret2;exact ⟨by rw [HVB.out]; rfl, HB.out⟩
theorem dconf_any (c : Cfg) (w : World) (h : c.secret.length ≤ 9223372036854775000) :
  Calls Tryz.prog 76 #[cfgV c] w fun e w' => e = .returned (.bool c.ok) ∧ Below w.heap.size w w' := by
 have HV : Hid (c.ok = (decide (1 ≤ (c.secret.length : Int) ∧ (c.secret.length : Int) ≤ 16) && decide (0 ≤ c.seed ∧ c.seed ≤ 65536) && decide (1 ≤ c.idle ∧ c.idle ≤ 1000000000) && decide (1 ≤ c.abs ∧ c.abs ≤ 1000000000) && decide (0 ≤ c.now ∧ c.now ≤ 1000000000))) := by
  show _ = _;unfold Cfg.ok;rw [show decide (1 ≤ c.secret.length ∧ c.secret.length ≤ 16) = decide (1 ≤ (c.secret.length : Int) ∧ (c.secret.length : Int) ≤ 16) from by rw [decide_eq_decide]; omega]
 have H1 : Hid (∀ w', Calls _ _ _ w' _) := fun w' => din_any (c.secret.length : Int) 1 16 w';have H2 : Hid (∀ w', Calls _ _ _ w' _) := fun w' => din_any c.seed 0 65536 w';have H3 : Hid (∀ w', Calls _ _ _ w' _) := fun w' => din_any c.idle 1 1000000000 w';have H4 : Hid (∀ w', Calls _ _ _ w' _) := fun w' => din_any c.abs 1 1000000000 w';have H5 : Hid (∀ w', Calls _ _ _ w' _) := fun w' => din_any c.now 0 1000000000 w';generalize decide (1 ≤ (c.secret.length : Int) ∧ (c.secret.length : Int) ≤ 16) = d1 at *
 generalize decide (0 ≤ c.seed ∧ c.seed ≤ 65536) = d2 at *
 generalize decide (1 ≤ c.idle ∧ c.idle ≤ 1000000000) = d3 at *
 generalize decide (1 ≤ c.abs ∧ c.abs ≤ 1000000000) = d4 at *
 generalize decide (0 ≤ c.now ∧ c.now ≤ 1000000000) = d5 at *
 obtain ⟨V, hV⟩ : ∃ V, V = c.ok := ⟨_, rfl⟩;rw [← hV] at HV ⊢;clear hV;obtain ⟨sec, seed, idle, ab, now⟩ := c;have HBX : Hid (Below w.heap.size w (w.alloc (.cells #[.string (ofL sec), .int .i64 seed, .int .i64 idle, .int .i64 ab, .int .i64 now] 23))) := bA;unfold cfgV;go_enter Tryz.func76, Tryz.ntmps76;go_wp2_with fail;refine (H1.out _).mono ?_;rintro e w' ⟨rfl, hw'⟩;subst w';go_wp2_with fail;refine (H2.out _).mono ?_;rintro e w' ⟨rfl, hw'⟩;subst w';go_wp2_with fail;refine (H3.out _).mono ?_;rintro e w' ⟨rfl, hw'⟩;subst w';go_wp2_with fail;refine (H4.out _).mono ?_;rintro e w' ⟨rfl, hw'⟩;subst w';go_wp2_with fail;refine (H5.out _).mono ?_;rintro e w' ⟨rfl, hw'⟩;subst w';cases d1 <;> cases d2 <;> cases d3 <;> cases d4 <;> cases d5 <;> (go_wp2_with fail; go_ret; exact ⟨by rw [HV.out]; rfl, HBX.out⟩)
end Go.Proofs.YtmnajomkfnkmeaaGreatDoor
