import Derived.Test.YtmnajomkfnkmeaaGreatDoorRefI
import Derived.Test.YtmnajomkfnkmeaaGreatDoorRefK
import Derived.Deep.RegionWith
set_option maxRecDepth 100000
set_option maxHeartbeats 8000000
set_option linter.unusedSimpArgs false
namespace Go.Proofs.YtmnajomkfnkmeaaGreatDoor
open Go.RowKit
attribute [local go_sem] ofL_size
theorem drec_any (g k : Nat) (p : Bs) (w : World) (hg : g < 4294967296) (hk : k ≤ 1000000) (hp : p.length ≤ 1000000) :
  Calls Tryz.prog 90 #[.int .i64 (g : Int), .int .i64 (k : Int), .string (ofL p)] w fun e w' => e = .returned (.string (ofL (recB g k p))) ∧ Below w.heap.size w w' := by
 have := refrecord_any (g : Int) (k : Int) (ofL p) w (by omega) (by omega) (by omega) (by omega) (by rw [ofL_size]; omega)
 rwa [recA_L] at this
theorem kstep2 {w0 w1 w2 : World} {b i j : Nat} {u v : Value} (h : w1.cell? ⟨b, i, none⟩ = some u ∧ w1.cell? ⟨b, j, none⟩ = some v ∧ b < w1.heap.size ∧ Below w0.heap.size w0 w1) (hb : Below w1.heap.size w1 w2) :
  w2.cell? ⟨b, i, none⟩ = some u ∧ w2.cell? ⟨b, j, none⟩ = some v ∧ b < w2.heap.size ∧ Below w0.heap.size w0 w2 := by
 obtain ⟨h1, h2, h3, h4⟩ := h;refine ⟨?_, ?_, Nat.lt_of_lt_of_le h3 hb.size, bstep h4 hb⟩
 ·exact (hb.cell (p := ⟨b, i, none⟩) h3).trans h1
 ·exact (hb.cell (p := ⟨b, j, none⟩) h3).trans h2
theorem dkto_st {w w' : World} {kb : Nat} {F : Nat → Prop} {m : Kp} {st : St} (h : DKTo w kb F m w') (hst : Hid (m.st = st)) : w'.cell? ⟨kb, 13, none⟩ = some (.int .i64 (st.reg : Int)) ∧ w'.cell? ⟨kb, 15, none⟩ = some (.int .i64 (st.endp : Int)) ∧ kb < w'.heap.size := by
 obtain ⟨F1, ⟨seed, cn, wv, tb, f, hp, hF⟩, _⟩ := h;have c13 := hp.blk.cell 13;have c15 := hp.blk.cell 15;simp only [rkA, gT, gZ, gS] at c13 c15;rw [← hst.out];exact ⟨c13, c15, hp.blk.lt⟩
theorem DKP.did {w w1 : World} {kb : Nat} {seed cn : Int} {wv : Value} {tb : Nat} {f f' : RF} {m : Kp} {T' : Tab} (h : DKP w kb seed cn wv tb f m) (hr : RT w1 tb T' f') (hf : Fr (fun b => b = tb) w w1) (hn : ∀ b, rfoot tb f' b → rfoot tb f b ∨ w.heap.size ≤ b) (hw : T'.wf) :
  DKP w1 kb seed cn wv tb f' { m with st := { m.st with T := T' } } := by
 have hkt : kb ≠ tb := fun e => h.kt (Or.inl e);refine ⟨h.blk.kept hf hkt, hr, h.way.kept hf (fun b hb e => (h.wk b hb).2 (Or.inl e)), fun hb => ?_, fun b hb => ⟨(h.wk b hb).1, fun hx => ?_⟩, ⟨hw, h.bnd.secret, h.bnd.idle, h.bnd.abs, h.bnd.now, h.bnd.drawn, h.bnd.size, h.bnd.gen, h.bnd.reg, h.bnd.slot, h.bnd.endp, h.bnd.next, h.bnd.fuse, h.bnd.few⟩⟩
 ·rcases hn kb hb with e | e
  ·exact h.kt e
  ·have := h.blk.lt; omega
 ·rcases hn b hx with e | e
  ·exact (h.wk b hb).2 e
  ·have := h.way.lt hb; omega
theorem DKP.didTo {w w1 w2 : World} {kb : Nat} {seed cn : Int} {wv : Value} {tb : Nat} {f f' : RF} {F : Nat → Prop} {m' : Kp} (hF : ∀ b, F b ↔ rkfoot kb tb f wv b) (hf : Fr (fun b => b = tb) w w1) (hn : ∀ b, rfoot tb f' b → rfoot tb f b ∨ w.heap.size ≤ b) (h2 : DKP w2 kb seed cn wv tb f' m') (hf2 : Fr (fun b => b = kb) w1 w2) : DKTo w kb F m' w2 := by
 refine ⟨rkfoot kb tb f' wv, ⟨seed, cn, wv, tb, f', h2, fun _ => Iff.rfl⟩, (hf.mono (fun b _ e => (hF b).2 (Or.inr (Or.inl (Or.inl e))))).trans hf2 (fun b _ e => (hF b).2 (Or.inl e)), fun b hb => ?_⟩;rcases hb with e | e | e
 ·exact Or.inl ((hF b).2 (Or.inl e))
 ·rcases hn b e with e | e
  ·exact Or.inl ((hF b).2 (Or.inr (Or.inl e)))
  ·exact Or.inr e
 ·exact Or.inl ((hF b).2 (Or.inr (Or.inr e)))
theorem dkchange_any (kb : Nat) (F : Nat → Prop) (m : Kp) (c : Chg) (w : World) (h : DK w kb F m) (hk : MOK m) (hu : m.down = false) (hc : c.ok) (ha : m.st.T.allows c = true) :
  Calls Tryz.prog 86 #[.pointer (some ⟨kb, 0, none⟩), .string (ofL (chgB c))] w fun e w' => e = .returned (.int .i64 (m.change c).1) ∧ DKTo w kb F (m.change c).2 w' := by
 have HA : Hid (DK w kb F m) := h;have hg := hk.good hu;have hw0 := hg.way;obtain ⟨seed, cn, wv, tb, f, hp, hF⟩ := h;have hb := hg.holds.bounds;have hbd := hp.bnd;have hcl := chgB_length c hc;have htk : m.st.T.takes (chgB c) = some (m.st.T.does c) := takes_of hc ha;have HWF : Hid (m.st.T.does c).wf := does_wf hp.bnd.wf hc ha;have hra := regAt_le hp.bnd.size hb.2.2.1;have hhf := half_bounds hp.bnd.size;obtain ⟨R, hR⟩ : ∃ R, R = recB m.st.gen m.st.next (chgB c) := ⟨_, rfl⟩;have hRl : R.length = (chgB c).length + 10 := by rw [hR, recB_length]
 have HRC : Hid (∀ w', Calls Tryz.prog 90 #[.int .i64 (m.st.gen : Int), .int .i64 (m.st.next : Int), .string (ofL (chgB c))] w' fun e w'' => e = .returned (.string (ofL R)) ∧ Below w'.heap.size w' w'') := fun w' => by
  rw [hR]; exact drec_any _ _ _ w' hbd.gen (by have := hbd.next; omega) (by omega)
 obtain ⟨V, hV⟩ : ∃ V, V = m.change c := ⟨_, rfl⟩;obtain ⟨W, hW⟩ : ∃ W, W = m.writes (regAt m.disk.length m.st.reg + m.st.endp) R := ⟨_, rfl⟩;obtain ⟨B, hB⟩ : ∃ B, B = m.full c := ⟨_, rfl⟩;have HV : Hid (V = if B = true then (9, m) else if W.1 = true then (0, { W.2 with st := m.st.does c }) else (4, W.2)) := by rw [hV, hW, hR, hB]; exact rfl
 have hfull : B = (decide (halfN m.disk.length < m.st.endp + R.length) || decide (65535 < m.st.next)) := by rw [hB, hRl, ← Nat.add_assoc]; exact rfl
 have HST : Hid (∀ w' F', DK w' kb F' m → Calls Tryz.prog 79 #[.pointer (some ⟨kb, 0, none⟩), .int .i64 (m.st.reg : Int)] w' fun e w'' => e = .returned (.int .i64 (regAt m.disk.length m.st.reg : Nat)) ∧ w'' = w') := fun w' F' h' => dstart_any kb F' m m.st.reg w' h' hb.2.2.1;have HWR : Hid (B = false → ∀ w' F', DK w' kb F' m → Calls Tryz.prog 92 #[.pointer (some ⟨kb, 0, none⟩), .int .i64 (((regAt m.disk.length m.st.reg : Nat) : Int) + (m.st.endp : Int)), .string (ofL R)] w' fun e w'' => e = .returned (.bool W.1) ∧ DKTo w' kb F' W.2 w'') := fun hn w' F' h' => by
  rw [hfull, Bool.or_eq_false_iff, decide_eq_false_iff_not] at hn;have := dkwrites_any kb F' m (regAt m.disk.length m.st.reg + m.st.endp) R w' h' hw0 (by omega) (by omega);rw [← hW] at this
  rwa [show (((regAt m.disk.length m.st.reg + m.st.endp : Nat)) : Int) = ((regAt m.disk.length m.st.reg : Nat) : Int) + (m.st.endp : Int) by omega] at this
 have HWY : Hid (W.2.st = m.st) := by
  rw [hW];show _ = _;cases hy : (m.writes (regAt m.disk.length m.st.reg + m.st.endp) R).1 with
  | true => rw [writes_yes hu hy]
  | false => obtain ⟨qs, rs, _, _, e3⟩ := writes_no hu hw0 hy; rw [e3]
 have HBN : Hid (B = false → m.st.endp + R.length ≤ 6400 ∧ m.st.next ≤ 65535) := fun hn => by
  rw [hfull, Bool.or_eq_false_iff, decide_eq_false_iff_not, decide_eq_false_iff_not] at hn;exact ⟨by omega, by omega⟩
 have HTK : Hid (m.st.T.takes (chgB c) = some (m.st.T.does c)) := htk;have HCL : Hid ((chgB c).length ≤ 1000000) := by show _ ≤ _; omega
 have HRL : Hid (R.length = (chgB c).length + 10) := hRl;have hRs : R.length ≤ 100 := by omega
 have hes : m.st.endp ≤ 6400 := hbd.endp;have hns : m.st.next ≤ 100000 := hbd.next;have hra6 : regAt m.disk.length m.st.reg ≤ 6400 := by have := hp.bnd.size; unfold okSize at this; omega
 rw [← hV];have c10 := hp.blk.cell 15;have c11 := hp.blk.cell 11;have c12 := hp.blk.cell 12;have c13 := hp.blk.cell 13;have c16 := hp.blk.cell 16;simp only [rkA, gT, gZ, gS] at c10 c11 c12 c13 c16;have hkl := hp.blk.lt;rw [halfS_N] at hfull hhf;have hhs : halfS m.disk.length ≤ 100 := by omega
 have HKP : Hid (DKP w kb seed cn wv tb f m) := hp;clear hw0 hg hb hbd hcl htk hra hhf hR hV hW hB hRl hp hF hk hu hc ha;obtain ⟨hs, hhs0⟩ : ∃ hs, hs = halfS m.disk.length := ⟨_, rfl⟩;have HHS : Hid (halfS m.disk.length = hs) := hhs0.symm;rw [← hhs0] at hfull hhs c11;clear hhs0;generalize regAt m.disk.length m.st.reg = ra at *
 go_enter Tryz.func86, Tryz.ntmps86;go_upto_region 1 with fail
 go_region_held3 (fun w' => w'.cell? ⟨kb, 12, none⟩ = some (.int .i64 (m.st.gen : Int)) ∧ w'.cell? ⟨kb, 16, none⟩ = some (.int .i64 (m.st.next : Int)) ∧ kb < w'.heap.size ∧ Below w.heap.size w w')
  (first
   | exact kstep2 (by assumption) (by assumption)
   | assumption
   | exact ⟨c12, c16, hkl, (Below.refl _ _).drew⟩
   | exact ⟨c12, c16, hkl, Below.refl _ _⟩)
  (first
   | (go_at_call 90; refine (HRC.out _).mono ?_; rintro e w' ⟨rfl, hbN⟩))
 rename_i hHeld;have HB1 : Hid (Below w.heap.size w w') := hHeld.2.2.2;obtain ⟨w1, hw1⟩ : ∃ w1, w1 = w' := ⟨_, rfl⟩;subst hw1;clear hHeld c10 c11 c12 c13 c16 HRC;have c15 := (HKP.out.blk.below HB1.out).cell 15;have c11 := (HKP.out.blk.below HB1.out).cell 11;have c16 := (HKP.out.blk.below HB1.out).cell 16;simp only [rkA, gT, gZ, gS] at c11 c15 c16;have h11 : halfS m.disk.length = hs := HHS.out;rw [h11] at c11;clear h11;go_upto_region 2 with fail
 go_cut [37] (fun cv wx => cv = .bool B ∧ Hid (Below w1.heap.size w1 wx))
 case first =>
  by_cases h1 : 32 * hs < m.st.endp + R.length
  ·rw [decide_eq_true h1, Bool.true_or] at hfull;subst hfull;have t1 : 32 * (hs : Int) < (m.st.endp : Int) + (R.length : Int) := by omega
   clear h1
   go_quiet (fail)
   go_wp2_with fail;go_meet
   case rel => exact ⟨rfl, below_drewN (Below.refl _ _) _⟩
  ·rw [decide_eq_false h1, Bool.false_or] at hfull;have t1 : ¬ 32 * (hs : Int) < (m.st.endp : Int) + (R.length : Int) := by omega
   have HT2 : Hid (decide ((65535 : Int) < (m.st.next : Int)) = B) := by
    show _ = _;rw [hfull, decide_eq_decide]; omega
   clear h1 hfull
   go_quiet (fail)
   go_wp2_with fail;go_meet
   case rel => exact ⟨by rw [← HT2.out], below_drewN (Below.refl _ _) _⟩
 case rest =>
 obtain ⟨rfl, HB2⟩ := hcut;have HBW : Hid (Below w.heap.size w wc) := bstep HB1.out HB2.out;obtain ⟨w2, hw2⟩ : ∃ w2, w2 = wc := ⟨_, rfl⟩;subst hw2;clear c11 c15 c16 hfull;cases B with
 | true =>
  go_wp2_with fail;go_ret;exact ⟨by rw [HV.out]; rfl, by rw [HV.out]; exact DKTo.of_below HA.out HBW.out⟩
 | false =>
  have HBN2 := HBN.out rfl;have HBN2 : Hid (_ ∧ _) := HBN2;have HP2 : Hid (DKP w2 kb seed cn wv tb f m) := HKP.out.kept (Fr.of_below (S := fun _ => False) HBW.out) (fun _ _ h => h);have c13 := HP2.out.blk.cell 13;have c15 := HP2.out.blk.cell 15;simp only [rkA, gT, gZ, gS] at c13 c15;have HD2 : Hid (DK w2.drew kb F m) := (HA.out.below HBW.out).below (Below.refl _ _).drew;have HSTi : Hid (Calls _ _ _ _ _) := HST.out w2.drew F HD2.out;have HWRi : Hid (Calls _ _ _ _ _) := HWR.out rfl w2.drew F HD2.out;have HFW : Hid (Below w.heap.size w w2.drew) := HBW.out.drew;have hkl2 := HP2.out.blk.lt;have HWRP : Hid (IntKind.i64.wrap ((ra : Int) + (m.st.endp : Int)) = (ra : Int) + (m.st.endp : Int)) := by show _ = _; rw [IntKind.wrap_i64]; omega
  clear HST HWR;go_upto_region 4 with fail
  go_cut [6] (fun bv wx => bv = .bool W.1 ∧ Hid (DKTo w kb F W.2 wx))
  case first =>
   go_region_held3 (fun w' => w'.cell? ⟨kb, 13, none⟩ = some (.int .i64 (m.st.reg : Int)) ∧ w'.cell? ⟨kb, 15, none⟩ = some (.int .i64 (m.st.endp : Int)) ∧ kb < w'.heap.size)
    (first
     | assumption
     | exact dkto_st (by assumption) HWY
     | exact ⟨c13, c15, hkl2⟩)
    (first
     | (go_at_call 79; refine HSTi.out.mono ?_; rintro e w' ⟨rfl, hw'⟩; subst w')
     | (go_at_call 92; rw [HWRP.out]; refine HWRi.out.mono ?_; rintro e w3 ⟨rfl, hd3⟩))
   rename_i hHeld;have HD3 : Hid (DKTo w kb F W.2 w3) := DKTo.trans (Fr.of_below HFW.out) (fun b h => Or.inl h) hd3;clear hd3 hHeld;go_wp2_with fail;go_meet
   case rel => exact ⟨rfl, HD3⟩
  case rest =>
  obtain ⟨rfl, HD3⟩ := hcut;obtain ⟨w3, hw3⟩ : ∃ w3, w3 = wc := ⟨_, rfl⟩;subst hw3;clear c13 c15 HSTi HWRi;obtain ⟨W1, W2⟩ := W;cases W1 with
  | false =>
   go_wp2_with fail;go_ret;exact ⟨by rw [HV.out]; rfl, by rw [HV.out]; exact HD3.out⟩
  | true =>
   obtain ⟨F3, ⟨seed3, cn3, wv3, tb3, f3, hp3, hF3⟩, hf3, hn3⟩ := HD3.out;have hst : W2.st = m.st := HWY.out;have hp3 : DKP w3 kb seed3 cn3 wv3 tb3 f3 W2 := hp3;have HDO : Hid (Calls _ _ _ _ _) := rdo_any tb3 W2.st.T f3 (chgB c) w3 hp3.tab hp3.bnd.wf HCL.out;rw [hst, HTK.out] at HDO;have c17 := hp3.blk.cell 17;simp only [rkA, gT, gZ, gS] at c17;have HP3 : Hid (DKP w3 kb seed3 cn3 wv3 tb3 f3 W2) := hp3;have H3 : Hid ((∀ b, F3 b ↔ rkfoot kb tb3 f3 wv3 b) ∧ Fr F w w3 ∧ ∀ b, F3 b → F b ∨ w.heap.size ≤ b) := ⟨hF3, hf3, hn3⟩;have HSTE : Hid (W2.st = m.st) := hst;clear hp3 hF3 hf3 hn3 hst;go_wp2_with fail;refine HDO.out.mono ?_;rintro e w4 ⟨rfl, f4, hr4, hf4, hn4⟩;have HP4 := HP3.out.did hr4 hf4 hn4 HWF.out;rw [HSTE.out] at HP4;have c15 := HP4.blk.cell 15;have c16 := HP4.blk.cell 16;have f15 := HP4.blk.frozen 15;have f16 := HP4.blk.frozen 16;simp only [rkA, gT, gZ, gS] at c15 c16;have e15 : ((m.st.endp : Int) + (R.length : Int)) = ((m.st.endp + (chgB c).length + 10 : Nat) : Int) := by have := HRL.out; omega
   have hfr : Fr (fun b => b = kb) w4 ((w4.setCell ⟨kb, 15, none⟩ (.int .i64 ((m.st.endp : Int) + (R.length : Int)))).setCell ⟨kb, 16, none⟩ (.int .i64 ((m.st.next : Int) + 1))) := (fr_cell 15 _).trans (fr_cell 16 _) (fun _ _ h => h);have hbk := (HP4.blk.set 15 (.int .i64 ((m.st.endp : Int) + (R.length : Int)))).set 16 (.int .i64 ((m.st.next : Int) + 1));have hb3 := HP4.bnd;have hbn : Bnd ({ W2 with st := m.st.does c } : Kp) := ⟨hb3.wf, hb3.secret, hb3.idle, hb3.abs, hb3.now, hb3.drawn, hb3.size, hb3.gen, hb3.reg, hb3.slot, (by show m.st.endp + (chgB c).length + 10 ≤ 6400; have := HBN2.out.1; have := HRL.out; omega), (by show m.st.next + 1 ≤ 100000; have := HBN2.out.2; omega), hb3.fuse, hb3.few⟩;have HP6 : DKP _ kb seed3 cn3 wv3 tb3 f4 ({ W2 with st := m.st.does c } : Kp) := HP4.turned hfr (by rw [e15] at hbk ⊢; exact hbk) rfl rfl hbn;have HEND : Hid (DKTo w kb F ({ W2 with st := m.st.does c } : Kp) ((w4.setCell ⟨kb, 15, none⟩ (.int .i64 ((m.st.endp : Int) + (R.length : Int)))).setCell ⟨kb, 16, none⟩ (.int .i64 ((m.st.next : Int) + 1)))) := DKTo.trans H3.out.2.1 H3.out.2.2 (DKP.didTo H3.out.1 hf4 hn4 HP6 hfr);clear HP4 hr4 hf4 hn4 hfr hbk hb3 hbn HP6 e15 HDO c17;go_wp2_with fail;go_ret;exact ⟨by rw [HV.out]; rfl, by rw [HV.out]; exact HEND.out⟩
end Go.Proofs.YtmnajomkfnkmeaaGreatDoor
namespace Go.Proofs.YtmnajomkfnkmeaaGreatDoor
open Go.RowKit
attribute [local go_sem] ofL_size nA_size
def lookG (m : Kp) (p : Bs) (g : Bool) : Nat × Nat × Kp := if g = true then (if (m.find p).2 = 7 then (0, 7, m) else ((m.find p).1, (m.find p).2, m)) else m.look p
theorem lookG_of {m : Kp} {p : Bs} {g : Bool} {i e : Nat} (h : m.find p = (i, e)) (he : e ≠ 7) : lookG m p g = (i, e, m) := by
 unfold lookG Kp.look;rw [h];simp only [if_neg he];split <;> rfl
theorem lookG_get {m : Kp} {p : Bs} {i : Nat} (h : m.find p = (i, 7)) : lookG m p true = (0, 7, m) := by
 unfold lookG;rw [h, if_pos rfl, if_pos rfl]
theorem lookG_out {m : Kp} {p : Bs} {i : Nat} (h : m.find p = (i, 7)) : lookG m p false = if (m.change (.X i)).1 = 0 then (0, 7, (m.change (.X i)).2) else (0, (m.change (.X i)).1, (m.change (.X i)).2) := by
 unfold lookG Kp.look;rw [h, if_neg (by decide), if_pos rfl]
theorem chgX_text (id : Nat) : (⟨#[88]⟩ : ByteArray) ++ nA 2 (id : Int) = ofL (chgB (.X id)) := by
 apply toL_inj;rw [toL_append, toL_ofL];rfl
theorem dklooked_any (kb : Nat) (F : Nat → Prop) (m : Kp) (p : Bs) (g : Bool) (w : World) (h : DK w kb F m) (hk : MOK m) :
  Calls Tryz.prog 143 #[.pointer (some ⟨kb, 0, none⟩), .string (ofL p), .bool g] w fun e w' => e = .returned (.tuple #[.int .i64 (lookG m p g).1, .int .i64 (lookG m p g).2.1]) ∧ DKTo w kb F (lookG m p g).2.2 w' := by
 have HA : Hid (DK w kb F m) := h;have HK : Hid (MOK m) := hk;obtain ⟨V, hV⟩ : ∃ V, V = lookG m p g := ⟨_, rfl⟩;obtain ⟨seed, cn, wv, tb, f, hp, hF⟩ := h;have HP : Hid (DKP w kb seed cn wv tb f m) := hp;have c0 := hp.blk.cell 0;have c10 := hp.blk.cell 10;simp only [rkA, gT, gZ, gS] at c0 c10;rw [← hV];cases hd : m.down with
 | true =>
  have HV : Hid (V = (0, 4, m)) := by rw [hV]; exact lookG_of (by unfold Kp.find; rw [hd]; rfl) (by decide)
  rw [hd] at c10;clear hV hp hF hd hk;go_enter Tryz.func143, Tryz.ntmps143;go_wp2_with fail;go_ret2;exact ⟨by rw [HV.out]; rfl, by rw [HV.out]; exact DKTo.same HA.out⟩
 | false =>
  rw [hd] at c10;have HD : Hid (m.down = false) := hd;have HOF : Hid (Calls _ _ _ _ _) := refof_any m.secret p w (by have := hp.bnd.secret; omega);have HFC : Hid (_ ∨ _ ∨ _) := find_cases (hk.good hd) p;have HVV : Hid (V = lookG m p g) := hV;clear hV hp hF hd hk;go_enter Tryz.func143, Tryz.ntmps143;go_wp2_with fail;refine HOF.out.mono ?_;rintro e w1 ⟨rfl, hb1⟩;have HB1 : Hid (Below w.heap.size w w1) := hb1;have HP1 : Hid (DKP w1 kb seed cn wv tb f m) := HP.out.kept (Fr.of_below (S := fun _ => False) hb1) (fun _ _ h => h);clear hb1 HOF c0 c10;have c1 := HP1.out.blk.cell 2;have c3 := HP1.out.blk.cell 3;have c5 := HP1.out.blk.cell 5;have c17 := HP1.out.blk.cell 17;simp only [rkA, gT, gZ, gS] at c1 c3 c5 c17;rcases HFC.out with ⟨e1, e2⟩ | ⟨id, e1, e2, e3⟩ | ⟨id, x, e2, h4, e3, e1⟩
  ·have HV : Hid (V = (0, 5, m)) := by rw [HVV.out]; exact lookG_of e1 (by decide)
   rw [e2, show idI none = -1 from rfl];clear HFC e1 e2 HVV;go_wp2_with fail;go_ret2;exact ⟨by rw [HV.out]; rfl, by rw [HV.out]; exact DKTo.of_below HA.out HB1.out⟩
  ·have HV : Hid (V = (0, 6, m)) := by rw [HVV.out]; exact lookG_of e1 (by decide)
   have h4 := (passOf_some e2).2;rw [e2, show idI (some id) = (id : Int) from rfl];obtain ⟨d0, d1, d2, d3, d4, d5⟩ := HP1.out.tab.zero h4 e3;have z0 : ¬ (id : Int) < 0 := by omega
   have z1 : (0 : Int) ≤ (id : Int) := by omega
   have z2 : (id : Int) < 4096 := by omega
   have HBE : Hid (∀ o, Below w.heap.size w (w1.alloc o)) := fun o => HB1.out.alloc HB1.out.size o;clear HFC e1 e2 e3 HVV;go_wp2_with fail;go_ret2;exact ⟨by rw [HV.out]; rfl, by rw [HV.out]; exact DKTo.of_below HA.out (HBE.out _)⟩
  ·rw [e2, show idI (some id) = (id : Int) from rfl];obtain ⟨d0, d1, d2, d3, d4, d5⟩ := HP1.out.tab.six h4 e3;obtain ⟨na, nc, en, _⟩ := so_slice (HP1.out.tab.nms id h4);obtain ⟨va, vc, ev, _⟩ := so_slice (HP1.out.tab.vls id h4);rw [en] at d4;rw [ev] at d5;generalize (nmsOf (m.st.T id)).length = l1 at *
   generalize (vlsOf (m.st.T id)).length = l2 at *
   have z0 : ¬ (id : Int) < 0 := by omega
   have z1 : (0 : Int) ≤ (id : Int) := by omega
   have z2 : (id : Int) < 4096 := by omega
   have HE : Hid (m.st.T id = some x ∧ id < 4096) := ⟨e3, h4⟩;have HE1 : Hid ((m.find p = (id, 7) ∧ m.over x = true) ∨ (m.find p = (id, 0) ∧ m.over x = false)) := e1;clear HFC e1 e2 e3 en ev;go_upto_region 9 with fail
   obtain ⟨w2, hw2⟩ : ∃ w2, w2 = w1.alloc (.cells #[.bool true, .int .i64 x.user, .int .i64 x.created, .int .i64 x.used, .slice na l1 nc, .slice va l2 vc] 194) := ⟨_, rfl⟩;have HX2 : Hid (Blk w2 w1.heap.size #[.bool true, .int .i64 x.user, .int .i64 x.created, .int .i64 x.used, .slice na l1 nc, .slice va l2 vc] 194) := by rw [hw2]; exact Blk.new w1 _ _
   have HB2 : Hid (Below w.heap.size w w2) := by rw [hw2]; exact HB1.out.alloc HB1.out.size _
   rw [← hw2];obtain ⟨xb, hxb⟩ : ∃ xb, xb = w1.heap.size := ⟨_, rfl⟩;rw [← hxb] at HX2 ⊢;clear hw2 hxb c1 c3 c5 c17 d0 d1 d2 d3 d4 d5;have HP2 : Hid (DKP w2 kb seed cn wv tb f m) := HP.out.kept (Fr.of_below (S := fun _ => False) HB2.out) (fun _ _ h => h);have x2 := HX2.out.cell 2;have x3 := HX2.out.cell 3;have c2 := HP2.out.blk.cell 2;have c3 := HP2.out.blk.cell 3;have c5 := HP2.out.blk.cell 5;simp only [rkA, gT, gZ, gS] at c2 c3 c5 x2 x3;have q1 := HP2.out.bnd.idle;have q2 := HP2.out.bnd.abs;have q3 := HP2.out.bnd.now;have q4 : x.used ≤ 1000000000 := (HP2.out.bnd.wf.each id x HE.out.1).2.s1;have q5 : x.created ≤ 1000000000 := (HP2.out.bnd.wf.each id x HE.out.1).2.c1;obtain ⟨ov, hov⟩ : ∃ ov, ov = m.over x := ⟨_, rfl⟩;rw [← hov] at HE1;replace hov : ov = (decide ((m.idle : Int) ≤ (m.now : Int) - x.used) || decide ((m.abs : Int) ≤ (m.now : Int) - x.created)) := hov
   go_cut [61] (fun cv wx => cv = .bool (!ov) ∧ Hid (Below w2.heap.size w2 wx))
   case first =>
    by_cases a1 : (m.now : Int) - (x.used : Int) < (m.idle : Int)
    ·rw [decide_eq_false (by omega), Bool.false_or] at hov;have HO : Hid (decide ((m.now : Int) - (x.created : Int) < (m.abs : Int)) = (!ov)) := by
      show _ = _;rw [hov, Bool.eq_iff_iff, Bool.not_eq_true', decide_eq_true_eq, decide_eq_false_iff_not]; omega
     clear hov HE1
     go_quiet (fail)
     go_wp2_with fail;go_meet
     case rel => exact ⟨by rw [← HO.out], below_drewN (Below.refl _ _) _⟩
    ·rw [decide_eq_true (by omega), Bool.true_or] at hov;subst hov;have aD : decide ((m.now : Int) - (x.used : Int) < (m.idle : Int)) = false := decide_eq_false a1;clear HE1
     go_quiet (fail)
     go_wp2_with fail;go_meet
     case rel => exact ⟨rfl, below_drewN (Below.refl _ _) _⟩
   case rest =>
   obtain ⟨rfl, HBC⟩ := hcut;have HB3 : Hid (Below w.heap.size w wc) := bstep HB2.out HBC.out;clear hov c2 c3 c5 x2 x3 q1 q2 q3 q4 q5;cases ov with
   | false =>
    have hf : m.find p = (id, 0) := by
     rcases HE1.out with ⟨_, h⟩ | ⟨h, _⟩
     ·cases h
     ·exact h
    have HV : Hid (V = (id, 0, m)) := by rw [HVV.out]; exact lookG_of hf (by decide)
    clear hf HE1 HVV;go_wp2_with fail;go_ret2;exact ⟨by rw [HV.out]; rfl, by rw [HV.out]; exact DKTo.of_below HA.out HB3.out⟩
   | true =>
    have hf : m.find p = (id, 7) := by
     rcases HE1.out with ⟨h, _⟩ | ⟨_, h⟩
     ·exact h
     ·cases h
    cases g with
    | true =>
     have HV : Hid (V = (0, 7, m)) := by rw [HVV.out]; exact lookG_get hf
     clear hf HE1 HVV;go_wp2_with fail;go_ret2;exact ⟨by rw [HV.out]; rfl, by rw [HV.out]; exact DKTo.of_below HA.out HB3.out⟩
    | false =>
     have HCH : Hid (∀ w' F', DK w' kb F' m → Calls Tryz.prog 86 #[.pointer (some ⟨kb, 0, none⟩), .string (ofL (chgB (.X id)))] w' fun e w'' => e = .returned (.int .i64 (m.change (.X id)).1) ∧ DKTo w' kb F' (m.change (.X id)).2 w'') := fun w' F' h' =>
      dkchange_any kb F' m (.X id) w' h' HK.out HD.out HE.out.2 (by show (m.st.T id).isSome = true; rw [HE.out.1]; rfl)
     obtain ⟨C, hC⟩ : ∃ C, C = m.change (.X id) := ⟨_, rfl⟩;have HV : Hid (V = if C.1 = 0 then (0, 7, C.2) else (0, C.1, C.2)) := by rw [HVV.out, lookG_out hf, hC]; exact rfl
     rw [← hC] at HCH;clear hf HE1 HVV hC;go_wp2_with fail;refine (N2 _ _ (by omega) (by omega)).mono ?_;rintro e w4 ⟨rfl, hb4⟩;have HB4 : Hid (Below w.heap.size w w4) := bstep HB3.out hb4;clear hb4;have HTX : Hid ((⟨#[88]⟩ : ByteArray) ++ nA 2 (id : Int) = ofL (chgB (.X id))) := chgX_text id;go_wp2_with fail;rw [HTX.out];refine (HCH.out w4 F (HA.out.below HB4.out)).mono ?_;rintro e w5 ⟨rfl, hd5⟩;have HD5 : Hid (DKTo w kb F C.2 w5) := DKTo.trans (Fr.of_below HB4.out) (fun b h => Or.inl h) hd5;clear hd5 HCH;by_cases hc0 : C.1 = 0
     ·have HV2 : Hid (V = (0, 7, C.2)) := by rw [HV.out, if_pos hc0]; exact rfl
      rw [hc0];clear HV hc0;go_wp2_with fail;go_ret2;exact ⟨by rw [HV2.out]; rfl, by rw [HV2.out]; exact HD5.out⟩
     ·have HV2 : Hid (V = (0, C.1, C.2)) := by rw [HV.out, if_neg hc0]; exact rfl
      have hc1 : ¬ (C.1 : Int) = 0 := by omega
      have hc2 : ((C.1 : Int) != 0) = true := by rw [bne_iff_ne]; exact hc1
      clear HV hc0;go_wp2_with fail;go_ret2;exact ⟨by rw [HV2.out]; rfl, by rw [HV2.out]; exact HD5.out⟩
end Go.Proofs.YtmnajomkfnkmeaaGreatDoor
