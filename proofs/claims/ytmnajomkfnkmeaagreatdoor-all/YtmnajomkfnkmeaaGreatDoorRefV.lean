import Derived.Test.YtmnajomkfnkmeaaGreatDoorRefU
import Derived.Deep.RegionHeld3
set_option maxRecDepth 100000
set_option maxHeartbeats 8000000
set_option linter.unusedSimpArgs false
namespace Go.Proofs.YtmnajomkfnkmeaaGreatDoor
open Go.RowKit
attribute [local go_sem] ofL_size nA_size
theorem lookG_false (m : Kp) (p : Bs) : lookG m p false = m.look p := by unfold lookG; rw [if_neg (by decide)]
theorem change_now {m : Kp} (h : MOK m) (hu : m.down = false) {c : Chg} (hc : c.ok) (ha : m.st.T.allows c = true) : (m.change c).2.now = m.now := by
 rcases (h.good hu).change hc ha with ⟨hf, e⟩ | ⟨f, hf, e, g, _, _⟩ | ⟨m', hf, e, _, hd, _, hb⟩
 ·exact congrArg (fun z : Nat × Kp => z.2.now) e
 ·exact congrArg (fun z : Nat × Kp => z.2.now) e
 ·obtain ⟨qs, rs, _, _, e3⟩ := hb.ex;exact (congrArg (fun z : Nat × Kp => z.2.now) e).trans (by rw [e3])
theorem DK.nowAt {w : World} {kb : Nat} {F : Nat → Prop} {m : Kp} (h : DK w kb F m) : w.cell? ⟨kb, 5, none⟩ = some (.int .i64 (m.now : Int)) ∧ kb < w.heap.size := by
 obtain ⟨seed, cn, wv, tb, f, hp, hF⟩ := h;have c5 := hp.blk.cell 5;simp only [rkA, gT, gZ, gS] at c5;exact ⟨c5, hp.blk.lt⟩
theorem dkto_now {w w' : World} {kb t : Nat} {F : Nat → Prop} {m : Kp} (h : DKTo w kb F m w') (hn : Hid (m.now = t)) : w'.cell? ⟨kb, 5, none⟩ = some (.int .i64 (t : Int)) ∧ kb < w'.heap.size := by
 obtain ⟨F1, h1, _⟩ := h;have := h1.nowAt;rw [hn.out] at this;exact this
theorem now_step {w1 w2 : World} {kb : Nat} {v : Value} (h : w1.cell? ⟨kb, 5, none⟩ = some v ∧ kb < w1.heap.size) (hb : Below w1.heap.size w1 w2) : w2.cell? ⟨kb, 5, none⟩ = some v ∧ kb < w2.heap.size :=
 ⟨(hb.cell (p := ⟨kb, 5, none⟩) h.2).trans h.1, Nat.lt_of_lt_of_le h.2 hb.size⟩
theorem DKTo.secretAt {w w' : World} {kb : Nat} {F : Nat → Prop} {m : Kp} (h : DKTo w kb F m w') : w'.cell? ⟨kb, 0, none⟩ = some (.string (ofL m.secret)) := by
 obtain ⟨F1, ⟨seed, cn, wv, tb, f, hp, hF⟩, _⟩ := h;have c0 := hp.blk.cell 0;simp only [rkA, gT, gZ, gS] at c0;exact c0
theorem DKTo.drewN {w w' : World} {kb : Nat} {F : Nat → Prop} {m : Kp} (h : DKTo w kb F m w') (n : Nat) : DKTo w kb F m (w'.drewN n) :=
 h.then (fun _ h1 => DKTo.of_below h1 (below_drewN (Below.refl _ _) _))
theorem chgT_text (id t : Nat) : (⟨#[84]⟩ : ByteArray) ++ nA 2 (id : Int) ++ nA 4 (t : Int) = ofL (chgB (.T id t)) := by
 apply toL_inj;simp only [toL_append, toL_ofL, List.append_assoc];rfl
theorem chgL_text (id u t : Nat) : (⟨#[76]⟩ : ByteArray) ++ nA 2 (id : Int) ++ nA 1 (u : Int) ++ nA 4 (t : Int) = ofL (chgB (.L id u t)) := by
 apply toL_inj;simp only [toL_append, toL_ofL, List.append_assoc];rfl
theorem chgR_text (id too t : Nat) : (⟨#[82]⟩ : ByteArray) ++ nA 2 (id : Int) ++ nA 2 (too : Int) ++ nA 4 (t : Int) = ofL (chgB (.R id too t)) := by
 apply toL_inj;simp only [toL_append, toL_ofL, List.append_assoc];rfl
theorem chgS_text (id : Nat) (n v : Bs) (t : Nat) : (⟨#[83]⟩ : ByteArray) ++ nA 2 (id : Int) ++ ofL (tB n) ++ ofL (tB v) ++ nA 4 (t : Int) = ofL (chgB (.S id n v t)) := by
 apply toL_inj;show _ = 83 :: (nB 2 id ++ tB n ++ tB v ++ nB 4 t);simp only [toL_append, toL_ofL, List.append_assoc];rfl
theorem chgU_text (u : Nat) : (⟨#[85]⟩ : ByteArray) ++ nA 1 (u : Int) = ofL (chgB (.U u)) := by
 apply toL_inj;rw [toL_append, toL_ofL];rfl
theorem dktouch_any (kb : Nat) (F : Nat → Prop) (m : Kp) (p : Bs) (w : World) (h : DK w kb F m) (hk : MOK m) :
  Calls Tryz.prog 96 #[.pointer (some ⟨kb, 0, none⟩), .string (ofL p)] w fun e w' => e = .returned (.int .i64 (m.touch p).1) ∧ DKTo w kb F (m.touch p).2 w' := by
 have HL : Hid (Calls _ _ _ _ _) := dklooked_any kb F m p false w h hk;rw [lookG_false] at HL;have HK : Hid (MOK m) := hk;obtain ⟨V, hV⟩ : ∃ V, V = m.touch p := ⟨_, rfl⟩;have hV0 : V = if (m.look p).2.1 = 0 then (m.look p).2.2.change (.T (m.look p).1 m.now) else ((m.look p).2.1, (m.look p).2.2) := hV
 rw [← hV];clear hV h hk;by_cases h0 : (m.look p).2.1 = 0
 ·obtain ⟨h1, hd, hid, x, hx⟩ := look_in h0;rw [h1, if_pos rfl] at hV0;rw [h1] at HL;obtain ⟨id, hI⟩ : ∃ id, id = (m.look p).1 := ⟨_, rfl⟩;rw [← hI] at hV0 hid hx HL;clear hI h1 h0;have hok : Chg.ok (.T id m.now) := ⟨hid, HK.out.now⟩;have hal : m.st.T.allows (.T id m.now) = true := by show (m.st.T id).isSome = true; rw [hx]; rfl
  have HC : Hid (∀ w' F', DK w' kb F' m → Calls Tryz.prog 86 #[.pointer (some ⟨kb, 0, none⟩), .string (ofL (chgB (.T id m.now)))] w' fun e w'' => e = .returned (.int .i64 (m.change (.T id m.now)).1) ∧ DKTo w' kb F' (m.change (.T id m.now)).2 w'') := fun w' F' h' =>
   dkchange_any kb F' m (.T id m.now) w' h' HK.out hd hok hal
  have HN : Hid ((m.change (.T id m.now)).2.now = m.now) := change_now HK.out hd hok hal;have HV : Hid (V = m.change (.T id m.now)) := hV0;have HT : Hid ((⟨#[84]⟩ : ByteArray) ++ nA 2 (id : Int) ++ nA 4 (m.now : Int) = ofL (chgB (.T id m.now))) := chgT_text id m.now;have hnow : m.now ≤ 1000000000 := HK.out.now;generalize m.change (.T id m.now) = C at *
  clear hV0 hok hal hx hd;go_enter Tryz.func96, Tryz.ntmps96;go_wp2_with fail;refine HL.out.mono ?_;rintro e w1 ⟨rfl, hd1⟩;obtain ⟨F1, hk1, hf1, hn1⟩ := hd1;have HK1 : Hid (DK w1 kb F1 m) := hk1;have HF1 : Hid (Fr F w w1 ∧ ∀ b, F1 b → F b ∨ w.heap.size ≤ b) := ⟨hf1, hn1⟩;have hS1 := hk1.nowAt;obtain ⟨c5, hkl⟩ := hS1;have HB0 : Hid (Below w1.heap.size w1 w1.drew) := (Below.refl _ _).drew;clear hk1 hf1 hn1 HL;go_upto_region 4 with fail
  go_region_held3 (fun w' => w'.cell? ⟨kb, 5, none⟩ = some (.int .i64 (m.now : Int)) ∧ kb < w'.heap.size)
   (first
    | assumption
    | exact now_step (by assumption) (by assumption)
    | exact dkto_now (by assumption) HN
    | exact ⟨c5, hkl⟩)
   (first
    | (go_at_call_of 87 (Value.int .i64 2); refine (N2 _ _ (by omega) (by omega)).mono ?_; rintro e w' ⟨rfl, hbN⟩)
    | (go_at_call_of 87 (Value.int .i64 4); refine (N4 _ _ (by omega) (by omega)).mono ?_; rintro e w' ⟨rfl, hbN⟩)
    | (go_at_call 86; rw [HT.out]; have hch := bstep (bstep HB0.out (by assumption)) (by assumption); refine (HC.out _ F1 (HK1.out.below hch)).mono ?_; rintro e w' ⟨rfl, hdC⟩; replace hdC := DKTo.trans (Fr.of_below hch) (fun b h => Or.inl h) hdC))
  have HDC : Hid (DKTo w kb F C.2 w') := DKTo.trans HF1.out.1 HF1.out.2 hdC;clear hdC;go_wp2_with fail;go_ret;exact ⟨by rw [HV.out]; rfl, by rw [HV.out]; exact HDC.out⟩
 ·rw [if_neg h0] at hV0;have HV : Hid (V = ((m.look p).2.1, (m.look p).2.2)) := hV0;generalize m.look p = L at *
  have hl1 : ((L.2.1 : Int) != 0) = true := by rw [bne_iff_ne]; omega
  clear hV0 h0;go_enter Tryz.func96, Tryz.ntmps96;go_wp2_with fail;refine HL.out.mono ?_;rintro e w1 ⟨rfl, hd1⟩;have HD1 : Hid (DKTo w kb F L.2.2 w1) := hd1;clear hd1 HL;go_wp2_with fail;go_ret;exact ⟨by rw [HV.out]; rfl, by rw [HV.out]; exact HD1.out⟩
theorem dklogout_any (kb : Nat) (F : Nat → Prop) (m : Kp) (p : Bs) (w : World) (h : DK w kb F m) (hk : MOK m) :
  Calls Tryz.prog 100 #[.pointer (some ⟨kb, 0, none⟩), .string (ofL p)] w fun e w' => e = .returned (.int .i64 (m.logout p).1) ∧ DKTo w kb F (m.logout p).2 w' := by
 have HL : Hid (Calls _ _ _ _ _) := dklooked_any kb F m p false w h hk;rw [lookG_false] at HL;have HK : Hid (MOK m) := hk;obtain ⟨V, hV⟩ : ∃ V, V = m.logout p := ⟨_, rfl⟩;have hV0 : V = if (m.look p).2.1 = 0 then m.change (.X (m.look p).1) else ((m.look p).2.1, (m.look p).2.2) := hV
 rw [← hV];clear hV h hk;by_cases h0 : (m.look p).2.1 = 0
 ·obtain ⟨h1, hd, hid, x, hx⟩ := look_in h0;rw [h1, if_pos rfl] at hV0;rw [h1] at HL;obtain ⟨id, hI⟩ : ∃ id, id = (m.look p).1 := ⟨_, rfl⟩;rw [← hI] at hV0 hid hx HL;clear hI h1 h0;have hok : Chg.ok (.X id) := hid;have hal : m.st.T.allows (.X id) = true := by show (m.st.T id).isSome = true; rw [hx]; rfl
  have HC : Hid (∀ w' F', DK w' kb F' m → Calls Tryz.prog 86 #[.pointer (some ⟨kb, 0, none⟩), .string (ofL (chgB (.X id)))] w' fun e w'' => e = .returned (.int .i64 (m.change (.X id)).1) ∧ DKTo w' kb F' (m.change (.X id)).2 w'') := fun w' F' h' =>
   dkchange_any kb F' m (.X id) w' h' HK.out hd hok hal
  have HV : Hid (V = m.change (.X id)) := hV0;have HT : Hid ((⟨#[88]⟩ : ByteArray) ++ nA 2 (id : Int) = ofL (chgB (.X id))) := chgX_text id;generalize m.change (.X id) = C at *
  clear hV0 hok hal hx hd;go_enter Tryz.func100, Tryz.ntmps100;go_wp2_with fail;refine HL.out.mono ?_;rintro e w1 ⟨rfl, hd1⟩;obtain ⟨F1, hk1, hf1, hn1⟩ := hd1;have HK1 : Hid (DK w1 kb F1 m) := hk1;have HF1 : Hid (Fr F w w1 ∧ ∀ b, F1 b → F b ∨ w.heap.size ≤ b) := ⟨hf1, hn1⟩;clear hk1 hf1 hn1 HL;go_wp2_with fail;refine (N2 _ _ (by omega) (by omega)).mono ?_;rintro e w4 ⟨rfl, hb4⟩;have HB4 : Hid (Below w1.heap.size w1 w4) := hb4;clear hb4;go_wp2_with fail;rw [HT.out];refine (HC.out w4 F1 (HK1.out.below HB4.out)).mono ?_;rintro e w5 ⟨rfl, hd5⟩;have HDC : Hid (DKTo w kb F C.2 w5) := DKTo.trans HF1.out.1 HF1.out.2 (DKTo.trans (Fr.of_below HB4.out) (fun b h => Or.inl h) hd5);clear hd5 HC;go_wp2_with fail;go_ret;exact ⟨by rw [HV.out]; rfl, by rw [HV.out]; exact HDC.out⟩
 ·rw [if_neg h0] at hV0;have HV : Hid (V = ((m.look p).2.1, (m.look p).2.2)) := hV0;generalize m.look p = L at *
  have hl1 : ((L.2.1 : Int) != 0) = true := by rw [bne_iff_ne]; omega
  clear hV0 h0;go_enter Tryz.func100, Tryz.ntmps100;go_wp2_with fail;refine HL.out.mono ?_;rintro e w1 ⟨rfl, hd1⟩;have HD1 : Hid (DKTo w kb F L.2.2 w1) := hd1;clear hd1 HL;go_wp2_with fail;go_ret;exact ⟨by rw [HV.out]; rfl, by rw [HV.out]; exact HD1.out⟩
theorem dkrotate_any (kb : Nat) (F : Nat → Prop) (m : Kp) (p : Bs) (w : World) (h : DK w kb F m) (hk : MOK m) :
  Calls Tryz.prog 97 #[.pointer (some ⟨kb, 0, none⟩), .string (ofL p)] w fun e w' => e = .returned (.tuple #[.string (ofL (m.rotate p).1), .int .i64 (m.rotate p).2.1]) ∧ DKTo w kb F (m.rotate p).2.2 w' := by
 have HL : Hid (Calls _ _ _ _ _) := dklooked_any kb F m p false w h hk;rw [lookG_false] at HL;have HK : Hid (MOK m) := hk;obtain ⟨V, hV⟩ : ∃ V, V = m.rotate p := ⟨_, rfl⟩;rw [← hV];clear h hk;by_cases h0 : (m.look p).2.1 = 0
 ·obtain ⟨h1, hd, hid, x, hx⟩ := look_in h0;obtain ⟨D, hD⟩ : ∃ D, D = m.draw := ⟨_, rfl⟩;obtain ⟨o, m1⟩ := D;obtain ⟨f1, f2, f3, f4, f5, f6⟩ := draw_facts HK.out hD.symm;have HDR : Hid (∀ w' F', DK w' kb F' m → Calls Tryz.prog 85 #[.pointer (some ⟨kb, 0, none⟩)] w' fun e w'' => e = .returned (.int .i64 (idI o)) ∧ DKTo w' kb F' m1 w'') := fun w' F' h' => by
   have := dkdraw_any kb F' m w' h';rw [← hD] at this;exact this
  rw [h1] at HL;obtain ⟨id, hI⟩ : ∃ id, id = (m.look p).1 := ⟨_, rfl⟩;cases o with
  | none =>
   have HV : Hid (V = ([], 8, m1)) := by rw [hV]; exact rotate_none h0 hD.symm
   rw [← hI] at HL;clear hV h1 h0 hd hid hx hD f1 f2 f3 f4 f5 f6 hI;go_enter Tryz.func97, Tryz.ntmps97;go_wp2_with fail;refine HL.out.mono ?_;rintro e w1 ⟨rfl, hd1⟩;obtain ⟨F1, hk1, hf1, hn1⟩ := hd1;have HF1 : Hid (DK w1 kb F1 m ∧ Fr F w w1 ∧ ∀ b, F1 b → F b ∨ w.heap.size ≤ b) := ⟨hk1, hf1, hn1⟩;clear hk1 hf1 hn1 HL;go_wp2_with fail;refine (HDR.out w1 F1 HF1.out.1).mono ?_;rintro e w2 ⟨rfl, hd2⟩;have HD2 : Hid (DKTo w kb F m1 w2) := DKTo.trans HF1.out.2.1 HF1.out.2.2 hd2;rw [show idI none = -1 from rfl];clear hd2 HDR;go_wp2_with fail;go_ret2;exact ⟨by rw [HV.out]; rfl, by rw [HV.out]; exact HD2.out⟩
  | some too =>
   obtain ⟨f7, f8⟩ := f6 too rfl;have hV0 := rotate_some h0 hD.symm;rw [← hV, ← hI] at hV0;rw [← hI] at hid hx HL;have hok : Chg.ok (.R id too m.now) := ⟨hid, f8, HK.out.now⟩;have hal : m1.st.T.allows (.R id too m.now) = true := by rw [f1]; show ((m.st.T id).isSome && (m.st.T too).isNone) = true; rw [hx, f7]; rfl
   have hd1 : m1.down = false := by rw [f4]; exact hd
   have HC : Hid (∀ w' F', DK w' kb F' m1 → Calls Tryz.prog 86 #[.pointer (some ⟨kb, 0, none⟩), .string (ofL (chgB (.R id too m.now)))] w' fun e w'' => e = .returned (.int .i64 (m1.change (.R id too m.now)).1) ∧ DKTo w' kb F' (m1.change (.R id too m.now)).2 w'') := fun w' F' h' =>
    dkchange_any kb F' m1 (.R id too m.now) w' h' f5 hd1 hok hal
   have HN : Hid ((m1.change (.R id too m.now)).2.now = m.now) := (change_now f5 hd1 hok hal).trans f2;have HSE : Hid ((m1.change (.R id too m.now)).2.secret = m.secret) := (change_secret f5 hd1 hok hal).1.trans f3;have HT : Hid ((⟨#[82]⟩ : ByteArray) ++ nA 2 (id : Int) ++ nA 2 (too : Int) ++ nA 4 (m.now : Int) = ofL (chgB (.R id too m.now))) := chgR_text id too m.now;have HM1 : Hid (m1.now = m.now) := f2;have hnow : m.now ≤ 1000000000 := HK.out.now;obtain ⟨C, hC⟩ : ∃ C, C = m1.change (.R id too m.now) := ⟨_, rfl⟩;rw [← hC] at HC HN HSE hV0;have HV : Hid (V = if C.1 = 0 then (passL m.secret too, 0, C.2) else ([], C.1, C.2)) := hV0;have HPA : Hid (∀ w', Calls Tryz.prog 88 #[.string (ofL m.secret), .int .i64 (too : Int)] w' fun e w'' => e = .returned (.string (ofL (passL m.secret too))) ∧ ∃ nq, w'' = w'.drewN nq) := fun w' => refpass_any (ofL m.secret) (too : Int) w' (by rw [ofL_size]; have := HK.out.secret; omega) (by omega) (by omega);clear hV hV0 hC h1 h0 hd hx hD f1 f2 f3 f4 f5 f6 f7 hok hal hd1 hI;go_enter Tryz.func97, Tryz.ntmps97;go_wp2_with fail;refine HL.out.mono ?_;rintro e w1 ⟨rfl, hd1⟩;obtain ⟨F1, hk1, hf1, hn1⟩ := hd1;have HF1 : Hid (DK w1 kb F1 m ∧ Fr F w w1 ∧ ∀ b, F1 b → F b ∨ w.heap.size ≤ b) := ⟨hk1, hf1, hn1⟩;clear hk1 hf1 hn1 HL;go_wp2_with fail;refine (HDR.out w1 F1 HF1.out.1).mono ?_;rintro e w2 ⟨rfl, hd2⟩;obtain ⟨F2, hk2, hf2, hn2⟩ := hd2;have HK2 : Hid (DK w2 kb F2 m1) := hk2;have HF2 : Hid (Fr F1 w1 w2 ∧ ∀ b, F2 b → F1 b ∨ w1.heap.size ≤ b) := ⟨hf2, hn2⟩;obtain ⟨c5, hkl⟩ := hk2.nowAt;rw [HM1.out] at c5;have HB0 : Hid (Below w2.heap.size w2 w2.drew) := (Below.refl _ _).drew;rw [show idI (some too) = (too : Int) from rfl];have z0 : ¬ (too : Int) < 0 := by omega
   clear hk2 hf2 hn2 HDR;go_upto_region 7 with fail
   go_region_held3 (fun w' => w'.cell? ⟨kb, 5, none⟩ = some (.int .i64 (m.now : Int)) ∧ kb < w'.heap.size)
    (first
     | assumption
     | exact now_step (by assumption) (by assumption)
     | exact dkto_now (by assumption) HN
     | exact ⟨c5, hkl⟩)
    (first
     | (go_at_call_of 87 (Value.int .i64 2); refine (N2 _ _ (by omega) (by omega)).mono ?_; rintro e w' ⟨rfl, hbN⟩)
     | (go_at_call_of 87 (Value.int .i64 4); refine (N4 _ _ (by omega) (by omega)).mono ?_; rintro e w' ⟨rfl, hbN⟩)
     | (go_at_call 86; rw [HT.out]; have hch := bstep (bstep (bstep HB0.out (by assumption)) (by assumption)) (by assumption); refine (HC.out _ F2 (HK2.out.below hch)).mono ?_; rintro e w' ⟨rfl, hdC⟩; replace hdC := DKTo.trans (Fr.of_below hch) (fun b h => Or.inl h) hdC))
   have HDC : Hid (DKTo w kb F C.2 w') := DKTo.trans HF1.out.2.1 HF1.out.2.2 (DKTo.trans HF2.out.1 HF2.out.2 hdC);obtain ⟨w5, hw5⟩ : ∃ w5, w5 = w' := ⟨_, rfl⟩;subst hw5;clear hdC hch HC c5 hkl;have s0 := HDC.out.secretAt;rw [HSE.out] at s0;by_cases hc0 : C.1 = 0
   ·have HV2 : Hid (V = (passL m.secret too, 0, C.2)) := by rw [HV.out, if_pos hc0]; exact rfl
    rw [hc0];clear HV hc0;go_wp2_with fail;refine (HPA.out _).mono ?_;rintro e w6 ⟨rfl, nq, rfl⟩;go_wp2_with fail;go_ret2;exact ⟨by rw [HV2.out]; rfl, by rw [HV2.out]; exact HDC.out.drewN nq⟩
   ·have HV2 : Hid (V = ([], C.1, C.2)) := by rw [HV.out, if_neg hc0]; exact rfl
    have hc2 : ((C.1 : Int) != 0) = true := by rw [bne_iff_ne]; omega
    clear HV hc0;go_wp2_with fail;go_ret2;exact ⟨by rw [HV2.out]; rfl, by rw [HV2.out]; exact HDC.out⟩
 ·have HV : Hid (V = ([], (m.look p).2.1, (m.look p).2.2)) := by rw [hV]; exact rotate_look h0
  generalize m.look p = L at *
  have hl1 : ((L.2.1 : Int) != 0) = true := by rw [bne_iff_ne]; omega
  clear hV h0;go_enter Tryz.func97, Tryz.ntmps97;go_wp2_with fail;refine HL.out.mono ?_;rintro e w1 ⟨rfl, hd1⟩;have HD1 : Hid (DKTo w kb F L.2.2 w1) := hd1;clear hd1 HL;go_wp2_with fail;go_ret2;exact ⟨by rw [HV.out]; rfl, by rw [HV.out]; exact HD1.out⟩
theorem dklogin_any (kb : Nat) (F : Nat → Prop) (m : Kp) (u : Int) (w : World) (h : DK w kb F m) (hk : MOK m) :
  Calls Tryz.prog 40 #[.pointer (some ⟨kb, 0, none⟩), .int .i64 u] w fun e w' => e = .returned (.tuple #[.string (ofL (m.login u).1), .int .i64 (m.login u).2.1]) ∧ DKTo w kb F (m.login u).2.2 w' := by
 have HA : Hid (DK w kb F m) := h;have HK : Hid (MOK m) := hk;obtain ⟨V, hV⟩ : ∃ V, V = m.login u := ⟨_, rfl⟩;obtain ⟨seed, cn, wv, tb, f, hp, hF⟩ := h;have c10 := hp.blk.cell 10;have c17 := hp.blk.cell 17;simp only [rkA, gT, gZ, gS] at c10 c17;have HLV : Hid (Calls _ _ _ _ _) := rlive_any tb m.st.T f w hp.tab;have HIN : Hid (Calls _ _ _ _ _) := din_any u 1 99 w;rw [← hV];cases hd : m.down with
 | true =>
  have HV : Hid (V = ([], 4, m)) := by rw [hV]; exact login_down hd
  rw [hd] at c10;clear hV hp hF hd hk;generalize m.st.T.live = lv at *
  generalize decide (1 ≤ u ∧ u ≤ 99) = bu at *
  go_enter Tryz.func40, Tryz.ntmps40;go_wp2_with fail;refine HLV.out.mono ?_;rintro e w' ⟨rfl, hw'⟩;subst w';go_wp2_with fail;refine HIN.out.mono ?_;rintro e w' ⟨rfl, hw'⟩;subst w';go_wp2_with fail;go_ret2;exact ⟨by rw [HV.out]; rfl, by rw [HV.out]; exact DKTo.same HA.out⟩
 | false =>
  rw [hd] at c10;by_cases hu : 1 ≤ u ∧ u ≤ 99
  ·rw [decide_eq_true hu] at HIN;by_cases hl : 12 ≤ m.st.T.live
   ·have HV : Hid (V = ([], 8, m)) := by rw [hV]; exact login_many hd hu hl
    clear hV hp hF hd hk;generalize m.st.T.live = lv at *
    have hl12 : (12 : Int) ≤ (lv : Int) := by omega
    go_enter Tryz.func40, Tryz.ntmps40;go_wp2_with fail;refine HLV.out.mono ?_;rintro e w' ⟨rfl, hw'⟩;subst w';go_wp2_with fail;refine HIN.out.mono ?_;rintro e w' ⟨rfl, hw'⟩;subst w';go_wp2_with fail;go_ret2;exact ⟨by rw [HV.out]; rfl, by rw [HV.out]; exact DKTo.same HA.out⟩
   ·obtain ⟨D, hD⟩ : ∃ D, D = m.draw := ⟨_, rfl⟩;obtain ⟨o, m1⟩ := D;obtain ⟨f1, f2, f3, f4, f5, f6⟩ := draw_facts HK.out hD.symm;have HDR : Hid (Calls Tryz.prog 85 #[.pointer (some ⟨kb, 0, none⟩)] w fun e w'' => e = .returned (.int .i64 (idI o)) ∧ DKTo w kb F m1 w'') := by
     have := dkdraw_any kb F m w HA.out;rw [← hD] at this;exact this
    have hl12 : ¬ (12 : Int) ≤ (m.st.T.live : Int) := by omega
    cases o with
    | none =>
     have HV : Hid (V = ([], 8, m1)) := by rw [hV]; exact login_none hd hu hl hD.symm
     clear hV hp hF hd hk f1 f2 f3 f4 f5 f6 hD hl;generalize m.st.T.live = lv at *
     go_enter Tryz.func40, Tryz.ntmps40;go_wp2_with fail;refine HLV.out.mono ?_;rintro e w' ⟨rfl, hw'⟩;subst w';go_wp2_with fail;refine HIN.out.mono ?_;rintro e w' ⟨rfl, hw'⟩;subst w';go_wp2_with fail;refine HDR.out.mono ?_;rintro e w2 ⟨rfl, hd2⟩;have HD2 : Hid (DKTo w kb F m1 w2) := hd2;rw [show idI none = -1 from rfl];clear hd2 HDR;go_wp2_with fail;go_ret2;exact ⟨by rw [HV.out]; rfl, by rw [HV.out]; exact HD2.out⟩
    | some id =>
     obtain ⟨f7, f8⟩ := f6 id rfl;have hV0 := login_some hd hu hl hD.symm;rw [← hV] at hV0;obtain ⟨v, rfl⟩ : ∃ v : Nat, u = v := ⟨u.toNat, by omega⟩;rw [Int.toNat_natCast] at hV0;have hok : Chg.ok (.L id v m.now) := ⟨f8, by omega, by omega, HK.out.now⟩;have hal : m1.st.T.allows (.L id v m.now) = true := by rw [f1]; show ((m.st.T id).isNone && decide (m.st.T.live < 12)) = true; rw [f7, decide_eq_true (by omega)]; rfl
     have hd1 : m1.down = false := by rw [f4]; exact hd
     have HC : Hid (∀ w' F', DK w' kb F' m1 → Calls Tryz.prog 86 #[.pointer (some ⟨kb, 0, none⟩), .string (ofL (chgB (.L id v m.now)))] w' fun e w'' => e = .returned (.int .i64 (m1.change (.L id v m.now)).1) ∧ DKTo w' kb F' (m1.change (.L id v m.now)).2 w'') := fun w' F' h' =>
      dkchange_any kb F' m1 (.L id v m.now) w' h' f5 hd1 hok hal
     have HN : Hid ((m1.change (.L id v m.now)).2.now = m.now) := (change_now f5 hd1 hok hal).trans f2;have HSE : Hid ((m1.change (.L id v m.now)).2.secret = m.secret) := (change_secret f5 hd1 hok hal).1.trans f3;have HT : Hid ((⟨#[76]⟩ : ByteArray) ++ nA 2 (id : Int) ++ nA 1 (v : Int) ++ nA 4 (m.now : Int) = ofL (chgB (.L id v m.now))) := chgL_text id v m.now;have HM1 : Hid (m1.now = m.now) := f2;have hnow : m.now ≤ 1000000000 := HK.out.now;obtain ⟨C, hC⟩ : ∃ C, C = m1.change (.L id v m.now) := ⟨_, rfl⟩;rw [← hC] at HC HN HSE hV0;have HV : Hid (V = if C.1 = 0 then (passL m.secret id, 0, C.2) else ([], C.1, C.2)) := hV0;have HPA : Hid (∀ w', Calls Tryz.prog 88 #[.string (ofL m.secret), .int .i64 (id : Int)] w' fun e w'' => e = .returned (.string (ofL (passL m.secret id))) ∧ ∃ nq, w'' = w'.drewN nq) := fun w' => refpass_any (ofL m.secret) (id : Int) w' (by rw [ofL_size]; have := HK.out.secret; omega) (by omega) (by omega);clear hV hV0 hC hp hF hd hk hD f1 f2 f3 f4 f5 f6 f7 hok hal hd1 hl;generalize m.st.T.live = lv at *
     go_enter Tryz.func40, Tryz.ntmps40;go_wp2_with fail;refine HLV.out.mono ?_;rintro e w' ⟨rfl, hw'⟩;subst w';go_wp2_with fail;refine HIN.out.mono ?_;rintro e w' ⟨rfl, hw'⟩;subst w';go_wp2_with fail;refine HDR.out.mono ?_;rintro e w2 ⟨rfl, hd2⟩;obtain ⟨F2, hk2, hf2, hn2⟩ := hd2;have HK2 : Hid (DK w2 kb F2 m1) := hk2;have HF2 : Hid (Fr F w w2 ∧ ∀ b, F2 b → F b ∨ w.heap.size ≤ b) := ⟨hf2, hn2⟩;obtain ⟨c5, hkl⟩ := hk2.nowAt;rw [HM1.out] at c5;have HB0 : Hid (Below w2.heap.size w2 w2.drew) := (Below.refl _ _).drew;rw [show idI (some id) = (id : Int) from rfl];have z0 : ¬ (id : Int) < 0 := by omega
     have z1 : v ≤ 99 := by omega
     clear hk2 hf2 hn2 HDR;go_upto_region 12 with fail
     go_region_held3 (fun w' => w'.cell? ⟨kb, 5, none⟩ = some (.int .i64 (m.now : Int)) ∧ kb < w'.heap.size)
      (first
       | assumption
       | exact now_step (by assumption) (by assumption)
       | exact dkto_now (by assumption) HN
       | exact ⟨c5, hkl⟩)
      (first
       | (go_at_call_of 87 (Value.int .i64 2); refine (N2 _ _ (by omega) (by omega)).mono ?_; rintro e w' ⟨rfl, hbN⟩)
       | (go_at_call_of 87 (Value.int .i64 1); refine (N1 _ _ (by omega) (by omega)).mono ?_; rintro e w' ⟨rfl, hbN⟩)
       | (go_at_call_of 87 (Value.int .i64 4); refine (N4 _ _ (by omega) (by omega)).mono ?_; rintro e w' ⟨rfl, hbN⟩)
       | (go_at_call 86; rw [HT.out]; have hch := bstep (bstep (bstep HB0.out (by assumption)) (by assumption)) (by assumption); refine (HC.out _ F2 (HK2.out.below hch)).mono ?_; rintro e w' ⟨rfl, hdC⟩; replace hdC := DKTo.trans (Fr.of_below hch) (fun b h => Or.inl h) hdC))
     have HDC : Hid (DKTo w kb F C.2 w') := DKTo.trans HF2.out.1 HF2.out.2 hdC;obtain ⟨w5, hw5⟩ : ∃ w5, w5 = w' := ⟨_, rfl⟩;subst hw5;clear hdC hch HC c5 hkl;have s0 := HDC.out.secretAt;rw [HSE.out] at s0;by_cases hc0 : C.1 = 0
     ·have HV2 : Hid (V = (passL m.secret id, 0, C.2)) := by rw [HV.out, if_pos hc0]; exact rfl
      rw [hc0];clear HV hc0;go_wp2_with fail;refine (HPA.out _).mono ?_;rintro e w6 ⟨rfl, nq, rfl⟩;go_wp2_with fail;go_ret2;exact ⟨by rw [HV2.out]; rfl, by rw [HV2.out]; exact HDC.out.drewN nq⟩
     ·have HV2 : Hid (V = ([], C.1, C.2)) := by rw [HV.out, if_neg hc0]; exact rfl
      have hc2 : ((C.1 : Int) != 0) = true := by rw [bne_iff_ne]; omega
      clear HV hc0;go_wp2_with fail;go_ret2;exact ⟨by rw [HV2.out]; rfl, by rw [HV2.out]; exact HDC.out⟩
  ·have HV : Hid (V = ([], 1, m)) := by rw [hV]; exact login_arg hd hu
   rw [decide_eq_false hu] at HIN;clear hV hp hF hd hk hu;generalize m.st.T.live = lv at *
   go_enter Tryz.func40, Tryz.ntmps40;go_wp2_with fail;refine HLV.out.mono ?_;rintro e w' ⟨rfl, hw'⟩;subst w';go_wp2_with fail;refine HIN.out.mono ?_;rintro e w' ⟨rfl, hw'⟩;subst w';go_wp2_with fail;go_ret2;exact ⟨by rw [HV.out]; rfl, by rw [HV.out]; exact DKTo.same HA.out⟩
theorem dklogoutAll_any (kb : Nat) (F : Nat → Prop) (m : Kp) (u : Int) (w : World) (h : DK w kb F m) (hk : MOK m) :
  Calls Tryz.prog 42 #[.pointer (some ⟨kb, 0, none⟩), .int .i64 u] w fun e w' => e = .returned (.tuple #[.int .i64 (m.logoutAll u).1, .int .i64 (m.logoutAll u).2.1]) ∧ DKTo w kb F (m.logoutAll u).2.2 w' := by
 have HA : Hid (DK w kb F m) := h;have HK : Hid (MOK m) := hk;obtain ⟨V, hV⟩ : ∃ V, V = m.logoutAll u := ⟨_, rfl⟩;obtain ⟨seed, cn, wv, tb, f, hp, hF⟩ := h;have c10 := hp.blk.cell 10;have c17 := hp.blk.cell 17;simp only [rkA, gT, gZ, gS] at c10 c17;have HIN : Hid (Calls _ _ _ _ _) := din_any u 1 99 w;rw [← hV];cases hd : m.down with
 | true =>
  have HV : Hid (V = (0, 4, m)) := by rw [hV]; exact outall_down hd
  rw [hd] at c10;clear hV hp hF hd hk;generalize decide (1 ≤ u ∧ u ≤ 99) = bu at *
  go_enter Tryz.func42, Tryz.ntmps42;go_wp2_with fail;refine HIN.out.mono ?_;rintro e w' ⟨rfl, hw'⟩;subst w';go_wp2_with fail;go_ret2;exact ⟨by rw [HV.out]; rfl, by rw [HV.out]; exact DKTo.same HA.out⟩
 | false =>
  rw [hd] at c10;by_cases hu : 1 ≤ u ∧ u ≤ 99
  ·rw [decide_eq_true hu] at HIN;obtain ⟨v, rfl⟩ : ∃ v : Nat, u = v := ⟨u.toNat, by omega⟩;have hv : 1 ≤ v ∧ v ≤ 99 := by omega
   have HOU : Hid (Calls _ _ _ _ _) := rofuser_any tb m.st.T f v w hp.tab;by_cases hl : m.st.T.ofUser v = 0
   ·have HV : Hid (V = (0, 0, m)) := by rw [hV]; exact outall_none hd hv hl
    rw [hl] at HOU;clear hV hp hF hd hk hl;go_enter Tryz.func42, Tryz.ntmps42;go_wp2_with fail;refine HIN.out.mono ?_;rintro e w' ⟨rfl, hw'⟩;subst w';go_wp2_with fail;refine HOU.out.mono ?_;rintro e w' ⟨rfl, hw'⟩;subst w';go_wp2_with fail;go_ret2;exact ⟨by rw [HV.out]; rfl, by rw [HV.out]; exact DKTo.same HA.out⟩
   ·have hV0 := outall_some hd hv hl;rw [← hV] at hV0;have hok : Chg.ok (.U v) := hv;have hal : m.st.T.allows (.U v) = true := decide_eq_true (by omega);have HC : Hid (∀ w' F', DK w' kb F' m → Calls Tryz.prog 86 #[.pointer (some ⟨kb, 0, none⟩), .string (ofL (chgB (.U v)))] w' fun e w'' => e = .returned (.int .i64 (m.change (.U v)).1) ∧ DKTo w' kb F' (m.change (.U v)).2 w'') := fun w' F' h' =>
     dkchange_any kb F' m (.U v) w' h' HK.out hd hok hal
    have HT : Hid ((⟨#[85]⟩ : ByteArray) ++ nA 1 (v : Int) = ofL (chgB (.U v))) := chgU_text v;obtain ⟨C, hC⟩ : ∃ C, C = m.change (.U v) := ⟨_, rfl⟩;rw [← hC] at HC hV0;obtain ⟨ou, hou⟩ : ∃ ou, ou = m.st.T.ofUser v := ⟨_, rfl⟩;rw [← hou] at hV0 HOU hl;have HV : Hid (V = if C.1 = 0 then (ou, 0, C.2) else (0, C.1, C.2)) := hV0;have hl2 : ((ou : Int) == 0) = false := by rw [Bool.eq_false_iff]; intro e; rw [beq_iff_eq] at e; omega
    clear hV hV0 hp hF hd hk hl hok hal hC hou;go_enter Tryz.func42, Tryz.ntmps42;go_wp2_with fail;refine HIN.out.mono ?_;rintro e w' ⟨rfl, hw'⟩;subst w';go_wp2_with fail;refine HOU.out.mono ?_;rintro e w' ⟨rfl, hw'⟩;subst w';go_wp2_with fail;refine (N1 _ _ (by omega) (by omega)).mono ?_;rintro e w4 ⟨rfl, hb4⟩;have HB4 : Hid (Below w.heap.size w w4) := hb4;clear hb4;go_wp2_with fail;rw [HT.out];refine (HC.out w4 F (HA.out.below HB4.out)).mono ?_;rintro e w5 ⟨rfl, hd5⟩;have HDC : Hid (DKTo w kb F C.2 w5) := DKTo.trans (Fr.of_below HB4.out) (fun b h => Or.inl h) hd5;clear hd5 HC;by_cases hc0 : C.1 = 0
    ·have HV2 : Hid (V = (ou, 0, C.2)) := by rw [HV.out, if_pos hc0]; exact rfl
     rw [hc0];clear HV hc0;go_wp2_with fail;go_ret2;exact ⟨by rw [HV2.out]; rfl, by rw [HV2.out]; exact HDC.out⟩
    ·have HV2 : Hid (V = (0, C.1, C.2)) := by rw [HV.out, if_neg hc0]; exact rfl
     have hc2 : ((C.1 : Int) != 0) = true := by rw [bne_iff_ne]; omega
     clear HV hc0;go_wp2_with fail;go_ret2;exact ⟨by rw [HV2.out]; rfl, by rw [HV2.out]; exact HDC.out⟩
  ·have HV : Hid (V = (0, 1, m)) := by rw [hV]; exact outall_arg hd hu
   rw [decide_eq_false hu] at HIN;clear hV hp hF hd hk hu;go_enter Tryz.func42, Tryz.ntmps42;go_wp2_with fail;refine HIN.out.mono ?_;rintro e w' ⟨rfl, hw'⟩;subst w';go_wp2_with fail;go_ret2;exact ⟨by rw [HV.out]; rfl, by rw [HV.out]; exact DKTo.same HA.out⟩
theorem lookG_ok {m : Kp} {p : Bs} {g : Bool} (h : (m.find p).2 = 0) : lookG m p g = ((m.find p).1, 0, m) := lookG_of (Prod.ext rfl h) (by decide)
theorem lookG_get_no (m : Kp) (p : Bs) : (lookG m p true).2.1 = (m.find p).2 ∧ (lookG m p true).2.2 = m := by
 unfold lookG;rw [if_pos rfl];by_cases h7 : (m.find p).2 = 7
 ·rw [if_pos h7, h7]; exact ⟨rfl, rfl⟩
 ·rw [if_neg h7]; exact ⟨rfl, rfl⟩
theorem dkget_any (kb : Nat) (F : Nat → Prop) (m : Kp) (p n : Bs) (w : World) (h : DK w kb F m) (hk : MOK m) :
  Calls Tryz.prog 99 #[.pointer (some ⟨kb, 0, none⟩), .string (ofL p), .string (ofL n)] w fun e w' => e = .returned (.tuple #[.string (ofL (m.get p n).1), .int .i64 (m.get p n).2]) ∧ DKTo w kb F m w' := by
 have HL : Hid (Calls _ _ _ _ _) := dklooked_any kb F m p true w h hk;have HK : Hid (MOK m) := hk;obtain ⟨V, hV⟩ : ∃ V, V = m.get p n := ⟨_, rfl⟩;rw [← hV];clear h hk;by_cases h0 : (m.find p).2 = 0
 ·obtain ⟨hd, id, x, _, hid, hx, hfi⟩ := find_in (Or.inl h0);rw [lookG_ok h0] at HL;have hg := get_yes (n := n) h0 (by rw [hfi]; exact hx);rw [← hV] at hg;rw [hfi] at HL;have HG : Hid (V = match valAt n x.vals with | some v => (v, 0) | none => ([], 6)) := hg;have HX : Hid (m.st.T id = some x ∧ x.wf) := ⟨hx, (HK.out.wf.each id x hx).2⟩;clear hV hg hfi h0 hd hx;go_enter Tryz.func99, Tryz.ntmps99;go_wp2_with fail;refine HL.out.mono ?_;rintro e w1 ⟨rfl, hd1⟩;have HD1 : Hid (DKTo w kb F m w1) := hd1;obtain ⟨F1, ⟨seed, cn, wv, tb, f, hp, hF⟩, hf1, hn1⟩ := hd1;have HP1 : Hid (DKP w1 kb seed cn wv tb f m) := hp;clear hp hF hf1 hn1 HL;have c17 := HP1.out.blk.cell 17;simp only [rkA, gT, gZ, gS] at c17;obtain ⟨d0, d1, d2, d3, d4, d5⟩ := HP1.out.tab.six hid HX.out.1;have hN := HP1.out.tab.nms id hid;have hW := HP1.out.tab.vls id hid;rw [HX.out.1] at hN hW;obtain ⟨na, nc, en, _⟩ := so_slice hN;obtain ⟨va, vc, ev, hva⟩ := so_slice hW;rw [show nmsOf (some x) = x.vals.map (·.1) from rfl, List.length_map] at en;rw [show vlsOf (some x) = x.vals.map (·.2) from rfl, List.length_map] at ev hva;rw [en] at d4 hN;rw [ev] at d5 hW;have hN : SO w1 (.slice na x.vals.length nc) (x.vals.map (·.1)) := hN;have HW : Hid (SO w1 (.slice va x.vals.length vc) (x.vals.map (·.2))) := hW;have HVA : Hid (0 < x.vals.length → ∃ q, va = some ⟨q, 0, none⟩ ∧ q < w1.heap.size) := hva;have HFI : Hid (Calls _ _ _ _ _) := rfind_any true x.user x.created x.used (.slice na x.vals.length nc) (.slice va x.vals.length vc) x.vals n w1 hN (by have := HX.out.2.few; omega);have HEV : Hid ((f id).2 = .slice va x.vals.length vc) := ev;have z1 : (0 : Int) ≤ (id : Int) := by omega
  have z2 : (id : Int) < 4096 := by omega
  clear hN hW en ev hva;go_wp2_with fail;refine HFI.out.mono ?_;rintro e w2 ⟨rfl, hb2⟩;have HB2 : Hid (Below w1.heap.size w1 w2) := hb2;have HD2 : Hid (DKTo w kb F m w2) := HD1.out.then (fun _ h1 => DKTo.of_below h1 hb2);have HP2 : Hid (DKP w2 kb seed cn wv tb f m) := HP1.out.kept (Fr.of_below (S := fun _ => False) hb2) (fun _ _ h => h);clear hb2 HFI c17 d0 d1 d2 d3 d4 d5;rcases posI_cases n x.vals with ⟨e1, e2⟩ | ⟨k, hk, e1, e2⟩
  ·have HV2 : Hid (V = ([], 6)) := by rw [HG.out, e2]; exact rfl
   rw [e1];clear e1 e2 HG;go_wp2_with fail;go_ret2;exact ⟨by rw [HV2.out]; rfl, HD2.out⟩
  ·have HV2 : Hid (V = (x.vals[k].2, 0)) := by rw [HG.out, e2]; exact rfl
   rw [e1];have c17 := HP2.out.blk.cell 17;simp only [rkA, gT, gZ, gS] at c17;obtain ⟨d0, d1, d2, d3, d4, d5⟩ := HP2.out.tab.six hid HX.out.1;rw [HEV.out] at d5;obtain ⟨q, rfl, hq⟩ := HVA.out (by omega);have cv : w2.cell? ⟨q, k, none⟩ = some (.string (ofL x.vals[k].2)) := by
    rw [belowAt HB2.out hq, HW.out.cell k (by rw [List.length_map]; exact hk), List.getElem_map]
   have z3 : ¬ (k : Int) < 0 := by omega
   have z4 : (0 : Int) ≤ (k : Int) := by omega
   have z5 : (k : Int) < (x.vals.length : Int) := by omega
   obtain ⟨vv, hvv⟩ : ∃ vv, vv = x.vals[k].2 := ⟨_, rfl⟩;rw [← hvv] at cv HV2;clear e1 e2 HG hk hvv d0 d1 d2 d3 d4;go_wp2_with fail;go_ret2;exact ⟨by rw [HV2.out]; rfl, HD2.out⟩
 ·have HV : Hid (V = ([], (m.find p).2)) := by rw [hV]; exact get_no h0
  obtain ⟨g1, g2⟩ := lookG_get_no m p;obtain ⟨L, hL⟩ : ∃ L, L = lookG m p true := ⟨_, rfl⟩;rw [← hL] at HL g1 g2;obtain ⟨L1, L2, L3⟩ := L;replace g1 : L2 = (m.find p).2 := g1;replace g2 : L3 = m := g2;rw [← g1] at HV h0;have hl1 : ((L2 : Int) != 0) = true := by rw [bne_iff_ne]; omega
  have HG2 : Hid (L3 = m) := g2;clear hV h0 hL g1 g2;go_enter Tryz.func99, Tryz.ntmps99;go_wp2_with fail;refine HL.out.mono ?_;rintro e w1 ⟨rfl, hd1⟩;have HD1 : Hid (DKTo w kb F L3 w1) := hd1;rw [HG2.out] at HD1;clear hd1 HL HG2;go_wp2_with fail;go_ret2;exact ⟨by rw [HV.out]; rfl, HD1.out⟩
theorem dkset_any (kb : Nat) (F : Nat → Prop) (m : Kp) (p n v : Bs) (w : World) (h : DK w kb F m) (hk : MOK m) :
  Calls Tryz.prog 98 #[.pointer (some ⟨kb, 0, none⟩), .string (ofL p), .string (ofL n), .string (ofL v)] w fun e w' => e = .returned (.int .i64 (m.set p n v).1) ∧ DKTo w kb F (m.set p n v).2 w' := by
 have HA : Hid (DK w kb F m) := h;have HL : Hid (Calls _ _ _ _ _) := dklooked_any kb F m p false w h hk;rw [lookG_false] at HL;have HK : Hid (MOK m) := hk;obtain ⟨V, hV⟩ : ∃ V, V = m.set p n v := ⟨_, rfl⟩;rw [← hV];clear h hk;obtain ⟨B, hB⟩ : ∃ B : Bool, B = decide (n.length = 0 ∨ 8 < n.length ∨ 8 < v.length) := ⟨_, rfl⟩;have HB : Hid (B = decide (n.length = 0 ∨ 8 < n.length ∨ 8 < v.length)) := hB;clear hB;have hq := seqL n [];go_enter Tryz.func98, Tryz.ntmps98;go_upto_region 1 with fail
 go_cut [23] (fun cv wx => cv = .bool B ∧ wx = w)
 case first =>
  have hB := HB.out;have hE : (ofL n).toList.isEmpty = decide (n.length = 0) := by rw [emptyBs]; cases n <;> rfl
  clear HB HL hq;by_cases a0 : n.length = 0
  ·rw [decide_eq_true a0] at hE;rw [decide_eq_true (Or.inl a0)] at hB;subst hB;clear a0;go_wp2_with fail;go_meet
   case rel => exact ⟨rfl, rfl⟩
  ·rw [decide_eq_false a0] at hE;by_cases a1 : 8 < n.length
   ·rw [decide_eq_true (Or.inr (Or.inl a1))] at hB;subst hB;have i1 : (8 : Int) < (n.length : Int) := by omega
    clear a0 a1;go_wp2_with fail;go_meet
    case rel => exact ⟨rfl, rfl⟩
   ·have HO : Hid (decide ((8 : Int) < (v.length : Int)) = B) := by
     show _ = _;rw [hB, decide_eq_decide]; omega
    have i1 : ¬ (8 : Int) < (n.length : Int) := by omega
    clear a0 a1 hB;go_wp2_with fail;go_meet
    case rel => exact ⟨by rw [← HO.out], rfl⟩
 case rest =>
 obtain ⟨rfl, hwc⟩ := hcut;replace hwc := hwc.symm;subst hwc;clear hq;have hB := HB.out;clear HB;cases B with
 | true =>
  have HV : Hid (V = (1, m)) := by rw [hV]; exact set_arg (of_decide_eq_true hB.symm)
  clear hV hB HL;go_wp2_with fail;go_ret;exact ⟨by rw [HV.out]; rfl, by rw [HV.out]; exact DKTo.same HA.out⟩
 | false =>
  have hnb := of_decide_eq_false hB.symm;have HNB : Hid (1 ≤ n.length ∧ n.length ≤ 8 ∧ v.length ≤ 8) := ⟨by omega, by omega, by omega⟩;clear hB;by_cases h0 : (m.look p).2.1 = 0
  ·obtain ⟨h1, hd, hid, x, hx⟩ := look_in h0;have hV0 := set_yes (n := n) (v := v) hnb h0 hx;rw [← hV] at hV0;rw [h1] at HL;obtain ⟨id, hI⟩ : ∃ id, id = (m.look p).1 := ⟨_, rfl⟩;rw [← hI] at hV0 hid hx HL;clear hI h1 h0 hV hnb;have hok : Chg.ok (.S id n v m.now) := ⟨hid, HNB.out.1, HNB.out.2.1, HNB.out.2.2, HK.out.now⟩;have HX : Hid (m.st.T id = some x ∧ x.wf) := ⟨hx, (HK.out.wf.each id x hx).2⟩;obtain ⟨rm, hrm⟩ : ∃ rm, rm = x.room n := ⟨_, rfl⟩;rw [← hrm] at hV0;have HRM : Hid (rm = x.room n) := hrm;have HC : Hid (rm = true → (∀ w' F', DK w' kb F' m → Calls Tryz.prog 86 #[.pointer (some ⟨kb, 0, none⟩), .string (ofL (chgB (.S id n v m.now)))] w' fun e w'' => e = .returned (.int .i64 (m.change (.S id n v m.now)).1) ∧ DKTo w' kb F' (m.change (.S id n v m.now)).2 w'') ∧ (m.change (.S id n v m.now)).2.now = m.now) := fun hr => by
    have hal : m.st.T.allows (.S id n v m.now) = true := by show (match m.st.T id with | some x => x.room n | none => false) = true; rw [hx]; show x.room n = true; rw [← hrm]; exact hr
    exact ⟨fun w' F' h' => dkchange_any kb F' m (.S id n v m.now) w' h' HK.out hd hok hal, change_now HK.out hd hok hal⟩
   have HT : Hid ((⟨#[83]⟩ : ByteArray) ++ nA 2 (id : Int) ++ ofL (tB n) ++ ofL (tB v) ++ nA 4 (m.now : Int) = ofL (chgB (.S id n v m.now))) := chgS_text id n v m.now;have hnow : m.now ≤ 1000000000 := HK.out.now;obtain ⟨C, hC⟩ : ∃ C, C = m.change (.S id n v m.now) := ⟨_, rfl⟩;rw [← hC] at HC hV0;have HV0 : Hid (V = if rm = true then C else (8, m)) := hV0;clear hV0 hC hrm hx hd hok;go_wp2_with fail;refine HL.out.mono ?_;rintro e w1 ⟨rfl, hd1⟩;have HD1 : Hid (DKTo w kb F m w1) := hd1;obtain ⟨F1, hdk, hf1, hn1⟩ := hd1;have HK1 : Hid (DK w1 kb F1 m ∧ Fr F w w1 ∧ ∀ b, F1 b → F b ∨ w.heap.size ≤ b) := ⟨hdk, hf1, hn1⟩;obtain ⟨seed, cn, wv, tb, f, hp, hF⟩ := hdk;have HP1 : Hid (DKP w1 kb seed cn wv tb f m) := hp;clear hp hF hf1 hn1 HL;have c17 := HP1.out.blk.cell 17;simp only [rkA, gT, gZ, gS] at c17;obtain ⟨d0, d1, d2, d3, d4, d5⟩ := HP1.out.tab.six hid HX.out.1;have hN := HP1.out.tab.nms id hid;have hW := HP1.out.tab.vls id hid;rw [HX.out.1] at hN hW;obtain ⟨na, nc, en, _⟩ := so_slice hN;obtain ⟨va, vc, ev, _⟩ := so_slice hW;rw [show nmsOf (some x) = x.vals.map (·.1) from rfl, List.length_map] at en;rw [show vlsOf (some x) = x.vals.map (·.2) from rfl, List.length_map] at ev;rw [en] at d4 hN;rw [ev] at d5;have hN : SO w1 (.slice na x.vals.length nc) (x.vals.map (·.1)) := hN;have HFI : Hid (Calls _ _ _ _ _) := rfind_any true x.user x.created x.used (.slice na x.vals.length nc) (.slice va x.vals.length vc) x.vals n w1 hN (by have := HX.out.2.few; omega);have HEV : Hid ((f id).1 = .slice na x.vals.length nc) := en;have z1 : (0 : Int) ≤ (id : Int) := by omega
   have z2 : (id : Int) < 4096 := by omega
   clear hN hW en ev;go_wp2_with fail;refine HFI.out.mono ?_;rintro e w2 ⟨rfl, hb2⟩;have HB2 : Hid (Below w1.heap.size w1 w2) := hb2;have HD2 : Hid (DKTo w kb F m w2) := HD1.out.then (fun _ h1 => DKTo.of_below h1 hb2);have HP2 : Hid (DKP w2 kb seed cn wv tb f m) := HP1.out.kept (Fr.of_below (S := fun _ => False) hb2) (fun _ _ h => h);have HK2 : Hid (DK w2 kb F1 m) := HK1.out.1.below hb2;clear hb2 HFI c17 d0 d1 d2 d3 d4 d5;have c17 := HP2.out.blk.cell 17;simp only [rkA, gT, gZ, gS] at c17;obtain ⟨d0, d1, d2, d3, d4, d5⟩ := HP2.out.tab.six hid HX.out.1;rw [HEV.out] at d4;obtain ⟨pi, hpi⟩ : ∃ pi, pi = posI n x.vals := ⟨_, rfl⟩;have HPI : Hid (pi = posI n x.vals) := hpi;rw [← hpi];clear hpi d0 d1 d2 d3 d5;go_upto_region 7 with fail
   go_cut [55] (fun cv wx => cv = .bool (!rm) ∧ wx = w2)
   case first =>
    have hrm := HRM.out;unfold Sess.room at hrm;clear HRM HC HV0;rcases posI_cases n x.vals with ⟨e1, e2⟩ | ⟨k, hk, e1, e2⟩
    ·rw [e2] at hrm;have hl3 : ((x.vals.length : Int) == 3) = (!rm) := by
      rw [hrm];have := HX.out.2.few;show _ = !(false || decide (x.vals.length < 3));rw [Bool.false_or, Bool.eq_iff_iff, beq_iff_eq, Bool.not_eq_true', decide_eq_false_iff_not];omega
     have hneg : pi < 0 := by rw [HPI.out, e1]; decide
     clear hrm e1 e2 HPI;go_wp2_with fail;go_meet
     case rel => exact ⟨by rw [← hl3], rfl⟩
    ·rw [e2] at hrm;replace hrm : rm = true := hrm;subst hrm;have hk0 : ¬ pi < 0 := by rw [HPI.out, e1]; omega
     clear e1 e2 HPI hk;go_wp2_with fail;go_meet
     case rel => exact ⟨rfl, rfl⟩
   case rest =>
   obtain ⟨rfl, hwc⟩ := hcut;replace hwc := hwc.symm;subst hwc;clear c17 d4;cases rm with
   | false =>
    have HV : Hid (V = (8, m)) := by rw [HV0.out, if_neg (by decide)]; exact rfl
    clear HV0 HC HRM;go_wp2_with fail;go_ret;exact ⟨by rw [HV.out]; rfl, by rw [HV.out]; exact HD2.out⟩
   | true =>
    have HV : Hid (V = C) := by rw [HV0.out, if_pos rfl]; exact rfl
    have HCC : Hid (∀ w' F', DK w' kb F' m → Calls _ _ _ w' _) := (HC.out rfl).1;have HN : Hid (C.2.now = m.now) := (HC.out rfl).2;have HD3 : Hid (∀ w', Calls Tryz.prog 141 #[.string (ofL n)] w' fun e w'' => e = .returned (.string (ofL (tB n))) ∧ Below w'.heap.size w' w'') := fun w' => dtext_any n w' (by have := HNB.out.2.1; omega);have HD4 : Hid (∀ w', Calls Tryz.prog 141 #[.string (ofL v)] w' fun e w'' => e = .returned (.string (ofL (tB v))) ∧ Below w'.heap.size w' w'') := fun w' => dtext_any v w' (by have := HNB.out.2.2; omega);have s1 : (tB n).length ≤ 9 := by rw [tB_length]; have := HNB.out.2.1; omega
    have s2 : (tB v).length ≤ 9 := by rw [tB_length]; have := HNB.out.2.2; omega
    obtain ⟨c5, hkl⟩ := HK2.out.nowAt;have HB0 : Hid (Below w2.heap.size w2 w2.drew) := (Below.refl _ _).drew;have p1 : ¬ (9223372036854775807 < 3 + (tB n).length) := by omega
    have p2 : ¬ (9223372036854775807 < 3 + (tB n).length + (tB v).length) := by omega
    have p3 : ¬ (9223372036854775807 < 3 + (tB n).length + (tB v).length + 4) := by omega
    clear HV0 HC HRM s1 s2;generalize tB n = tn at *
    generalize tB v = tv at *
    go_upto_region 9 with fail
    go_region_held3 (fun w' => w'.cell? ⟨kb, 5, none⟩ = some (.int .i64 (m.now : Int)) ∧ kb < w'.heap.size)
     (first
      | assumption
      | exact now_step (by assumption) (by assumption)
      | exact dkto_now (by assumption) HN
      | exact ⟨c5, hkl⟩)
     (first
      | (go_at_call_of 87 (Value.int .i64 2); refine (N2 _ _ (by omega) (by omega)).mono ?_; rintro e w' ⟨rfl, hbN⟩)
      | (go_at_call_of 87 (Value.int .i64 4); refine (N4 _ _ (by omega) (by omega)).mono ?_; rintro e w' ⟨rfl, hbN⟩)
      | (go_at_call_of 141 (Value.string (ofL n)); refine (HD3.out _).mono ?_; rintro e w' ⟨rfl, hbN⟩)
      | (go_at_call_of 141 (Value.string (ofL v)); refine (HD4.out _).mono ?_; rintro e w' ⟨rfl, hbN⟩)
      | (go_at_call 86; rw [HT.out]; have hch := bstep (bstep (bstep (bstep HB0.out (by assumption)) (by assumption)) (by assumption)) (by assumption); refine (HCC.out _ F1 (HK2.out.below hch)).mono ?_; rintro e w' ⟨rfl, hdC⟩; replace hdC := DKTo.trans (Fr.of_below hch) (fun b h => Or.inl h) hdC))
    have HDC : Hid (DKTo w kb F C.2 w') := DKTo.trans HK1.out.2.1 HK1.out.2.2 (DKTo.trans (Fr.of_below HB2.out) (fun b h => Or.inl h) hdC);clear hdC hch;go_wp2_with fail;go_ret;exact ⟨by rw [HV.out]; rfl, by rw [HV.out]; exact HDC.out⟩
  ·have HV : Hid (V = ((m.look p).2.1, (m.look p).2.2)) := by rw [hV]; exact set_look hnb h0
   generalize m.look p = L at *
   have hl1 : ((L.2.1 : Int) != 0) = true := by rw [bne_iff_ne]; omega
   clear hV h0 hnb;go_wp2_with fail;refine HL.out.mono ?_;rintro e w1 ⟨rfl, hd1⟩;have HD1 : Hid (DKTo w kb F L.2.2 w1) := hd1;clear hd1 HL;go_wp2_with fail;go_ret;exact ⟨by rw [HV.out]; rfl, by rw [HV.out]; exact HD1.out⟩
end Go.Proofs.YtmnajomkfnkmeaaGreatDoor
