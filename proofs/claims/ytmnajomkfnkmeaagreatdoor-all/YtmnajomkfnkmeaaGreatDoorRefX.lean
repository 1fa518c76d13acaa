import Derived.Test.YtmnajomkfnkmeaaGreatDoorRefV
import Derived.Deep.CutBlock
set_option maxRecDepth 100000
set_option maxHeartbeats 8000000
set_option linter.unusedSimpArgs false
namespace Go.Proofs.YtmnajomkfnkmeaaGreatDoor
open Go.RowKit
attribute [local go_sem] ofL_size nA_size
theorem writes_len {m : Kp} {p : Nat} {r : Bs} (hd : m.down = false) (hw : m.way = []) (h : p + r.length ≤ m.disk.length) : (m.writes p r).2.disk.length = m.disk.length ∧ (m.writes p r).2.st = m.st := by
 cases hy : (m.writes p r).1 with
 | true => rw [writes_yes hd hy]; exact ⟨laidB_length h, rfl⟩
 | false => obtain ⟨qs, rs, _, _, e3⟩ := writes_no hd hw hy; rw [e3]; exact ⟨rfl, rfl⟩
theorem step2n {w1 w2 : World} {a b i j : Nat} {u v : Value} (h : w1.cell? ⟨a, i, none⟩ = some u ∧ w1.cell? ⟨b, j, none⟩ = some v ∧ a < w1.heap.size ∧ b < w1.heap.size) (hb : Below w1.heap.size w1 w2) :
  w2.cell? ⟨a, i, none⟩ = some u ∧ w2.cell? ⟨b, j, none⟩ = some v ∧ a < w2.heap.size ∧ b < w2.heap.size := by
 obtain ⟨h1, h2, h3, h4⟩ := h;exact ⟨(hb.cell (p := ⟨a, i, none⟩) h3).trans h1, (hb.cell (p := ⟨b, j, none⟩) h4).trans h2, Nat.lt_of_lt_of_le h3 hb.size, Nat.lt_of_lt_of_le h4 hb.size⟩
theorem cmp_step {w w' : World} {kb ob i hs : Nat} {F : Nat → Prop} {m' : Kp} {u v : Value} (h : w.cell? ⟨ob, i, none⟩ = some u ∧ w.cell? ⟨kb, 11, none⟩ = some v ∧ ob < w.heap.size ∧ kb < w.heap.size) (hd : DKTo w kb F m' w') (hh : Hid (halfS m'.disk.length = hs)) (ho : Hid (¬ F ob)) :
  w'.cell? ⟨ob, i, none⟩ = some u ∧ w'.cell? ⟨kb, 11, none⟩ = some (.int .i64 (hs : Int)) ∧ ob < w'.heap.size ∧ kb < w'.heap.size := by
 obtain ⟨F1, ⟨seed, cn, wv, tb, f, hp, hF⟩, hf, hn⟩ := hd;obtain ⟨h1, h2, h3, h4⟩ := h;refine ⟨(World.cell?_of_block (w := w) (hf.block ob h3 ho.out)).trans h1, ?_, Nat.lt_of_lt_of_le h3 hf.size, hp.blk.lt⟩;rw [← hh.out];exact hp.blk.cell 11
theorem dkto_slot {w w' : World} {kb : Nat} {F : Nat → Prop} {m : Kp} {st : St} (h : DKTo w kb F m w') (hst : m.st = st) : w'.cell? ⟨kb, 14, none⟩ = some (.int .i64 (st.slot : Int)) ∧ kb < w'.heap.size := by
 obtain ⟨F1, ⟨seed, cn, wv, tb, f, hp, hF⟩, _⟩ := h;have c14 := hp.blk.cell 14;simp only [rkA, gT, gZ, gS] at c14;rw [← hst];exact ⟨c14, hp.blk.lt⟩
theorem step3n {w1 w2 : World} {a b i j k : Nat} {u v x : Value} (h : w1.cell? ⟨a, i, none⟩ = some u ∧ w1.cell? ⟨b, j, none⟩ = some v ∧ w1.cell? ⟨b, k, none⟩ = some x ∧ a < w1.heap.size ∧ b < w1.heap.size) (hb : Below w1.heap.size w1 w2) :
  w2.cell? ⟨a, i, none⟩ = some u ∧ w2.cell? ⟨b, j, none⟩ = some v ∧ w2.cell? ⟨b, k, none⟩ = some x ∧ a < w2.heap.size ∧ b < w2.heap.size := by
 obtain ⟨h1, h2, h3, h4, h5⟩ := h;exact ⟨(hb.cell (p := ⟨a, i, none⟩) h4).trans h1, (hb.cell (p := ⟨b, j, none⟩) h5).trans h2, (hb.cell (p := ⟨b, k, none⟩) h5).trans h3, Nat.lt_of_lt_of_le h4 hb.size, Nat.lt_of_lt_of_le h5 hb.size⟩
theorem cmp_step3 {w w' : World} {kb ob : Nat} {F : Nat → Prop} {m' : Kp} {st : St} {u v x : Value} (h : w.cell? ⟨kb, 14, none⟩ = some u ∧ w.cell? ⟨ob, 0, none⟩ = some v ∧ w.cell? ⟨ob, 1, none⟩ = some x ∧ kb < w.heap.size ∧ ob < w.heap.size) (hd : DKTo w kb F m' w') (hst : Hid (m'.st = st)) (ho : Hid (¬ F ob)) :
  w'.cell? ⟨kb, 14, none⟩ = some (.int .i64 (st.slot : Int)) ∧ w'.cell? ⟨ob, 0, none⟩ = some v ∧ w'.cell? ⟨ob, 1, none⟩ = some x ∧ kb < w'.heap.size ∧ ob < w'.heap.size := by
 obtain ⟨h1, h2, h3, h4, h5⟩ := h;obtain ⟨c14, hk⟩ := dkto_slot hd hst.out;obtain ⟨F1, _, hf, _⟩ := hd;exact ⟨c14, (World.cell?_of_block (w := w) (hf.block ob h5 ho.out)).trans h2, (World.cell?_of_block (w := w) (hf.block ob h5 ho.out)).trans h3, hk, Nat.lt_of_lt_of_le h5 hf.size⟩
theorem step2b {w w1 w2 : World} {a b i j : Nat} {u v : Value} (h : w1.cell? ⟨a, i, none⟩ = some u ∧ w1.cell? ⟨b, j, none⟩ = some v ∧ a < w1.heap.size ∧ b < w1.heap.size ∧ Below w.heap.size w w1) (hb : Below w1.heap.size w1 w2) :
  w2.cell? ⟨a, i, none⟩ = some u ∧ w2.cell? ⟨b, j, none⟩ = some v ∧ a < w2.heap.size ∧ b < w2.heap.size ∧ Below w.heap.size w w2 := by
 obtain ⟨h1, h2, h3, h4, h5⟩ := h;exact ⟨(hb.cell (p := ⟨a, i, none⟩) h3).trans h1, (hb.cell (p := ⟨b, j, none⟩) h4).trans h2, Nat.lt_of_lt_of_le h3 hb.size, Nat.lt_of_lt_of_le h4 hb.size, bstep h5 hb⟩
theorem dkcompact_any (kb : Nat) (F : Nat → Prop) (m : Kp) (w : World) (h : DK w kb F m) (hk : MOK m) :
  Calls Tryz.prog 45 #[.pointer (some ⟨kb, 0, none⟩)] w fun e w' => e = .returned (.int .i64 m.compact.1) ∧ DKTo w kb F m.compact.2 w' := by
 have HA : Hid (DK w kb F m) := h;have HK : Hid (MOK m) := hk;obtain ⟨V, hV⟩ : ∃ V, V = m.compact := ⟨_, rfl⟩;obtain ⟨seed, cn, wv, tb, f, hp, hF⟩ := h;have HP : Hid (DKP w kb seed cn wv tb f m) := hp;have HFF : Hid (∀ b, F b ↔ rkfoot kb tb f wv b) := hF;have c10 := hp.blk.cell 10;simp only [rkA, gT, gZ, gS] at c10;rw [← hV];cases hd : m.down with
 | true =>
  have HV : Hid (V = (4, m)) := by rw [hV]; show _ = _; unfold Kp.compact; rw [if_pos hd]
  rw [hd] at c10;clear hV hp hF hd hk;go_enter Tryz.func45, Tryz.ntmps45;go_wp2_with fail;go_ret;exact ⟨by rw [HV.out]; rfl, by rw [HV.out]; exact DKTo.same HA.out⟩
 | false =>
  rw [hd] at c10;have hg := hk.good hd;have hb := hg.holds.bounds;have hbd := hp.bnd;have hhb := half_bounds hbd.size;have hsn := snap_short hbd.wf;have c12 := hp.blk.cell 12;have c13 := hp.blk.cell 13;simp only [rkA, gT, gZ, gS] at c12 c13;have hg1 : m.st.gen < 4294967296 := hbd.gen;have hr1 : m.st.reg ≤ 1 := hbd.reg;have hkl := hp.blk.lt;clear hp hF hk;go_enter Tryz.func45, Tryz.ntmps45;go_upto_region 3 with fail
  go_region
  obtain ⟨w1, hw1⟩ : ∃ w1, w1 = (w.alloc (.cells #[.int .i64 ((m.st.gen : Int) + 1), .int .i64 (1 - (m.st.reg : Int))] 127)).drew := ⟨_, rfl⟩;rw [← hw1];have HB1 : Hid (Below w.heap.size w w1) := by rw [hw1]; exact (bA).drew
  have HH1 : Hid (Blk w1 w.heap.size #[.int .i64 ((m.st.gen : Int) + 1), .int .i64 (1 - (m.st.reg : Int))] 127) := by rw [hw1]; exact Blk.drew (Blk.new w _ _)
  obtain ⟨g1, hg1e⟩ : ∃ g1, g1 = m.st.gen + 1 := ⟨_, rfl⟩;obtain ⟨r1, hr1e⟩ : ∃ r1, r1 = 1 - m.st.reg := ⟨_, rfl⟩;rw [show ((m.st.gen : Int) + 1) = (g1 : Int) by omega, show (1 - (m.st.reg : Int)) = (r1 : Int) by omega] at HH1;obtain ⟨sn, hsne⟩ : ∃ sn, sn = snapB m.st.T := ⟨_, rfl⟩;rw [← hsne] at hsn;obtain ⟨R, hR⟩ : ∃ R, R = recB g1 0 sn := ⟨_, rfl⟩;have hRl : R.length = sn.length + 10 := by rw [hR, recB_length]
  obtain ⟨hs, hhs⟩ : ∃ hs, hs = halfS m.disk.length := ⟨_, rfl⟩;have hhN : halfN m.disk.length = 32 * hs := by rw [hhs]; exact rfl
  have hg32 : g1 < 4294967296 ∨ 4294967296 ≤ g1 := by omega
  have HSNP : Hid (∀ w', Below w.heap.size w w' → Calls Tryz.prog 91 #[.slice (some ⟨tb, 0, none⟩) 4096 4096] w' fun e w'' => e = .returned (.string (ofL sn)) ∧ Below w'.heap.size w' w'') := fun w' hb' => by
   rw [hsne]; exact dsnap_any tb m.st.T f w' (HP.out.tab.below hb') HP.out.bnd.wf
  have HREC : Hid (∀ w', Calls Tryz.prog 90 #[.int .i64 (g1 : Int), .int .i64 0, .string (ofL sn)] w' fun e w'' => e = .returned (.string (ofL R)) ∧ Below w'.heap.size w' w'') := fun w' => by
   have := refrecord_any (g1 : Int) ((0 : Nat) : Int) (ofL sn) w' (by omega) (by omega) (by omega) (by omega) (by rw [ofL_size]; omega);rw [recA_L] at this;rw [hR]; exact this
  have HFT : Hid (¬ F w.heap.size) := fun hx => by have := HA.out.foot hx; omega
  have HGD : Hid (m.down = false ∧ m.way = []) := ⟨hd, hg.way⟩;obtain ⟨Z, hZ⟩ : ∃ Z, Z = zeros (32 * hs - R.length) := ⟨_, rfl⟩;obtain ⟨ra, hra⟩ : ∃ ra, ra = regAt m.disk.length r1 := ⟨_, rfl⟩;have hral := regAt_le hbd.size (show r1 ≤ 1 by omega);rw [← hra, hhN] at hral;obtain ⟨W1, hW1⟩ : ∃ W1, W1 = m.writes ra (R ++ Z) := ⟨_, rfl⟩;obtain ⟨W2, hW2⟩ : ∃ W2, W2 = W1.2.writes (32 * (1 - m.st.slot)) (sectB g1 r1) := ⟨_, rfl⟩;obtain ⟨B, hB⟩ : ∃ B : Bool, B = decide (32 * hs < R.length ∨ 1000000000 < g1) := ⟨_, rfl⟩;have HB : Hid (B = decide (32 * hs < R.length ∨ 1000000000 < g1)) := hB;have HVF : Hid (B = true → V = (9, m)) := fun hb' => by
   rw [hV]; exact compact_full hd (by have := of_decide_eq_true (hB.symm.trans hb'); rw [← hsne, hhN]; omega)
  have HVR : Hid (B = false → V = if W1.1 = true then (if W2.1 = true then (0, { W2.2 with st := m.st.next2 }) else (4, W2.2)) else (4, W1.2)) := fun hb' => by
   have hno := of_decide_eq_false (hB.symm.trans hb');rw [hV, compact_room hd (by rw [← hsne, hhN]; omega) (r := R ++ Z) (s := sectB g1 r1) (by rw [hR, hZ, hRl, hg1e, hsne, hhN]) (by rw [hg1e, hr1e])];rw [hW2, hW1, hra, hr1e]
  have hhs1 : hs ≤ 100 := by omega
  have hZl : Z.length ≤ 3200 := by rw [hZ, zeros_length]; omega
  have HZE : Hid (Z = zeros (32 * hs - R.length)) := hZ;have HRZ : Hid (32 * hs < R.length ∨ (R ++ Z).length = 32 * hs) := by
   by_cases hx : 32 * hs < R.length
   ·exact Or.inl hx
   ·exact Or.inr (by rw [List.length_append, hZ, zeros_length]; omega)
  have HRL : Hid (R.length = sn.length + 10) := hRl;have HRA : Hid (ra + 32 * hs ≤ m.disk.length ∧ ra ≤ 6400) := ⟨hral.1, by have := hbd.size; unfold okSize at this; omega⟩;have HW1 : Hid (W1 = m.writes ra (R ++ Z)) := hW1;have HW2 : Hid (W2 = W1.2.writes (32 * (1 - m.st.slot)) (sectB g1 r1)) := hW2;have HHS : Hid (halfS m.disk.length = hs) := hhs.symm;have HRE : Hid (ra = regAt m.disk.length r1) := hra;have hR1010 : R.length ≤ 1010 := by omega
  have hsl1 : m.st.slot ≤ 1 := hbd.slot;have hRl10 : 10 ≤ R.length := by omega
  have hgb : g1 ≤ 4294967296 := by omega
  have hrb : r1 ≤ 1 := by omega
  have HN2 : Hid (({ gen := g1, reg := r1, slot := 1 - m.st.slot, endp := sn.length + 10, next := 1, T := m.st.T } : St) = m.st.next2) := by rw [hg1e, hr1e, hsne]; exact rfl
  have HSZ : Hid (okSize m.disk.length) := hbd.size;clear hB hw1 hg1e hr1e hsne hR hV hhb c10 c12 c13 hg hb hW1 hW2 hZ hhN hg32 hRl hral hra hhs hsn hbd;have HP1 : Hid (DKP w1 kb seed cn wv tb f m) := HP.out.kept (Fr.of_below (S := fun _ => False) HB1.out) (fun _ _ h => h);have o0 := HH1.out.cell 0;have c17 := HP1.out.blk.cell 17;simp only [rkA, gT, gZ, gS] at o0 c17;have hol := HH1.out.lt;have hkl1 := HP1.out.blk.lt;go_upto_region 4 with fail
  go_region_held3 (fun w' => w'.cell? ⟨w.heap.size, 0, none⟩ = some (.int .i64 (g1 : Int)) ∧ w'.cell? ⟨kb, 17, none⟩ = some (.slice (some ⟨tb, 0, none⟩) 4096 4096) ∧ w.heap.size < w'.heap.size ∧ kb < w'.heap.size ∧ Below w.heap.size w w')
   (first
    | exact step2b (by assumption) (by assumption)
    | assumption
    | exact ⟨o0, c17, hol, hkl1, HB1.out.drew⟩)
   (first
    | (go_at_call 91; refine (HSNP.out _ HB1.out.drew).mono ?_; rintro e w' ⟨rfl, hbN⟩)
    | (go_at_call 90; refine (HREC.out _).mono ?_; rintro e w' ⟨rfl, hbN⟩))
  rename_i hHeld;have HB2 : Hid (Below w.heap.size w w') := hHeld.2.2.2.2;obtain ⟨w2, hw2⟩ : ∃ w2, w2 = w' := ⟨_, rfl⟩;subst hw2;have HO2 : Hid (Blk w2 w.heap.size #[.int .i64 (g1 : Int), .int .i64 (r1 : Int)] 127) := HH1.out.below (bstep (bstep ((Below.refl _ _).drew) (by assumption)) hbN);have HP2 : Hid (DKP w2 kb seed cn wv tb f m) := HP.out.kept (Fr.of_below (S := fun _ => False) HB2.out) (fun _ _ h => h);clear hHeld hbN o0 c17 hol hkl1 HSNP HREC;have o0 := HO2.out.cell 0;have c11 := HP2.out.blk.cell 11;simp only [rkA, gT, gZ, gS] at o0 c11;rw [HHS.out] at c11;go_upto_region 5 with fail
  go_cut [43] (fun cv wx => cv = .bool B ∧ wx = w2)
  case first =>
   have hb' := HB.out;clear HB HVF HVR;by_cases h1 : 32 * hs < R.length
   ·rw [decide_eq_true (Or.inl h1)] at hb';subst hb';have t1 : 32 * (hs : Int) < (R.length : Int) := by omega
    clear h1;go_wp2_with fail;go_meet
    case rel => exact ⟨rfl, rfl⟩
   ·have HO : Hid (decide ((1000000000 : Int) < (g1 : Int)) = B) := by
     show _ = _;rw [hb', decide_eq_decide]; omega
    have t1 : ¬ 32 * (hs : Int) < (R.length : Int) := by omega
    clear h1 hb';go_wp2_with fail;go_meet
    case rel => exact ⟨by rw [← HO.out], rfl⟩
  case rest =>
  obtain ⟨rfl, hwc⟩ := hcut;replace hwc := hwc.symm;subst hwc;cases B with
  | true =>
   have HV : Hid (V = (9, m)) := HVF.out rfl;clear HVF HVR HB;go_wp2_with fail;go_ret;exact ⟨by rw [HV.out]; rfl, by rw [HV.out]; exact DKTo.of_below HA.out HB2.out⟩
  | false =>
   have HV0 : Hid (V = if W1.1 = true then (if W2.1 = true then (0, { W2.2 with st := m.st.next2 }) else (4, W2.2)) else (4, W1.2)) := HVR.out rfl;have hno := of_decide_eq_false HB.out.symm;have HRZ2 : Hid ((R ++ Z).length = 32 * hs) := by
    rcases HRZ.out with h | h
    ·exact absurd (Or.inl h) hno
    ·exact h
   have hRs : R.length ≤ 32 * hs := by omega
   have hG9 : g1 ≤ 1000000000 := by omega
   clear HVF HVR HB hno HRZ o0;have o1 := HO2.out.cell 1;simp only [gT, gZ, gS] at o1;have hol := HO2.out.lt;have hkl2 := HP2.out.blk.lt;have HSTA : Hid (Calls Tryz.prog 79 #[.pointer (some ⟨kb, 0, none⟩), .int .i64 (r1 : Int)] w2.drew fun e w'' => e = .returned (.int .i64 (ra : Int)) ∧ w'' = w2.drew) := by
    rw [HRE.out];exact dstart_any kb F m r1 w2.drew (HA.out.below HB2.out.drew) hrb
   have HNO : Hid (∀ w', Calls Tryz.prog 83 #[.int .i64 (32 * (hs : Int) - (R.length : Int))] w' fun e w'' => e = .returned (.string (ofL Z)) ∧ Below w'.heap.size w' w'') := fun w' => by
    have := noughts_any (32 * hs - R.length) w' (by omega);rw [noughtsB, ← HZE.out] at this
    rwa [show ((32 * hs - R.length : Nat) : Int) = 32 * (hs : Int) - (R.length : Int) by omega] at this
   have HWR : Hid (∀ w', Below w.heap.size w w' → Calls Tryz.prog 92 #[.pointer (some ⟨kb, 0, none⟩), .int .i64 (ra : Int), .string (ofL (R ++ Z))] w' fun e w'' => e = .returned (.bool W1.1) ∧ DKTo w' kb F W1.2 w'') := fun w' hb' => by
    rw [HW1.out];exact dkwrites_any kb F m ra (R ++ Z) w' (HA.out.below hb') HGD.out.2 (by rw [List.length_append]; omega) (by rw [HRZ2.out]; exact HRA.out.1)
   have HLEN : Hid (W1.2.disk.length = m.disk.length ∧ W1.2.st = m.st) := by rw [HW1.out]; exact writes_len HGD.out.1 HGD.out.2 (by rw [HRZ2.out]; exact HRA.out.1)
   have HHS1 : Hid (halfS W1.2.disk.length = hs) := by rw [HLEN.out.1]; exact HHS.out
   have HCC : Hid (ofL R ++ ofL Z = ofL (R ++ Z)) := by apply toL_inj; simp only [toL_append, toL_ofL]
   have p1 : ¬ (9223372036854775807 < R.length + Z.length) := by omega
   have e2 : IntKind.i64.wrap (32 * (hs : Int)) = 32 * (hs : Int) := by rw [IntKind.wrap_i64]; omega
   have e3 : IntKind.i64.wrap (32 * (hs : Int) - (R.length : Int)) = 32 * (hs : Int) - (R.length : Int) := by rw [IntKind.wrap_i64]; omega
   have HB2D : Hid (Below w.heap.size w w2.drew) := HB2.out.drew;have HBD2 : Hid (Below w2.heap.size w2 w2.drew) := (Below.refl _ _).drew;go_upto_region 7 with fail
   go_cut [5] (fun bv wx => bv = .bool W1.1 ∧ Hid (∃ F3, DK wx kb F3 W1.2 ∧ Fr F w wx ∧ (∀ b, F3 b → F b ∨ w.heap.size ≤ b) ∧ ¬ F3 w.heap.size ∧ Blk wx w.heap.size #[.int .i64 (g1 : Int), .int .i64 (r1 : Int)] 127))
   case first =>
    go_region_held3 (fun w' => w'.cell? ⟨w.heap.size, 1, none⟩ = some (.int .i64 (r1 : Int)) ∧ w'.cell? ⟨kb, 11, none⟩ = some (.int .i64 (hs : Int)) ∧ w.heap.size < w'.heap.size ∧ kb < w'.heap.size)
     (first
      | assumption
      | exact ⟨o1, c11, hol, hkl2⟩
      | exact step2n (by assumption) (by assumption)
      | exact cmp_step (by assumption) (by assumption) HHS1 HFT)
     (first
      | (go_at_call 79; refine HSTA.out.mono ?_; rintro e w' ⟨rfl, hw'⟩; subst w')
      | (go_at_call 83; refine (HNO.out _).mono ?_; rintro e w' ⟨rfl, hbN⟩)
      | (go_at_call 92; rw [HCC.out]; have hch := bstep HB2D.out (by assumption); have hch2 := bstep HBD2.out (by assumption); refine (HWR.out _ hch).mono ?_; rintro e w3 ⟨rfl, hd3⟩))
    rename_i hHeld;have HR3 : Hid (∃ F3, DK w3 kb F3 W1.2 ∧ Fr F w w3 ∧ (∀ b, F3 b → F b ∨ w.heap.size ≤ b) ∧ ¬ F3 w.heap.size ∧ Blk w3 w.heap.size #[.int .i64 (g1 : Int), .int .i64 (r1 : Int)] 127) := by
     obtain ⟨F3, a1, a2, a3⟩ := hd3;have hz := hch.size;have hz2 := hch2.size;refine ⟨F3, a1, (Fr.of_below hch).trans a2 (fun _ _ h => h), fun b hb' => ?_, fun hx => ?_, (HO2.out.below hch2).kept a2 HFT.out⟩
     ·rcases a3 b hb' with h | h
      ·exact Or.inl h
      ·exact Or.inr (by omega)
     ·rcases a3 _ hx with h | h
      ·exact HFT.out h
      ·omega
    clear hHeld hd3 hch hch2;go_wp2_with fail;go_meet
    case rel => exact ⟨rfl, HR3⟩
   case rest =>
   obtain ⟨rfl, HR3⟩ := hcut;obtain ⟨w3, hw3⟩ : ∃ w3, w3 = wc := ⟨_, rfl⟩;subst hw3;clear c11 o1 hol hkl2 HSTA HNO HWR e2 e3 p1;obtain ⟨A1, m1⟩ := W1;cases A1 with
   | false =>
    have HV : Hid (V = (4, m1)) := by rw [HV0.out]; exact rfl
    have HD : Hid (DKTo w kb F m1 w3) := by obtain ⟨F3, a1, a2, a3, _, _⟩ := HR3.out; exact ⟨F3, a1, a2, a3⟩
    clear HV0 HR3;go_wp2_with fail;go_ret;exact ⟨by rw [HV.out]; rfl, by rw [HV.out]; exact HD.out⟩
   | true =>
    have HV1 : Hid (V = if W2.1 = true then (0, { W2.2 with st := m.st.next2 }) else (4, W2.2)) := by rw [HV0.out]; exact rfl
    have hy := writes_yes (p := ra) (r := R ++ Z) HGD.out.1 (by rw [← HW1.out]);rw [← HW1.out] at hy;have hy : m1 = _ := hy;have HM1 : Hid (m1.down = false ∧ m1.way = [] ∧ m1.st = m.st ∧ m1.disk.length = m.disk.length) := ⟨by rw [hy]; exact HGD.out.1, by rw [hy], HLEN.out.2, HLEN.out.1⟩;obtain ⟨F3, a1, a2, a3, a4, a5⟩ := HR3.out;have HK3 : Hid (DK w3 kb F3 m1 ∧ Fr F w w3 ∧ (∀ b, F3 b → F b ∨ w.heap.size ≤ b)) := ⟨a1, a2, a3⟩;have HF3 : Hid (¬ F3 w.heap.size) := a4;have HO3 : Hid (Blk w3 w.heap.size #[.int .i64 (g1 : Int), .int .i64 (r1 : Int)] 127) := a5;have hst := dkto_slot (DKTo.same HK3.out.1) HM1.out.2.2.1;obtain ⟨c14, hkl3⟩ := hst;have o0 := HO3.out.cell 0;have o1 := HO3.out.cell 1;simp only [gT, gZ, gS] at o0 o1;have hol := HO3.out.lt;have HSEC : Hid (∀ w', Calls Tryz.prog 93 #[.agg #[.int .i64 (g1 : Int), .int .i64 (r1 : Int)]] w' fun e w'' => e = .returned (.string (ofL (sectB g1 r1))) ∧ Below w'.heap.size w' w'') := fun w' => by
     have := sector_any (g1 : Int) (r1 : Int) w' (by omega) (by omega) (by omega) (by omega)
     rwa [sectorA_L] at this
    have HWR2 : Hid (∀ w', Below w3.heap.size w3 w' → Calls Tryz.prog 92 #[.pointer (some ⟨kb, 0, none⟩), .int .i64 (32 - 32 * (m.st.slot : Int)), .string (ofL (sectB g1 r1))] w' fun e w'' => e = .returned (.bool W2.1) ∧ DKTo w' kb F3 W2.2 w'') := fun w' hb' => by
     have hsz := HSZ.out;unfold okSize at hsz;have := dkwrites_any kb F3 m1 (32 * (1 - m.st.slot)) (sectB g1 r1) w' (HK3.out.1.below hb') HM1.out.2.1 (by rw [sectB_length]; decide) (by rw [sectB_length, HM1.out.2.2.2]; omega);rw [← HW2.out] at this
     rwa [show ((32 * (1 - m.st.slot) : Nat) : Int) = 32 - 32 * (m.st.slot : Int) by omega] at this
    have HST2 : Hid (W2.2.st = m.st) := by
     have hsz := HSZ.out;unfold okSize at hsz;rw [HW2.out];exact (writes_len HM1.out.1 HM1.out.2.1 (by rw [sectB_length, HM1.out.2.2.2]; omega)).2.trans HM1.out.2.2.1
    have HBD3 : Hid (Below w3.heap.size w3 w3.drew) := (Below.refl _ _).drew;have e4 : IntKind.i64.wrap (32 * (m.st.slot : Int)) = 32 * (m.st.slot : Int) := by rw [IntKind.wrap_i64]; omega
    have e5 : IntKind.i64.wrap (32 - 32 * (m.st.slot : Int)) = 32 - 32 * (m.st.slot : Int) := by rw [IntKind.wrap_i64]; omega
    clear HV0 HR3 hy a1 a2 a3 a4 a5;go_upto_region 9 with fail
    go_cut [5] (fun bv wx => bv = .bool W2.1 ∧ Hid (∃ F4, DK wx kb F4 W2.2 ∧ Fr F w wx ∧ (∀ b, F4 b → F b ∨ w.heap.size ≤ b) ∧ Blk wx w.heap.size #[.int .i64 (g1 : Int), .int .i64 (r1 : Int)] 127))
    case first =>
     go_region_held3 (fun w' => w'.cell? ⟨kb, 14, none⟩ = some (.int .i64 (m.st.slot : Int)) ∧ w'.cell? ⟨w.heap.size, 0, none⟩ = some (.int .i64 (g1 : Int)) ∧ w'.cell? ⟨w.heap.size, 1, none⟩ = some (.int .i64 (r1 : Int)) ∧ kb < w'.heap.size ∧ w.heap.size < w'.heap.size)
      (first
       | assumption
       | exact ⟨c14, o0, o1, hkl3, hol⟩
       | exact step3n (by assumption) (by assumption)
       | exact cmp_step3 (by assumption) (by assumption) HST2 HF3)
      (first
       | (go_at_call 93; refine (HSEC.out _).mono ?_; rintro e w' ⟨rfl, hbN⟩)
       | (go_at_call 92; have hch := bstep HBD3.out (by assumption); refine (HWR2.out _ hch).mono ?_; rintro e w4 ⟨rfl, hd4⟩))
     rename_i hHeld;have HR4 : Hid (∃ F4, DK w4 kb F4 W2.2 ∧ Fr F w w4 ∧ (∀ b, F4 b → F b ∨ w.heap.size ≤ b) ∧ Blk w4 w.heap.size #[.int .i64 (g1 : Int), .int .i64 (r1 : Int)] 127) := by
      have hd5 := DKTo.trans HK3.out.2.1 HK3.out.2.2 (DKTo.trans (Fr.of_below hch) (fun b h => Or.inl h) hd4);obtain ⟨F4, a1, a2, a3⟩ := hd5;obtain ⟨_, _, b2, _⟩ := hd4;exact ⟨F4, a1, a2, a3, (HO3.out.below hch).kept b2 HF3.out⟩
     clear hHeld hd4 hch;go_wp2_with fail;go_meet
     case rel => exact ⟨rfl, HR4⟩
    case rest =>
    obtain ⟨rfl, HR4⟩ := hcut;obtain ⟨w4, hw4⟩ : ∃ w4, w4 = wc := ⟨_, rfl⟩;subst hw4;clear c14 o0 o1 hol hkl3 HSEC HWR2;obtain ⟨A2, m2⟩ := W2;cases A2 with
    | false =>
     have HV : Hid (V = (4, m2)) := by rw [HV1.out]; exact rfl
     have HD : Hid (DKTo w kb F m2 w4) := by obtain ⟨F4, a1, a2, a3, _⟩ := HR4.out; exact ⟨F4, a1, a2, a3⟩
     clear HV1 HR4;go_wp2_with fail;go_ret;exact ⟨by rw [HV.out]; rfl, by rw [HV.out]; exact HD.out⟩
    | true =>
     have HV : Hid (V = (0, { m2 with st := m.st.next2 })) := by rw [HV1.out]; exact rfl
     obtain ⟨F4, ⟨seed4, cn4, wv4, tb4, f4, hp4, hF4⟩, a2, a3, a5⟩ := HR4.out;have hst2 : m2.st = m.st := HST2.out;have hp4 : DKP w4 kb seed4 cn4 wv4 tb4 f4 m2 := hp4;have o0 := a5.cell 0;have o1 := a5.cell 1;have c12 := hp4.blk.cell 12;have c13 := hp4.blk.cell 13;have c14 := hp4.blk.cell 14;have c15 := hp4.blk.cell 15;have c16 := hp4.blk.cell 16;simp only [rkA, gT, gZ, gS] at o0 o1 c12 c13 c14 c15 c16;rw [hst2] at c14;have f12 := hp4.blk.frozen 12;have f13 := hp4.blk.frozen 13;have f14 := hp4.blk.frozen 14;have f15 := hp4.blk.frozen 15;have f16 := hp4.blk.frozen 16;obtain ⟨w5, hw5⟩ : ∃ w5, w5 = ((((w4.setCell ⟨kb, 12, none⟩ (.int .i64 (g1 : Int))).setCell ⟨kb, 13, none⟩ (.int .i64 (r1 : Int))).setCell ⟨kb, 14, none⟩ (.int .i64 (1 - (m.st.slot : Int)))).setCell ⟨kb, 15, none⟩ (.int .i64 (R.length : Int))).setCell ⟨kb, 16, none⟩ (.int .i64 1) := ⟨_, rfl⟩;have hfr : Fr (fun b => b = kb) w4 w5 := by
      rw [hw5];exact ((((fr_cell 12 _).trans (fr_cell 13 _) (fun _ _ h => h)).trans (fr_cell 14 _) (fun _ _ h => h)).trans (fr_cell 15 _) (fun _ _ h => h)).trans (fr_cell 16 _) (fun _ _ h => h)
     have hbk : Blk w5 kb (rkA ({ m2 with st := m.st.next2 } : Kp) seed4 cn4 wv4 tb4) 131 := by
      rw [hw5, ← HN2.out, show (1 - (m.st.slot : Int)) = ((1 - m.st.slot : Nat) : Int) by omega, show (R.length : Int) = ((sn.length + 10 : Nat) : Int) by have := HRL.out; omega];exact ((((hp4.blk.set 12 (.int .i64 (g1 : Int))).set 13 (.int .i64 (r1 : Int))).set 14 (.int .i64 ((1 - m.st.slot : Nat) : Int))).set 15 (.int .i64 ((sn.length + 10 : Nat) : Int))).set 16 (.int .i64 1)
     have hbn : Bnd ({ m2 with st := m.st.next2 } : Kp) := by
      have b := hp4.bnd;rw [← HN2.out];exact ⟨HP.out.bnd.wf, b.secret, b.idle, b.abs, b.now, b.drawn, b.size, (by show g1 < 4294967296; omega), hrb, (by show 1 - m.st.slot ≤ 1; omega), (by show sn.length + 10 ≤ 6400; have := HRL.out; omega), (by show (1 : Nat) ≤ 100000; decide), b.fuse, b.few⟩
     have hp5 : DKP w5 kb seed4 cn4 wv4 tb4 f4 ({ m2 with st := m.st.next2 } : Kp) := hp4.turned hfr hbk (by rw [hst2]; exact rfl) rfl hbn;have HEND : Hid (DKTo w kb F ({ m2 with st := m.st.next2 } : Kp) w5) := DKTo.trans a2 a3 (DKP.to hF4 hfr hp5);clear HV1 HR4 hp4 hF4 a2 a3 a5 hst2 hfr hbk hbn hp5;go_wp2_with fail;rw [← hw5];go_ret;exact ⟨by rw [HV.out]; rfl, by rw [HV.out]; exact HEND.out⟩
end Go.Proofs.YtmnajomkfnkmeaaGreatDoor
