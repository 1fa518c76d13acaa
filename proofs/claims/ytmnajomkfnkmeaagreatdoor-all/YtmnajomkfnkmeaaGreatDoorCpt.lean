import Derived.Test.YtmnajomkfnkmeaaGreatDoorKopA
import Derived.Test.YtmnajomkfnkmeaaGreatDoorSnp
import Derived.Deep.RegionWith
set_option maxRecDepth 100000
set_option maxHeartbeats 4000000
namespace Go.Proofs.YtmnajomkfnkmeaaGreatDoor
open Go.RowKit Go.Conc
attribute [local go_sem] ofL_size
theorem compact_full {m : Kp} (hd : m.down = false) (h : halfN m.disk.length < (snapB m.st.T).length + 10 ∨ 1000000000 < m.st.gen + 1) : m.compact = (9, m) := by
 unfold Kp.compact;rw [if_neg (by rw [hd]; decide), if_pos h]
theorem compact_room {m : Kp} (hd : m.down = false) (h : ¬ (halfN m.disk.length < (snapB m.st.T).length + 10 ∨ 1000000000 < m.st.gen + 1)) {r s : Bs} (hr : r = recB (m.st.gen + 1) 0 (snapB m.st.T) ++ zeros (halfN m.disk.length - ((snapB m.st.T).length + 10))) (hs : s = sectB (m.st.gen + 1) (1 - m.st.reg)) :
  m.compact = if (m.writes (regAt m.disk.length (1 - m.st.reg)) r).1 then (if ((m.writes (regAt m.disk.length (1 - m.st.reg)) r).2.writes (32 * (1 - m.st.slot)) s).1 then (0, { ((m.writes (regAt m.disk.length (1 - m.st.reg)) r).2.writes (32 * (1 - m.st.slot)) s).2 with st := m.st.next2 }) else (4, ((m.writes (regAt m.disk.length (1 - m.st.reg)) r).2.writes (32 * (1 - m.st.slot)) s).2)) else (4, (m.writes (regAt m.disk.length (1 - m.st.reg)) r).2) := by
 subst hr hs;unfold Kp.compact;rw [if_neg (by rw [hd]; decide), if_neg h]
theorem stepJ {w0 w1 w2 : World} {q : Nat} {v0 v1 v2 v3 : Value}
  (h : w1.cell? ⟨q, 0, none⟩ = some v0 ∧ w1.cell? ⟨q, 1, none⟩ = some v1 ∧ w1.cell? ⟨q, 2, none⟩ = some v2 ∧ w1.cell? ⟨q, 3, none⟩ = some v3 ∧ q < w1.heap.size ∧ Below w0.heap.size w0 w1) (hb : Below w1.heap.size w1 w2) :
  w2.cell? ⟨q, 0, none⟩ = some v0 ∧ w2.cell? ⟨q, 1, none⟩ = some v1 ∧ w2.cell? ⟨q, 2, none⟩ = some v2 ∧ w2.cell? ⟨q, 3, none⟩ = some v3 ∧ q < w2.heap.size ∧ Below w0.heap.size w0 w2 := by
 obtain ⟨a0, a1, a2, a3, b1, b3⟩ := h;exact ⟨(below_cell hb b1).trans a0, (below_cell hb b1).trans a1, (below_cell hb b1).trans a2, (below_cell hb b1).trans a3, Nat.lt_of_lt_of_le b1 hb.size, bstep b3 hb⟩
theorem step2c {w0 w1 w2 : World} {q : Nat} {v1 v2 : Value}
  (h : w1.cell? ⟨q, 1, none⟩ = some v1 ∧ w1.cell? ⟨q, 2, none⟩ = some v2 ∧ q < w1.heap.size ∧ Below w0.heap.size w0 w1) (hb : Below w1.heap.size w1 w2) :
  w2.cell? ⟨q, 1, none⟩ = some v1 ∧ w2.cell? ⟨q, 2, none⟩ = some v2 ∧ q < w2.heap.size ∧ Below w0.heap.size w0 w2 := by
 obtain ⟨a1, a2, b1, b3⟩ := h;exact ⟨(below_cell hb b1).trans a1, (below_cell hb b1).trans a2, Nat.lt_of_lt_of_le b1 hb.size, bstep b3 hb⟩
theorem snap_short {T : Tab} (h : T.wf) : (snapB T).length ≤ 1000 := by
 have h1 := rows_len (R := T.rows 4096) (fun r hr => (h.each _ _ (rows_get hr).1).2);have h2 := live_rows T;have h3 := h.few;unfold snapB;rw [List.length_append, nB_length];omega
theorem jcompact_any (jb db sb mb B : Nat) (F : Nat → Prop) (f : Fn) (D : DataW Unit) (sl : Nat → Value) (d : Dv) (m : Kp) (G : Gl) (w : World) (h : DJ w B db jb F m d) (hm : Good m) (ht : TabAt w sb m.st.T mb f D sl) (hG : Glob B G w) :
  Calls Tryz.prog 71 #[.pointer (some ⟨jb, 0, none⟩), .pointer (some ⟨sb, 0, none⟩)] w fun e w' => e = .returned (jerrV G m.compact.1) ∧ DJTo w B db jb F m.compact.2 w' := by
 have hbd := hm.holds.bounds;have hsz := h.size;have hwf := hm.holds.wf;have hsn := snap_short hwf;have HH : Hid (DJ w B db jb F m d) := h;have HG : Hid (Glob B G w) := hG;have HM : Hid (Good m) := hm;have HT : Hid (TabAt w sb m.st.T mb f D sl) := ht;have HBD : Hid (m.st.gen < 4294967296 ∧ m.st.reg ≤ 1 ∧ m.st.slot ≤ 1 ∧ (snapB m.st.T).length ≤ 1000 ∧ okSize m.disk.length) := ⟨hbd.2.1, hbd.2.2.1, hbd.2.2.2.1, hsn, hsz⟩;have c0 : w.cell? ⟨jb, 0, none⟩ = some (drvV db) := Blk.cell h.jrn 0;have c1 : w.cell? ⟨jb, 1, none⟩ = some (.int .u32 (m.st.gen : Int)) := Blk.cell h.jrn 1;have c2 : w.cell? ⟨jb, 2, none⟩ = some (.int .u8 (m.st.reg : Int)) := Blk.cell h.jrn 2;have c3 : w.cell? ⟨jb, 3, none⟩ = some (.int .i64 (m.st.slot : Int)) := Blk.cell h.jrn 3;have hgf := hG.full.1;by_cases hgen : 1000000000 ≤ m.st.gen
 ·have HE : Hid (m.compact = (9, m)) := compact_full hm.up (Or.inr (by omega));have hgi : (1000000000 : Int) ≤ (m.st.gen : Int) := by omega
  clear h hm ht hG hbd hsz hwf hsn c0 c2 c3 hgen;go_enter Tryz.func71, Tryz.ntmps71;go_wp2_with fail;go_ret;rw [HE.out];exact ⟨rfl, DJTo.same HH.out⟩
 ·clear h hm ht hG hbd hsz hwf hsn hgf;have HGE : Hid (¬ 1000000000 ≤ m.st.gen) := hgen;have hgi : ¬ (1000000000 : Int) ≤ (m.st.gen : Int) := by omega
  clear hgen;go_enter Tryz.func71, Tryz.ntmps71;go_wp2_with fail;clear hgi;have HNX : Hid (∀ w', Calls Tryz.prog 119 #[.agg #[.int .u32 (m.st.gen : Int), .int .u8 (m.st.reg : Int), .int .i64 (m.st.slot : Int)]] w' fun e w'' => e = .returned (.agg #[.int .u32 ((m.st.gen + 1 : Nat) : Int), .int .u8 ((1 - m.st.reg : Nat) : Int), .int .i64 ((1 - m.st.slot : Nat) : Int)]) ∧ Below w'.heap.size w' w'') := fun w' =>
   next_any m.st.gen m.st.reg m.st.slot w' (by have := HGE.out; omega) HBD.out.2.1 HBD.out.2.2.1
  have hst : d.stable.length = m.disk.length := by rw [HH.out.kd.stable]
  have HBG : Hid (∀ w', Below w.heap.size w w' → Calls Tryz.prog 118 #[drvV db, .agg #[.int .u32 ((m.st.gen + 1 : Nat) : Int), .int .u8 ((1 - m.st.reg : Nat) : Int), .int .i64 ((1 - m.st.slot : Nat) : Int)]] w' fun e w'' => ∃ xb, e = .returned (.pointer (some ⟨xb, 0, none⟩)) ∧ w'.heap.size ≤ xb ∧ JB w'' xb db ⟨m.st.gen + 1, 1 - m.st.reg, 1 - m.st.slot, 0, regAt m.disk.length (1 - m.st.reg), regAt m.disk.length (1 - m.st.reg) + halfN m.disk.length⟩ ∧ Below w'.heap.size w' w'') := fun w' hb => by
   have := jbegin_any db B F d (m.st.gen + 1) (1 - m.st.reg) (1 - m.st.slot) w' (HH.out.below hb).drv (by rw [hst]; exact HBD.out.2.2.2.2) (by omega);rw [hst] at this;exact this
  have hjl : jb < w.heap.size := HH.out.jrn.lt;clear hst;unfold drvV at c0 HBG;have HBS : Hid (∀ w', (w'.cell? ⟨jb, 0, none⟩ = some (.iface 84 (.pointer (some ⟨db, 0, none⟩))) ∧ w'.cell? ⟨jb, 1, none⟩ = some (.int .u32 (m.st.gen : Int)) ∧ w'.cell? ⟨jb, 2, none⟩ = some (.int .u8 (m.st.reg : Int)) ∧ w'.cell? ⟨jb, 3, none⟩ = some (.int .i64 (m.st.slot : Int)) ∧ jb < w'.heap.size ∧ Below w.heap.size w w') → Calls _ _ _ w' _) := fun w' hs => HBG.out w' hs.2.2.2.2.2
  go_region_held3 (fun w' => w'.cell? ⟨jb, 0, none⟩ = some (.iface 84 (.pointer (some ⟨db, 0, none⟩))) ∧ w'.cell? ⟨jb, 1, none⟩ = some (.int .u32 (m.st.gen : Int)) ∧ w'.cell? ⟨jb, 2, none⟩ = some (.int .u8 (m.st.reg : Int)) ∧ w'.cell? ⟨jb, 3, none⟩ = some (.int .i64 (m.st.slot : Int)) ∧ jb < w'.heap.size ∧ Below w.heap.size w w')
   (first
    | exact stepJ (by assumption) (by assumption)
    | exact ⟨c0, c1, c2, c3, hjl, (Below.refl _ _).drew⟩)
   (first
    | (go_at_call 119; refine (HNX.out _).mono ?_; rintro e w' ⟨rfl, hbN⟩)
    | (go_at_call 118; refine (HBS.out _ (by assumption)).mono ?_; rintro e w' ⟨xb, rfl, hge, hjb, hbM⟩))
  rename_i wa hHeld;obtain ⟨k0, -, -, -, hjl', hbw⟩ := hHeld;have HB1 : Hid (Below w.heap.size w w') := hbw;have HXB : Hid (w.heap.size ≤ xb) := by
   have h1 := hbN.size;have h2 : w.drew.heap.size = w.heap.size := rfl;show _ ≤ _;omega
  obtain ⟨J, hJ⟩ : ∃ J : Jn, J = ⟨m.st.gen + 1, 1 - m.st.reg, 1 - m.st.slot, 0, regAt m.disk.length (1 - m.st.reg), regAt m.disk.length (1 - m.st.reg) + halfN m.disk.length⟩ := ⟨_, rfl⟩;rw [← hJ] at hjb;have HJ : Hid (J = _) := hJ;have HJB : Hid (JB w' xb db J) := hjb;have HSN : Hid (∀ w1, Below w.heap.size w w1 → Calls Tryz.prog 121 #[.pointer (some ⟨sb, 0, none⟩)] w1 fun e w'' => e = .returned (.string (ofL (snapB m.st.T))) ∧ Below w1.heap.size w1 w'') := fun w1 hb => snap_any sb m.st.T mb f D sl w1 (HT.out.kept (S := fun _ => False) (Fr.of_below hb) (fun _ _ h => h)) HM.out.holds.wf;have HSL : Hid ((snapB m.st.T).length ≤ 1000) := HBD.out.2.2.2.1;clear c0 c1 c2 c3 hjl HNX HBG HBS hbN hge hjb hbM k0 hjl' hbw hJ;obtain ⟨s, hs⟩ : ∃ s, s = snapB m.st.T := ⟨_, rfl⟩;rw [← hs] at HSN HSL;have HSE : Hid (s = snapB m.st.T) := hs;clear hs;go_wp2_with fail;refine (HSN.out _ HB1.out).mono ?_;rintro e w2 ⟨rfl, hb2⟩;have HB2 : Hid (Below w.heap.size w w2) := bstep HB1.out hb2;have HJB2 : Hid (JB w2 xb db J) := Blk.below HJB.out hb2;clear hb2 HJB HSN;have HGJ : Hid (J.gen < 4294967296 ∧ J.number < 65536 ∧ J.next ≤ J.fin ∧ J.fin ≤ 100000 ∧ J.gen = m.st.gen + 1 ∧ J.number = 0 ∧ J.fin - J.next = halfN m.disk.length ∧ J.next = regAt m.disk.length (1 - m.st.reg)) := by
   have h1 := HGE.out;have h2 := regAt_le HBD.out.2.2.2.2 (show 1 - m.st.reg ≤ 1 by omega);have h3 := HBD.out.2.2.2.2.2.2;show _ ∧ _;rw [HJ.out];refine ⟨by show m.st.gen + 1 < _; omega, by show 0 < 65536; decide, by show regAt _ _ ≤ regAt _ _ + _; omega, by show regAt _ _ + _ ≤ _; omega, rfl, rfl, by show regAt _ _ + _ - regAt _ _ = _; omega, rfl⟩
  go_wp2_with fail;refine (jrecord_any xb db J s _ HJB2.out HGJ.out.1 HGJ.out.2.1 (by have := HSL.out; omega)).mono ?_;rintro e w3 ⟨rfl, hb3⟩;have HB3 : Hid (Below w.heap.size w w3) := bstep HB2.out hb3;have HJB3 : Hid (JB w3 xb db J) := Blk.below HJB2.out hb3;clear hb3 HJB2 HB2;obtain ⟨r, hr⟩ : ∃ r, r = recB J.gen J.number s := ⟨_, rfl⟩;have hrl : r.length = s.length + 10 := by rw [hr, recB_length]
  rw [← hr];have HRR : Hid (r = recB J.gen J.number s ∧ r.length = s.length + 10) := ⟨hr, hrl⟩;have hr0 : r.length ≤ 1010 := by have := HSL.out; omega
  clear hr hrl;go_wp2_with fail;refine (jroom_any xb db J _ HJB3.out HGJ.out.2.2.1 HGJ.out.2.2.2.1).mono ?_;rintro e w4 ⟨rfl, hb4⟩;have HB4 : Hid (Below w.heap.size w w4) := bstep HB3.out hb4;have HJB4 : Hid (JB w4 xb db J) := Blk.below HJB3.out hb4;clear hb4 HJB3 HB3;rw [HGJ.out.2.2.2.2.2.2.1];obtain ⟨H, hH⟩ : ∃ H, H = halfN m.disk.length := ⟨_, rfl⟩;rw [← hH];have HHH : Hid (H = halfN m.disk.length) := hH;clear hH;by_cases hfit : H < r.length
  ·have HE : Hid (m.compact = (9, m)) := compact_full HM.out.up (Or.inl (by rw [← HSE.out, ← HHH.out]; have := HRR.out.2; omega));have hgf := (below_cell (i := 0) HB4.out (Nat.lt_of_lt_of_le HG.out.full.2 HG.out.le)).trans HG.out.full.1;go_wp2_with fail;go_ret;rw [HE.out];exact ⟨rfl, DJTo.after_below HB4.out (DJTo.same (HH.out.below HB4.out))⟩
  ·have hrH : r.length ≤ H := by omega
   obtain ⟨rr, hrr⟩ : ∃ rr, rr = r ++ zeros (H - r.length) := ⟨_, rfl⟩;have hrrl : rr.length = H := by rw [hrr, List.length_append, zeros_length]; omega
   have hHb : 160 ≤ H ∧ H ≤ 3168 := by rw [HHH.out]; have := half_bounds HBD.out.2.2.2.2; exact ⟨this.1, this.2.1⟩
   have HFL : Hid (∀ w', Calls Tryz.prog 105 #[.string (ofL r), .int .i64 (H : Int)] w' fun e w'' => e = .returned (.string (ofL rr)) ∧ Below w'.heap.size w' w'') := fun w' => by
    have := fill_any (ofL r) H w' (by rw [ofL_size]; exact hrH) (by omega);rw [ofL_size] at this;have e : ofL r ++ zA (H - r.length) = ofL rr := toL_inj (by rw [toL_append, toL_zA, toL_ofL, toL_ofL, hrr]);rw [e] at this;exact this
   have HRM : Hid (∀ w', Below w4.heap.size w4 w' → Calls Tryz.prog 122 #[.pointer (some ⟨xb, 0, none⟩)] w' fun e w'' => e = .returned (.int .i64 (H : Int)) ∧ Below w'.heap.size w' w'') := fun w' hb => by
    have := jroom_any xb db J w' (Blk.below HJB4.out hb) HGJ.out.2.2.1 HGJ.out.2.2.2.1;rw [HGJ.out.2.2.2.2.2.2.1, ← HHH.out] at this;exact this
   have HIN : Hid (J.next + rr.length ≤ m.disk.length) := by
    have h2 := regAt_le HBD.out.2.2.2.2 (show 1 - m.st.reg ≤ 1 by omega);show _ ≤ _;rw [hrrl, HGJ.out.2.2.2.2.2.2.2, HHH.out];exact h2.1
   have HRR0 : Hid (0 < rr.length) := by show _ < _; omega
   have HST : Hid (∀ w', Below w4.heap.size w4 w' → Calls Tryz.prog 123 #[.pointer (some ⟨jb, 0, none⟩), .int .i64 (J.next : Int), .string (ofL rr)] w' fun e w'' => e = .returned (downV (errV G.down) (m.writes J.next rr).1) ∧ DJTo w' B db jb F { (m.writes J.next rr).2 with st := m.st } w'' ∧ Fr F w' w'') := fun w' hb => by
    have hbw := bstep HB4.out hb;have hd := HH.out.below hbw;refine (mstore_any jb db jb B F d m _ G J.next rr w' hd HM.out.up HRR0.out HIN.out (DigitsBelow HG.out hbw) hd.jrn hd.apart).mono ?_;rintro e w'' ⟨rfl, F', d', ha, hok, hkd, hf, hn⟩;refine ⟨rfl, (appended hd.jrn.lt hd.apart hd.ge ha hok hkd ((writes_st m J.next rr HM.out.up HM.out.way).2 HIN.out) hf hn (hd.jrn.kept hf hd.apart) (Fr.refl _ _)), hf⟩
   have hxl : xb < w4.heap.size := HJB4.out.lt;have c5 : w4.cell? ⟨xb, 5, none⟩ = some (.int .i64 (J.next : Int)) := Blk.cell HJB4.out 5;have HSZ : Hid (rr = r ++ zeros (H - r.length)) := hrr;have HCR : Hid (m.compact = if (m.writes J.next rr).1 then (if ((m.writes J.next rr).2.writes (32 * (1 - m.st.slot)) (sectB (m.st.gen + 1) (1 - m.st.reg))).1 then (0, { ((m.writes J.next rr).2.writes (32 * (1 - m.st.slot)) (sectB (m.st.gen + 1) (1 - m.st.reg))).2 with st := m.st.next2 }) else (4, ((m.writes J.next rr).2.writes (32 * (1 - m.st.slot)) (sectB (m.st.gen + 1) (1 - m.st.reg))).2)) else (4, (m.writes J.next rr).2)) := by
    show _ = _;rw [HGJ.out.2.2.2.2.2.2.2];refine compact_room HM.out.up ?_ ?_ rfl
    ·have h1 := HGE.out;have h2 := HRR.out.2;rw [← HSE.out, ← HHH.out]; omega
    ·rw [hrr, HRR.out.2, HRR.out.1, HGJ.out.2.2.2.2.1, HGJ.out.2.2.2.2.2.1, HSE.out, HHH.out]
   have HWS : Hid ((m.writes J.next rr).2.st = m.st ∧ (m.writes J.next rr).2.disk.length = m.disk.length) := ⟨(writes_st m J.next rr HM.out.up HM.out.way).1, (writes_st m J.next rr HM.out.up HM.out.way).2 HIN.out⟩;have HUP : Hid ((m.writes J.next rr).1 = true → (m.writes J.next rr).2.down = false ∧ (m.writes J.next rr).2.way = []) := fun h => by rw [writes_yes HM.out.up h]; exact ⟨HM.out.up, rfl⟩
   clear hrr hrrl hHb hrH;have HX0 : Hid (xb < w4.heap.size) := hxl;obtain ⟨W1, hW1⟩ : ∃ W1, W1 = m.writes J.next rr := ⟨_, rfl⟩;rw [← hW1] at HST HCR HWS HUP;have HW1 : Hid (W1 = m.writes J.next rr) := hW1;clear hW1;generalize hnx : (J.next : Int) = nx at *
   have HNXX : Hid ((J.next : Int) = nx) := hnx;clear hnx;go_wp2_with fail;clear hfit
   go_region_with (first
    | (go_at_call 122; refine (HRM.out _ (Below.refl _ _).drew).mono ?_; rintro e wa ⟨rfl, hba⟩; have c5a : wa.cell? ⟨xb, 5, none⟩ = _ := (hba.cell (p := ⟨xb, 5, none⟩) hxl).trans c5; have HBA : Hid (Below w4.heap.size w4 wa) := bstep (Below.refl _ _).drew hba; have hxa : xb < wa.heap.size := Nat.lt_of_lt_of_le hxl HBA.out.size)
    | (go_at_call 105; refine (HFL.out _).mono ?_; rintro e wb ⟨rfl, hbb⟩; have c5b : wb.cell? ⟨xb, 5, none⟩ = _ := (hbb.cell (p := ⟨xb, 5, none⟩) hxa).trans c5a; have HBBB : Hid (Below w4.heap.size w4 wb) := bstep HBA.out hbb)
    | (go_at_call 123; refine (HST.out _ HBBB.out).mono ?_; rintro e w5 ⟨rfl, hdj5, hf5⟩))
   all_goals
    have hst1 : ({ W1.2 with st := m.st } : Kp) = W1.2 := by rw [← HWS.out.1]
    rw [hst1] at hdj5;have HD5 : Hid (DJTo wb B db jb F W1.2 w5) := hdj5;have HJB5 : Hid (JB w5 xb db J) := (Blk.below HJB4.out HBBB.out).kept hf5 (fun hF => by have := (HH.out.foot (Or.inl hF)).2; have := HXB.out; omega);clear hdj5 hf5 hst1 hba hbb c5 c5a c5b hxl hxa HBA HRM HFL HST;by_cases hw : W1.1 = true
    ·have HU1 : Hid (_ ∧ _) := HUP.out hw;have HCR2 : Hid (m.compact = _) := HCR.out.trans (if_pos hw);rw [hw];unfold downV;clear hw HUP HCR;have x1 : w5.cell? ⟨xb, 1, none⟩ = some (.int .u32 (J.gen : Int)) := Blk.cell HJB5.out 1;have x2 : w5.cell? ⟨xb, 2, none⟩ = some (.int .u8 (J.reg : Int)) := Blk.cell HJB5.out 2;have xl := HJB5.out.lt;have HHD : Hid (∀ w', Calls Tryz.prog 106 #[.int .u32 (J.gen : Int), .int .u8 (J.reg : Int)] w' fun e w'' => e = .returned (.string (sectorA J.gen J.reg)) ∧ Below w'.heap.size w' w'') := fun w' =>
      head_any J.gen J.reg w' (by omega) (by have := HGJ.out.1; omega) (by omega) (by rw [HJ.out]; show ((1 - m.st.reg : Nat) : Int) < 256; omega)
     have HSA : Hid (sectorA (J.gen : Int) (J.reg : Int) = ofL (sectB (m.st.gen + 1) (1 - m.st.reg))) := by
      show _ = _;rw [HJ.out]; exact sectorA_L (m.st.gen + 1) (1 - m.st.reg)
     generalize (J.gen : Int) = jg at *
     generalize (J.reg : Int) = jr at *
     go_wp2_with fail
     go_region_held3 (fun w' => w'.cell? ⟨xb, 1, none⟩ = some (.int .u32 jg) ∧ w'.cell? ⟨xb, 2, none⟩ = some (.int .u8 jr) ∧ xb < w'.heap.size ∧ Below w5.heap.size w5 w')
      (first
       | exact step2c (by assumption) (by assumption)
       | exact ⟨x1, x2, xl, (Below.refl _ _).drew⟩)
      (first
       | (go_at_call 106; refine (HHD.out _).mono ?_; rintro e w' ⟨rfl, hbN⟩))
     rename_i hHeld;obtain ⟨-, -, -, hb56⟩ := hHeld;rw [HSA.out];obtain ⟨S, hS⟩ : ∃ S, S = sectB (m.st.gen + 1) (1 - m.st.reg) := ⟨_, rfl⟩;rw [← hS];rw [← hS] at HCR2;have HS32 : Hid (S.length = 32) := by rw [hS]; exact sectB_length _ _
     obtain ⟨F5, d5, hdj, hfr5, hn5⟩ := HD5.out;have hd6 := hdj.below hb56;have HJB6 : Hid (JB w' xb db J) := Blk.below HJB5.out hb56;have hsl : J.slot ≤ 1 := by rw [HJ.out]; show 1 - m.st.slot ≤ 1; omega
     have hsq : (J.slot : Int) * 32 = ((32 * (1 - m.st.slot) : Nat) : Int) := by rw [HJ.out]; show ((1 - m.st.slot : Nat) : Int) * 32 = _; omega
     have HIN2 : Hid (32 * (1 - m.st.slot) + S.length ≤ W1.2.disk.length) := by
      show _ ≤ _;rw [HS32.out, HWS.out.2];have := HBD.out.2.2.2.2.2.1;omega
     have hGw : Glob B G w' := HG.out.fr ((Fr.of_below (S := fun b => F b ∨ b = jb) (bstep HB4.out HBBB.out)).trans (hfr5.trans (Fr.of_below (S := fun _ => False) hb56) (fun _ _ h => h.elim)) (fun _ _ h => h)) (fun b hb => (HH.out.foot hb).1);have hst2 := mstore_any jb db jb B F5 d5 W1.2 _ G (32 * (1 - m.st.slot)) S w' hd6 HU1.out.1 (by rw [HS32.out]; decide) HIN2.out hGw hd6.jrn hd6.apart;rw [← hsq] at hst2;have HST2 : Hid (Calls _ _ _ _ _) := hst2;have x3 : w'.cell? ⟨xb, 3, none⟩ = some (.int .i64 (J.slot : Int)) := Blk.cell HJB6.out 3;have HFX : Hid (¬ F5 xb ∧ jb ≠ xb) := by
      have h1 := HX0.out;have h2 := HBBB.out.size;have h3 := HXB.out;refine ⟨fun hx => ?_, fun e => ?_⟩
      ·rcases hn5 xb hx with h | h
       ·have := (HH.out.foot (Or.inl h)).2; omega
       ·omega
      ·have := HH.out.jrn.lt;omega
     have HD6 : Hid (DJ w' B db jb F5 W1.2 d5 ∧ Fr (fun b => F b ∨ b = jb) wb w5 ∧ (∀ b, F5 b → F b ∨ wb.heap.size ≤ b) ∧ Below w5.heap.size w5 w') := ⟨hd6, hfr5, hn5, hb56⟩;have HSLO : Hid (J.slot ≤ 1) := hsl;obtain ⟨W2, hW2⟩ : ∃ W2, W2 = W1.2.writes (32 * (1 - m.st.slot)) S := ⟨_, rfl⟩;rw [← hW2] at HST2 HCR2;have HWT : Hid (W2.2.st = m.st ∧ W2.2.disk.length = m.disk.length) := by
      rw [hW2];have := writes_st W1.2 (32 * (1 - m.st.slot)) S HU1.out.1 HU1.out.2;exact ⟨this.1.trans HWS.out.1, (this.2 HIN2.out).trans HWS.out.2⟩
     clear hS hW2 hdj hfr5 hn5 hd6 hsq hGw hst2 hb56 HHD HSA x1 x2 xl hbN hr0;go_wp2_with fail;clear x3;refine HST2.out.mono ?_;rintro e w7 ⟨rfl, F7, d7, ha, hok, hkd, hf, hn⟩;have HA : Hid (DrvAt w7 B db F7 d7 ∧ d7.ok ∧ KD W2.2 d7 ∧ Fr F5 w' w7 ∧ ∀ b, F7 b → F5 b ∨ w'.heap.size ≤ b) := ⟨ha, hok, hkd, hf, hn⟩;have HJB7 : Hid (JB w7 xb db J) := HJB6.out.kept hf HFX.out.1;have HJ7 : Hid (JB w7 jb db (jnOf m.disk.length m.st)) := by
      have := HD6.out.1.jrn.kept hf HD6.out.1.apart;rw [HWS.out.1, HWS.out.2] at this;exact this
     clear ha hok hkd hf hn HST2 HJB6;have HEND : Hid (∀ (st : St) (w9 : World) (Z : Nat → Prop), JB w9 jb db (jnOf m.disk.length st) → Fr Z w7 w9 → (∀ b, Z b → b = jb ∨ b = xb) → DJTo w B db jb F { W2.2 with st := st } w9) := fun st w9 Z hj hz hZ => by
      obtain ⟨ha, hok, hkd, hf, hn⟩ := HA.out;obtain ⟨hd6, hfr5, hn5, hb56⟩ := HD6.out;have s1 := HB4.out.size;have s2 := HBBB.out.size;have s3 := hfr5.size;have s4 := hb56.size;have hjw := HH.out.jrn.lt;have hxw := HXB.out;have hx7 := HJB7.out.lt;have hF7 : ∀ b, F7 b → F b ∨ w.heap.size ≤ b := fun b hb => by
       rcases hn b hb with h | h
       ·rcases hn5 b h with h | h
        ·exact Or.inl h
        ·exact Or.inr (by omega)
       ·exact Or.inr (by omega)
      have hnj : ¬ F7 jb := fun h => by
       rcases hn jb h with h | h
       ·exact hd6.apart h
       ·omega
      have hx0 := HX0.out;have hnx : ¬ F7 xb := fun h => by
       rcases hn xb h with h | h
       ·exact HFX.out.1 h
       ·omega
      refine ⟨F7, d7, ⟨ha.kept hz (fun b hb hZb => (hZ b hZb).elim (fun e => hnj (e ▸ hb)) (fun e => hnx (e ▸ hb))), hok, hkd.with_st st, ?_, hnj, HH.out.ge⟩, ?_, hF7⟩
      ·show JB w9 jb db (jnOf W2.2.disk.length st);rw [HWT.out.2]; exact hj
      ·refine ((((Fr.of_below (S := fun b => F b ∨ b = jb) (bstep HB4.out HBBB.out)).trans hfr5 (fun _ _ h => h)).trans (Fr.of_below (S := fun _ => False) hb56) (fun _ _ h => h.elim)).trans hf (fun b hb h => ?_)).trans hz (fun b hb h => ?_)
       ·rcases hn5 b h with h | h
        ·exact Or.inl h
        ·omega
       ·rcases hZ b h with e | e
        ·exact Or.inr e
        ·omega
     by_cases hw2 : W2.1 = true
     ·have HE : Hid (m.compact = (0, { W2.2 with st := m.st.next2 })) := HCR2.out.trans (if_pos hw2);rw [hw2];clear hw2 HCR2;unfold downV;go_wp2_with fail;refine (pass_any xb db r.length J _ HJB7.out (by have := HGJ.out.2.1; omega) (by have := HGJ.out.2.2.1; have := HGJ.out.2.2.2.1; omega) (by have := HRR.out.2; have := HSL.out; omega)).mono ?_;rintro e w8 ⟨rfl, hj8, hf8, hz8⟩;have HJ8 : Hid (JB w8 jb db (jnOf m.disk.length m.st)) := HJ7.out.kept hf8 HFX.out.2;have HF8 : Hid (Fr (· = xb) w7 w8) := hf8;have y0 : w8.cell? ⟨xb, 0, none⟩ = some (drvV db) := Blk.cell hj8 0;have y1 : w8.cell? ⟨xb, 1, none⟩ = some (.int .u32 ((J.passed r.length).gen : Int)) := Blk.cell hj8 1;have y2 : w8.cell? ⟨xb, 2, none⟩ = some (.int .u8 ((J.passed r.length).reg : Int)) := Blk.cell hj8 2;have y3 : w8.cell? ⟨xb, 3, none⟩ = some (.int .i64 ((J.passed r.length).slot : Int)) := Blk.cell hj8 3;have y4 : w8.cell? ⟨xb, 4, none⟩ = some (.int .i64 ((J.passed r.length).number : Int)) := Blk.cell hj8 4;have y5 : w8.cell? ⟨xb, 5, none⟩ = some (.int .i64 ((J.passed r.length).next : Int)) := Blk.cell hj8 5;have y6 : w8.cell? ⟨xb, 6, none⟩ = some (.int .i64 ((J.passed r.length).fin : Int)) := Blk.cell hj8 6;have fz : ∀ i, World.frozen? w8 ⟨jb, i, none⟩ = false := fun i => Blk.frozen HJ8.out i;have HPS : Hid (J.passed r.length = jnOf m.disk.length m.st.next2) := by
       show _ = _;rw [HJ.out, HRR.out.2, HSE.out];rfl
      generalize J.passed r.length = K at *
      obtain ⟨z0, z1, z2, z3, z4, z5, z6⟩ : (∃ v, w8.cell? ⟨jb, 0, none⟩ = some v) ∧ (∃ v, w8.cell? ⟨jb, 1, none⟩ = some v) ∧ (∃ v, w8.cell? ⟨jb, 2, none⟩ = some v) ∧ (∃ v, w8.cell? ⟨jb, 3, none⟩ = some v) ∧ (∃ v, w8.cell? ⟨jb, 4, none⟩ = some v) ∧ (∃ v, w8.cell? ⟨jb, 5, none⟩ = some v) ∧ (∃ v, w8.cell? ⟨jb, 6, none⟩ = some v) :=
       ⟨⟨_, Blk.cell HJ8.out 0⟩, ⟨_, Blk.cell HJ8.out 1⟩, ⟨_, Blk.cell HJ8.out 2⟩, ⟨_, Blk.cell HJ8.out 3⟩, ⟨_, Blk.cell HJ8.out 4⟩, ⟨_, Blk.cell HJ8.out 5⟩, ⟨_, Blk.cell HJ8.out 6⟩⟩
      obtain ⟨q0, z0⟩ := z0;obtain ⟨q1, z1⟩ := z1;obtain ⟨q2, z2⟩ := z2;obtain ⟨q3, z3⟩ := z3;obtain ⟨q4, z4⟩ := z4;obtain ⟨q5, z5⟩ := z5;obtain ⟨q6, z6⟩ := z6;unfold drvV at y0;clear hj8 hf8 hz8;go_wp2_with fail;go_ret;rw [HE.out];refine ⟨rfl, HEND.out m.st.next2 _ (fun b => b = jb ∨ b = xb) ?_ ?_ (fun b h => h)⟩
      ·rw [← HPS.out];exact ((((((HJ8.out.set 0 _).set 1 _).set 2 _).set 3 _).set 4 _).set 5 _).set 6 _
      ·have hz : Fr (fun b => b = jb ∨ b = xb) w7 w8 := HF8.out.mono (fun _ _ h => Or.inr h);exact ((((((hz.setCell ⟨jb, 0, none⟩ (fun _ => Or.inl rfl) _).setCell ⟨jb, 1, none⟩ (fun _ => Or.inl rfl) _).setCell ⟨jb, 2, none⟩ (fun _ => Or.inl rfl) _).setCell ⟨jb, 3, none⟩ (fun _ => Or.inl rfl) _).setCell ⟨jb, 4, none⟩ (fun _ => Or.inl rfl) _).setCell ⟨jb, 5, none⟩ (fun _ => Or.inl rfl) _).setCell ⟨jb, 6, none⟩ (fun _ => Or.inl rfl) _
     ·have hw2f : W2.1 = false := Bool.eq_false_iff.2 hw2;have HE : Hid (m.compact = (4, W2.2)) := HCR2.out.trans (if_neg hw2);rw [hw2f];clear hw2 hw2f HCR2;unfold downV errV;go_wp2_with fail;go_ret;rw [HE.out];refine ⟨rfl, ?_⟩;have := HEND.out m.st w7 (fun _ => False) HJ7.out (Fr.refl _ _) (fun _ h => h.elim);rw [← HWT.out.1] at this;exact this
    ·have hw1 : W1.1 = false := Bool.eq_false_iff.2 hw;have HE : Hid (m.compact = (4, W1.2)) := HCR.out.trans (if_neg hw);rw [hw1];unfold downV errV;clear hw hw1 HUP HCR;go_wp2_with fail;go_ret;rw [HE.out];exact ⟨rfl, DJTo.after_below (bstep HB4.out HBBB.out) HD5.out⟩
end Go.Proofs.YtmnajomkfnkmeaaGreatDoor
