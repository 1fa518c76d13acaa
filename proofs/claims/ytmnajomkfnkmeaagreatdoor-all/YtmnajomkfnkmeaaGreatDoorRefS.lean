import Derived.Test.YtmnajomkfnkmeaaGreatDoorRefW
import Derived.Deep.RegionHeld3
import Derived.Deep.DeepCutAuto
set_option maxRecDepth 100000
set_option maxHeartbeats 8000000
namespace Go.Proofs.YtmnajomkfnkmeaaGreatDoor
open Go.RowKit
attribute [local go_sem] ofL_size nA_size
theorem dtext_any (s : Bs) (w : World) (h : s.length ≤ 255) :
  Calls Tryz.prog 141 #[.string (ofL s)] w fun e w' => e = .returned (.string (ofL (tB s))) ∧ Below w.heap.size w w' := by
 have HE : Hid (nA 1 (s.length : Int) ++ ofL s = ofL (tB s)) := by
  show _ = _;unfold tB;rw [ofL_append]; rfl
 go_enter Tryz.func141, Tryz.ntmps141;go_wp2_with fail;refine (N1 _ _ (by omega) (by omega)).mono ?_;rintro e w1 ⟨rfl, hb1⟩;go_wp2_with fail;go_ret;exact ⟨by rw [← HE.out]; rfl, hb1⟩
theorem drows_len {T : Tab} (h : T.wf) (n : Nat) : (rowsB (T.rows n)).length ≤ 70 * n := by
 induction n with
 | zero => simp [Tab.rows, rowsB]
 | succ n ih =>
  rw [rows_succ];unfold rowsB at ih ⊢;rw [List.map_append, List.flatten_append, List.length_append];cases ht : T n with
  | none => simp only [List.map_nil, List.flatten_nil, List.length_nil]; omega
  | some x =>
   have hw := (h.each n x ht).2;have h1 : (sessB n x).length ≤ 70 := by
    unfold sessB;simp only [List.length_append, nB_length];have := vals_len hw.each;have := hw.few;omega
   simp only [List.map_cons, List.map_nil, List.flatten_cons, List.flatten_nil, List.append_nil];omega
theorem RT.six {w : World} {tb : Nat} {T : Tab} {f : RF} (h : RT w tb T f) {i : Nat} (hi : i < 4096) {x : Sess} (hx : T i = some x) :
  w.cell? ⟨tb, i * 6, none⟩ = some (.bool true) ∧ w.cell? ⟨tb, i * 6 + 1, none⟩ = some (.int .i64 (x.user : Int)) ∧ w.cell? ⟨tb, i * 6 + 2, none⟩ = some (.int .i64 (x.created : Int)) ∧ w.cell? ⟨tb, i * 6 + 3, none⟩ = some (.int .i64 (x.used : Int)) ∧ w.cell? ⟨tb, i * 6 + 4, none⟩ = some (f i).1 ∧ w.cell? ⟨tb, i * 6 + 5, none⟩ = some (f i).2 := by
 have e := fun j hj => h.cell hi j hj;rw [hx] at e;exact ⟨e 0 (by decide), e 1 (by decide), e 2 (by decide), e 3 (by decide), e 4 (by decide), e 5 (by decide)⟩
theorem RT.zero {w : World} {tb : Nat} {T : Tab} {f : RF} (h : RT w tb T f) {i : Nat} (hi : i < 4096) (hx : T i = none) :
  w.cell? ⟨tb, i * 6, none⟩ = some (.bool false) ∧ w.cell? ⟨tb, i * 6 + 1, none⟩ = some (.int .i64 0) ∧ w.cell? ⟨tb, i * 6 + 2, none⟩ = some (.int .i64 0) ∧ w.cell? ⟨tb, i * 6 + 3, none⟩ = some (.int .i64 0) ∧ w.cell? ⟨tb, i * 6 + 4, none⟩ = some (.slice none 0 0) ∧ w.cell? ⟨tb, i * 6 + 5, none⟩ = some (.slice none 0 0) := by
 have e := fun j hj => h.cell hi j hj;rw [hx] at e;exact ⟨e 0 (by decide), e 1 (by decide), e 2 (by decide), e 3 (by decide), e 4 (by decide), e 5 (by decide)⟩
theorem stepA4 {w0 w1 w2 : World} {a b c d : Addr} {u v x y : Value} (h : w1.cell? a = some u ∧ w1.cell? b = some v ∧ w1.cell? c = some x ∧ w1.cell? d = some y ∧ a.block < w1.heap.size ∧ b.block < w1.heap.size ∧ c.block < w1.heap.size ∧ d.block < w1.heap.size ∧ Below w0.heap.size w0 w1) (hb : Below w1.heap.size w1 w2) :
  w2.cell? a = some u ∧ w2.cell? b = some v ∧ w2.cell? c = some x ∧ w2.cell? d = some y ∧ a.block < w2.heap.size ∧ b.block < w2.heap.size ∧ c.block < w2.heap.size ∧ d.block < w2.heap.size ∧ Below w0.heap.size w0 w2 := by
 obtain ⟨h1, h2, h3, h4, l1, l2, l3, l4, hb0⟩ := h;exact ⟨(belowAt hb l1).trans h1, (belowAt hb l2).trans h2, (belowAt hb l3).trans h3, (belowAt hb l4).trans h4, Nat.lt_of_lt_of_le l1 hb.size, Nat.lt_of_lt_of_le l2 hb.size, Nat.lt_of_lt_of_le l3 hb.size, Nat.lt_of_lt_of_le l4 hb.size, bstep hb0 hb⟩
theorem dsnap_any (tb : Nat) (T : Tab) (f : RF) (w : World) (h : RT w tb T f) (hw : T.wf) :
  Calls Tryz.prog 91 #[.slice (some ⟨tb, 0, none⟩) 4096 4096] w fun e w' => e = .returned (.string (ofL (snapB T))) ∧ Below w.heap.size w w' := by
 have H : Hid (RT w tb T f) := h;have HWF : Hid T.wf := hw;have HLV : Hid (Calls _ _ _ _ _) := rlive_any tb T f w h;obtain ⟨R, hR⟩ : ∃ R : Nat → Bs, R = fun n => nB 1 T.live ++ rowsB (T.rows n) := ⟨_, rfl⟩;have HR0 : Hid (R 0 = nB 1 T.live) := by rw [hR]; show _ ++ [] = _; rw [List.append_nil]
 have HRN : Hid (∀ n, R (n + 1) = R n ++ (match T n with | some x => sessB n x | none => [])) := by
  rw [hR];intro n;show _ ++ rowsB (T.rows (n + 1)) = (_ ++ rowsB (T.rows n)) ++ _;rw [rows_succ, List.append_assoc];congr 1;unfold rowsB;rw [List.map_append, List.flatten_append];cases T n <;> simp
 have HRE : Hid (R 4096 = snapB T) := by rw [hR]; rfl
 have HRL : Hid (∀ n, n ≤ 4096 → (R n).length ≤ 400000) := by
  rw [hR];intro n hn;show (nB 1 T.live ++ rowsB (T.rows n)).length ≤ _;rw [List.length_append, nB_length];have := drows_len hw n;omega
 have hfew := hw.few;clear h hw hR;generalize snapB T = SB at *
 generalize T.live = lv at *
 go_enter Tryz.func91, Tryz.ntmps91;go_wp2_with fail;refine HLV.out.mono ?_;rintro e w' ⟨rfl, hw'⟩;subst w';clear HLV;go_wp2_with fail;refine (N1 _ _ (by omega) (by omega)).mono ?_;rintro e w2 ⟨rfl, hb2⟩;have HB2 : Hid (Below w.heap.size w w2) := hb2;have HN1 : Hid (nA 1 (lv : Int) = ofL (R 0)) := by rw [HR0.out]; exact rfl
 clear hb2;go_wp2_with fail
 go_loopw [4, 5] (fun sv iv wx => ∃ k : Nat, k ≤ 4096 ∧ iv = .int .i64 k ∧ sv = .string (ofL (R k)) ∧ Hid (Below w.heap.size w wx)) (fun _ iv _ => 4096 - (intOf iv).toNat)
 case atStart => exact ⟨0, Nat.zero_le _, rfl, by rw [HN1.out], HB2.out⟩
 case round =>
  obtain ⟨k, hk, rfl, rfl, HB⟩ := hrel;by_cases hlt : k < 4096
  ·have hst := HRN.out k;cases ht : T k with
   | none =>
    rw [ht] at hst;have hst : R (k + 1) = R k := by rw [hst]; exact List.append_nil _
    have HST : Hid (R (k + 1) = R k) := hst;obtain ⟨c0, c1, c2, c3, c4, c5⟩ := (H.out.below HB.out).zero hlt ht;clear hst ht;go_wp2_with fail;go_roundw
    case rel => exact ⟨k + 1, hlt, by go_num, by rw [HST.out], HB.out.alloc HB.out.size _⟩
    case measure => simp [intOf]; omega
   | some x =>
    rw [ht] at hst;have HST : Hid (R (k + 1) = R k ++ sessB k x) := hst;have HX : Hid x.wf := (HWF.out.each k x ht).2;have Hr := H.out.below HB.out;obtain ⟨c0, c1, c2, c3, c4, c5⟩ := Hr.six hlt ht;have hN := Hr.nms k hlt;have hV := Hr.vls k hlt;rw [ht] at hN hV;have hN : SO wr (f k).1 (x.vals.map (·.1)) := hN;have hV : SO wr (f k).2 (x.vals.map (·.2)) := hV;obtain ⟨na, nc, hnv, hna⟩ := so_slice hN;obtain ⟨va, vc, hvv, hva⟩ := so_slice hV;rw [List.length_map] at hnv hna hvv hva;obtain ⟨L, hL⟩ : ∃ L, L = x.vals.length := ⟨_, rfl⟩;have HL : Hid (L = x.vals.length) := hL;rw [← hL] at hnv hna hvv hva;rw [hnv] at c4 hN;rw [hvv] at c5 hV;have HN : Hid (SO wr (.slice na L nc) (x.vals.map (·.1))) := hN;have HV : Hid (SO wr (.slice va L vc) (x.vals.map (·.2))) := hV;have HNA : Hid (_ → _) := hna;have HVA : Hid (_ → _) := hva;have hx3 : L ≤ 3 := by rw [hL]; exact HX.out.few
    have HBO : Hid (x.user ≤ 99 ∧ x.created ≤ 1000000000 ∧ x.used ≤ 1000000000) := ⟨HX.out.u1, HX.out.c1, HX.out.s1⟩;have HSE : Hid (sessB k x = nB 2 k ++ nB 1 x.user ++ nB 4 x.created ++ nB 4 x.used ++ nB 1 L ++ valsB x.vals) := by rw [hL]; exact rfl
    have HRK : Hid ((R k).length ≤ 400000) := HRL.out k hk;clear hst ht hnv hvv hna hva hN hV Hr hL;obtain ⟨w0, hw0⟩ : ∃ w0, w0 = wr := ⟨_, rfl⟩;subst hw0;have HB1 : Hid (Blk (w0.alloc (.cells #[.bool true, .int .i64 x.user, .int .i64 x.created, .int .i64 x.used, .slice na L nc, .slice va L vc] 194)) w0.heap.size _ 194) := Blk.new _ _ _;have HBA : Hid (Below w0.heap.size w0 (w0.alloc (.cells #[.bool true, .int .i64 x.user, .int .i64 x.created, .int .i64 x.used, .slice na L nc, .slice va L vc] 194))) := bA;go_upto_region 8 with fail
    generalize w0.alloc (.cells #[.bool true, .int .i64 (x.user : Int), .int .i64 (x.created : Int), .int .i64 (x.used : Int), .slice na L nc, .slice va L vc] 194) = wn at *
    have d1 := HB1.out.cell 1;have d2 := HB1.out.cell 2;have d3 := HB1.out.cell 3;have d4 := HB1.out.cell 4;have hbl := HB1.out.lt;simp only [gT, gZ, gS] at d1 d2 d3 d4;obtain ⟨hu, hcr, hus⟩ := HBO.out;generalize x.user = xu at *
    generalize x.created = xc at *
    generalize x.used = xs at *
    have hs0 := HRK.out;generalize hS0 : R k = s0 at *
    have HS0 : Hid (R k = s0) := hS0;clear hS0 c0 c1 c2 c3 c4 c5 HB2 HBO;have p1 : ¬ (9223372036854775807 < s0.length + 2) := by omega
    have p2 : ¬ (9223372036854775807 < s0.length + 3) := by omega
    have p3 : ¬ (9223372036854775807 < s0.length + 7) := by omega
    have p4 : ¬ (9223372036854775807 < s0.length + 11) := by omega
    have p5 : ¬ (9223372036854775807 < s0.length + 12) := by omega
    go_region_held3 (fun w' => w'.cell? ⟨w0.heap.size, 1, none⟩ = some (.int .i64 (xu : Int)) ∧ w'.cell? ⟨w0.heap.size, 2, none⟩ = some (.int .i64 (xc : Int)) ∧ w'.cell? ⟨w0.heap.size, 3, none⟩ = some (.int .i64 (xs : Int)) ∧ w'.cell? ⟨w0.heap.size, 4, none⟩ = some (.slice na L nc) ∧ w0.heap.size < w'.heap.size ∧ Below wn.heap.size wn w')
     (first
      | exact step4 (by assumption) (by assumption)
      | assumption
      | exact ⟨d1, d2, d3, d4, hbl, (Below.refl _ _).drew⟩)
     (first
      | (go_at_call_of 87 (Value.int .i64 2); refine (N2 _ _ (by omega) (by omega)).mono ?_; rintro e w' ⟨rfl, hbN⟩)
      | (go_at_call_of 87 (Value.int .i64 (xu : Int)); refine (N1 _ _ (by omega) (by omega)).mono ?_; rintro e w' ⟨rfl, hbN⟩)
      | (go_at_call_of 87 (Value.int .i64 (L : Int)); refine (N1 _ _ (by omega) (by omega)).mono ?_; rintro e w' ⟨rfl, hbN⟩)
      | (go_at_call_of 87 (Value.int .i64 4); refine (N4 _ _ (by omega) (by omega)).mono ?_; rintro e w' ⟨rfl, hbN⟩))
    rename_i hHeld;have HBM : Hid (Below wn.heap.size wn w') := hHeld.2.2.2.2.2;obtain ⟨wm, hwm⟩ : ∃ wm, wm = w' := ⟨_, rfl⟩;subst hwm;clear hHeld d1 d2 d3 d4 p1 p2 p3 p4 p5 hbl;obtain ⟨t0, ht0⟩ : ∃ t0, t0 = s0 ++ (nB 2 k ++ nB 1 xu ++ nB 4 xc ++ nB 4 xs ++ nB 1 L) := ⟨_, rfl⟩;have HT0 : Hid (ofL s0 ++ nA 2 (k : Int) ++ nA 1 (xu : Int) ++ nA 4 (xc : Int) ++ nA 4 (xs : Int) ++ nA 1 (L : Int) = ofL t0) := by
     show _ = _;apply toL_inj;rw [ht0];simp only [toL_append, toL_ofL, List.append_assoc];rfl
    have HST2 : Hid (R (k + 1) = t0 ++ valsB x.vals) := by
     show _ = _;rw [HST.out, HSE.out, ht0];simp only [List.append_assoc]
    have ht0l : t0.length ≤ 400012 := by
     rw [ht0];simp only [List.length_append, nB_length];have := HRK.out;omega
    have HBX := HB1.out.below HBM.out;have HBX : Hid (Blk _ _ _ _) := HBX;have HVO : Hid (∀ y ∈ x.vals, valOk y) := HX.out.each;rw [HT0.out];clear ht0 HT0 HST HSE HS0 hs0 HRK hu hcr hus HB1;go_wp2_with fail
    go_loopw [4, 7] (fun sv jv wx => ∃ j : Nat, j ≤ L ∧ jv = .int .i64 j ∧ sv = .string (ofL (t0 ++ valsB (x.vals.take j))) ∧ Hid (Below wm.heap.size wm wx)) (fun _ jv _ => L - (intOf jv).toNat)
    case atStart =>
     refine ⟨0, Nat.zero_le _, rfl, ?_, Below.refl _ _⟩;show _ = Value.string (ofL (t0 ++ []));rw [List.append_nil]
    case round =>
     obtain ⟨j, hj, rfl, rfl, HW⟩ := hrel;have hbx := HBX.out.below HW.out;have e4 := hbx.cell 4;have e5 := hbx.cell 5;simp only [gT, gZ, gS] at e4 e5;have hbl := hbx.lt;by_cases hjl : j < L
     ·have hj2 : j < x.vals.length := by rw [← HL.out]; exact hjl
      obtain ⟨q, rfl, hq⟩ := HNA.out (by omega);obtain ⟨q2, rfl, hq2⟩ := HVA.out (by omega);have HCH : Hid (Below w0.heap.size w0 wr) := bstep HBA.out (bstep HBM.out HW.out);obtain ⟨n1, hn1⟩ : ∃ n1, n1 = x.vals[j].1 := ⟨_, rfl⟩;obtain ⟨v1, hv1⟩ : ∃ v1, v1 = x.vals[j].2 := ⟨_, rfl⟩;have cn : wr.cell? ⟨q, j, none⟩ = some (.string (ofL n1)) := by
       rw [belowAt HCH.out hq, HN.out.cell j (by rw [List.length_map]; exact hj2), hn1, List.getElem_map]
      have cv : wr.cell? ⟨q2, j, none⟩ = some (.string (ofL v1)) := by
       rw [belowAt HCH.out hq2, HV.out.cell j (by rw [List.length_map]; exact hj2), hv1, List.getElem_map]
      have hok := HVO.out _ (List.getElem_mem hj2);rw [show x.vals[j] = (n1, v1) from by rw [hn1, hv1]] at hok;have HD1 : Hid (∀ w', Calls Tryz.prog 141 #[.string (ofL n1)] w' fun e w'' => e = .returned (.string (ofL (tB n1))) ∧ Below w'.heap.size w' w'') := fun w' => dtext_any n1 w' (by have := hok.2.1; show n1.length ≤ 255; exact Nat.le_trans this (by decide));have HD2 : Hid (∀ w', Calls Tryz.prog 141 #[.string (ofL v1)] w' fun e w'' => e = .returned (.string (ofL (tB v1))) ∧ Below w'.heap.size w' w'') := fun w' => dtext_any v1 w' (by have := hok.2.2; show v1.length ≤ 255; exact Nat.le_trans this (by decide));have HNX : Hid (valsB (x.vals.take (j + 1)) = valsB (x.vals.take j) ++ (tB n1 ++ tB v1)) := by rw [vals_snoc hj2, hn1, hv1]; exact rfl
      have s1 : (tB n1).length ≤ 9 := by rw [tB_length]; have : n1.length ≤ 8 := hok.2.1; omega
      have s2 : (tB v1).length ≤ 9 := by rw [tB_length]; have : v1.length ≤ 8 := hok.2.2; omega
      have s3 : (valsB (x.vals.take j)).length ≤ 1000 := vals_small HVO.out (by rw [← HL.out]; exact hx3);have l1 : q < wr.heap.size := Nat.lt_of_lt_of_le hq HCH.out.size;have l2 : q2 < wr.heap.size := Nat.lt_of_lt_of_le hq2 HCH.out.size;clear hn1 hv1 hok hbx;generalize tB n1 = y1 at *
      generalize tB v1 = y2 at *
      obtain ⟨ac, hac⟩ : ∃ ac, ac = t0 ++ valsB (x.vals.take j) := ⟨_, rfl⟩;have HAC : Hid (ac = t0 ++ valsB (x.vals.take j)) := hac;have hacl : ac.length ≤ 401012 := by rw [hac, List.length_append]; omega
      rw [← hac];clear hac s3;have p1 : ¬ (9223372036854775807 < ac.length + y1.length) := by omega
      have p2 : ¬ (9223372036854775807 < ac.length + y1.length + y2.length) := by omega
      go_upto_region 12 with fail
      clear hacl s1 s2
      go_region_held3 (fun w' => w'.cell? ⟨w0.heap.size, 4, none⟩ = some (.slice (some ⟨q, 0, none⟩) L nc) ∧ w'.cell? ⟨w0.heap.size, 5, none⟩ = some (.slice (some ⟨q2, 0, none⟩) L vc) ∧ w'.cell? ⟨q, j, none⟩ = some (.string (ofL n1)) ∧ w'.cell? ⟨q2, j, none⟩ = some (.string (ofL v1)) ∧ w0.heap.size < w'.heap.size ∧ w0.heap.size < w'.heap.size ∧ q < w'.heap.size ∧ q2 < w'.heap.size ∧ Below wr.heap.size wr w')
       (first
        | exact stepA4 (by assumption) (by assumption)
        | assumption
        | exact ⟨e4, e5, cn, cv, hbl, hbl, l1, l2, (Below.refl _ _).drew⟩)
       (first
        | (go_at_call_of 141 (Value.string (ofL n1)); refine (HD1.out _).mono ?_; rintro e w' ⟨rfl, hbN⟩)
        | (go_at_call_of 141 (Value.string (ofL v1)); refine (HD2.out _).mono ?_; rintro e w' ⟨rfl, hbN⟩))
      rename_i hHeld;have HB3 : Hid (Below wm.heap.size wm w') := bstep HW.out hHeld.2.2.2.2.2.2.2.2;have HT3 : Hid (ofL ac ++ ofL y1 ++ ofL y2 = ofL (t0 ++ valsB (x.vals.take (j + 1)))) := by
       show _ = _;rw [HNX.out, HAC.out];apply toL_inj;simp only [toL_append, toL_ofL, List.append_assoc]
      rw [HT3.out];clear hHeld e4 e5 cn cv p1 p2 l1 l2 HT3 HD1 HD2;go_wp2_with fail;go_roundw
      case rel => exact ⟨j + 1, hjl, by go_num, rfl, HB3⟩
      case measure => simp [intOf]; omega
     ·have hje : j = L := by omega
      have HF : Hid (t0 ++ valsB (x.vals.take j) = R (k + 1)) := by
       show _ = _;rw [HST2.out, List.take_of_length_le (by have := HL.out; omega)]
      have HBF : Hid (Below w.heap.size w wr) := bstep HB.out (bstep HBA.out (bstep HBM.out HW.out));rw [HF.out];go_wp2_with fail;go_roundw
      case rel => exact ⟨k + 1, hlt, by go_num, rfl, HBF⟩
      case measure => simp [intOf]; omega
  ·have hke : k = 4096 := by omega
   subst hke;go_wp2_with fail;go_ret;exact ⟨by rw [← HRE.out]; rfl, HB.out⟩
end Go.Proofs.YtmnajomkfnkmeaaGreatDoor
