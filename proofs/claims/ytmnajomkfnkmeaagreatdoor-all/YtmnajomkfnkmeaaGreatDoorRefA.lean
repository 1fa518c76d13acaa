import Derived.Test.YtmnajomkfnkmeaaGreatDoorNum
import Derived.Test.YtmnajomkfnkmeaaGreatDoorRefN
import Derived.Test.YtmnajomkfnkmeaaGreatDoorRefP
import Derived.Test.YtmnajomkfnkmeaaGreatDoorPlaces
import Derived.Test.YtmnajomkfnkmeaaGreatDoorPow
import Derived.BigQuiet
set_option maxRecDepth 20000
set_option maxHeartbeats 1000000
namespace Go.Proofs.YtmnajomkfnkmeaaGreatDoor
open Go.RowKit
attribute [local go_sem] ofL_size hexB_size
theorem seqL (a b : Bs) : ((ofL a).toList == (ofL b).toList) = decide (a = b) := by
 rw [eq_toList, Bool.eq_iff_iff, beq_iff_eq, decide_eq_true_iff]; exact ⟨fun h => by rwa [toL_ofL, toL_ofL] at h, fun h => by rw [h]⟩
def idI : Option Nat → Int
 | none => -1
 | some i => i
theorem hexF_text (k : Nat) (h : k < 4096) : hexB ((k / 16 : Nat) : Int) ++ (hexB ((k % 16 : Nat) : Int)).extract 1 2 = ofL (hexF k) := by
 unfold hexB hexF ofL dig;rw [show (((k / 16 : Nat) : Int) / 16).toNat = k / 256 % 16 by omega, show (((k / 16 : Nat) : Int) % 16).toNat = k / 16 % 16 by omega, show (((k % 16 : Nat) : Int) % 16).toNat = k % 16 by omega];rfl
theorem refof_any (s p : Bs) (w : World) (hs : s.length ≤ 1000) :
  Calls Tryz.prog 173 #[.string (ofL s), .string (ofL p)] w fun e w' => e = .returned (.int .i64 (idI (passOf s p))) ∧ Below w.heap.size w w' := by
 by_cases h9 : p.length = 9
 ·have H9 : Hid (p.length = 9) := h9;have hx : (ofL p).extract 2 5 = ofL ((p.drop 2).take 3) := by rw [extract_ofL]
  have HH : Hid (∀ k, k < 4096 → (p.drop 2).take 3 = hexF k → passOf s p = if p = passL s k then some k else none) := fun k hk h => passOf_hex hk h9 h;have HN : Hid ((∀ id, id < 4096 → (p.drop 2).take 3 ≠ hexF id) → passOf s p = none) := passOf_nohex;have HS : Hid ((ofL s).size < 9223372036854775800) := by show _ < _; rw [ofL_size]; omega
  generalize (p.drop 2).take 3 = P3 at *
  clear hs;go_enter Tryz.func173, Tryz.ntmps173;go_wp2_with fail
  go_loopw [5] (fun iv wx => ∃ k : Nat, k ≤ 4096 ∧ iv = .int .i64 k ∧ Hid (∀ id, id < k → P3 ≠ hexF id) ∧ Hid (Below w.heap.size w wx)) (fun iv _ => 4096 - (intOf iv).toNat)
  case atStart => exact ⟨0, by omega, rfl, fun id h => absurd h (Nat.not_lt_zero _), Below.refl _ _⟩
  case round =>
   obtain ⟨k, hk, rfl, HO, HB⟩ := hrel;by_cases hlt : k < 4096
   ·have q1 : (k : Int).tdiv 16 = ((k / 16 : Nat) : Int) := rfl;have q2 : (k : Int).tmod 16 = ((k % 16 : Nat) : Int) := rfl;have hf := hexF_text k hlt;have b1 : k / 16 < 256 := by omega
    have b2 : k % 16 < 16 := by omega
    have hpass : Hid (∀ w', Calls Tryz.prog 88 #[.string (ofL s), .int .i64 (k : Int)] w' fun e w'' => e = .returned (.string (ofL (passL s k))) ∧ ∃ nq, w'' = w'.drewN nq) := fun w' => refpass_any (ofL s) (k : Int) w' HS.out (by omega) (by omega);generalize k / 16 = k1 at *
    generalize k % 16 = k2 at *
    go_wp2_with fail;refine (hex_any _ _ (by omega) (by omega)).mono ?_;rintro e w1 ⟨rfl, n1, rfl⟩;go_wp2_with fail;refine (hex_any _ _ (by omega) (by omega)).mono ?_;rintro e w2 ⟨rfl, n2, rfl⟩;have HB2 : Hid (Below w.heap.size w ((wr.drewN n1).drewN n2)) := below_drewN (below_drewN HB.out _) _;generalize (wr.drewN n1).drewN n2 = w2 at *
    have hc := seqL P3 (hexF k);by_cases hh : P3 = hexF k
    ·rw [decide_eq_true hh] at hc;have HV := HH.out k hlt hh;have hc2 := seqL p (passL s k);generalize hexF k = hk3 at *
     generalize passL s k = PK at *
     by_cases hq : p = PK
     ·rw [decide_eq_true hq] at hc2;rw [if_pos hq] at HV;have HV : Hid (_ = _) := HV;clear hq hh;go_wp2_with fail;refine (hpass.out _).mono ?_;rintro e w3 ⟨rfl, n3, rfl⟩;go_wp2_with fail;go_ret;exact ⟨by rw [HV.out]; rfl, below_drewN HB2.out _⟩
     ·rw [decide_eq_false hq] at hc2;rw [if_neg hq] at HV;have HV : Hid (_ = _) := HV;clear hq hh;go_wp2_with fail;refine (hpass.out _).mono ?_;rintro e w3 ⟨rfl, n3, rfl⟩;go_wp2_with fail;go_ret;exact ⟨by rw [HV.out]; rfl, below_drewN HB2.out _⟩
    ·rw [decide_eq_false hh] at hc;have HO2 : Hid (∀ id, id < k + 1 → P3 ≠ hexF id) := fun id h => by
      by_cases e : id = k
      ·rw [e]; exact hh
      ·exact HO.out id (by omega)
     generalize hexF k = hk3 at *
     clear hh;go_wp2_with fail;go_roundw
     case rel => exact ⟨k + 1, by omega, by go_num, HO2, HB2⟩
     case measure => simp [intOf]; omega
   ·have hke : k = 4096 := by omega
    have HV : Hid (passOf s p = none) := HN.out (fun id h => HO.out id (by omega));go_wp2_with fail;go_ret;exact ⟨by rw [HV.out]; rfl, HB.out⟩
 ·have HV : Hid (passOf s p = none) := passOf_none_len h9;go_enter Tryz.func173, Tryz.ntmps173;go_wp2_with fail;go_ret;exact ⟨by rw [HV.out]; rfl, Below.refl _ _⟩
def headI (s : Bs) : Nat × Nat := match headOf s with | none => (0, 0) | some h => h
theorem headof_any (s : Bs) (w : World) (hs : s.length = 32) :
  Calls Tryz.prog 78 #[.string (ofL s)] w fun e w' => e = .returned (.agg #[.int .i64 (headI s).1, .int .i64 (headI s).2]) ∧ Below w.heap.size w w' := by
 have h6 : 6 < s.length := by omega
 have hx : (ofL s).extract 2 6 = ofL ((s.drop 2).take 4) := by rw [extract_ofL]
 have hN : ∀ w', Calls Tryz.prog 131 #[.string (ofL ((s.drop 2).take 4))] w' fun e w'' => e = .returned (.int .i64 (numL ((s.drop 2).take 4))) ∧ w'' = w' := fun w' => by
  have := number_any (ofL ((s.drop 2).take 4)) w' (by rw [ofL_size, List.length_take]; omega)
  rwa [toL_ofL] at this
 have HN : Hid (∀ w', Calls _ _ _ w' _) := hN;have h8 : (s.drop 6).take 1 = [s[6]] := by
  rw [List.drop_eq_getElem_cons h6]; rfl
 have hr : numL ((s.drop 6).take 1) = s[6].toNat := by rw [h8]; simp [numL]
 have HS : Hid (headI s = if 1 ≤ numL ((s.drop 2).take 4) ∧ s[6].toNat ≤ 1 ∧ sectB (numL ((s.drop 2).take 4)) s[6].toNat = s then (numL ((s.drop 2).take 4), s[6].toNat) else (0, 0)) := by
  show _ = _;unfold headI headOf;rw [hr];by_cases h : 1 ≤ numL ((s.drop 2).take 4) ∧ s[6].toNat ≤ 1 ∧ sectB (numL ((s.drop 2).take 4)) s[6].toNat = s
  ·rw [if_pos h, if_pos h]
  ·rw [if_neg h, if_neg h]
 have hix : (ofL s)[6]'(by rw [ofL_size]; omega) = s[6] := rfl;have hb6 := s[6].toNat_lt;have hg : numL ((s.drop 2).take 4) < 4294967296 := by
  have := numL_lt ((s.drop 2).take 4)
  rwa [List.length_take, List.length_drop, show min 4 (s.length - 2) = 4 by omega] at this
 clear hN h8 hr;generalize numL ((s.drop 2).take 4) = g at *
 generalize (s.drop 2).take 4 = S4 at *
 obtain ⟨r, hr6⟩ : ∃ r, s[6].toNat = r := ⟨_, rfl⟩;rw [hr6] at hb6 HS;have hwr : IntKind.i64.wrap (r : Int) = r := by rw [IntKind.wrap_i64]; omega
 have HSC : Hid (∀ w', Calls Tryz.prog 93 #[.agg #[.int .i64 (g : Int), .int .i64 (r : Int)]] w' fun e w'' => e = .returned (.string (ofL (sectB g r))) ∧ Below w'.heap.size w' w'') := fun w' => by
  have := sector_any (g : Int) (r : Int) w' (by omega) (by omega) (by omega) (by omega)
  rwa [sectorA_L] at this
 obtain ⟨V, hV⟩ : ∃ V, V = headI s := ⟨_, rfl⟩;rw [← hV];rw [← hV] at HS;clear hV;go_enter Tryz.func78, Tryz.ntmps78;go_upto_region 1 with fail
 go_cut [3] (fun s3 wx => s3 = .pointer (some ⟨w.heap.size + 1, 0, none⟩) ∧ wx = ((w.alloc (.cells #[.int .i64 0, .int .i64 0] 127)).alloc (.cells #[.int .i64 g, .int .i64 r] 127)).drew)
 case first =>
  go_region_with (go_at_call 131; refine (HN.out _).mono ?_; rintro e w' ⟨rfl, rfl⟩)
  all_goals (go_wp2_with fail; go_meet; exact ⟨rfl, rfl⟩)
 case rest =>
 obtain ⟨rfl, rfl⟩ := hcut;clear hr6 hwr HN hx hix;by_cases hg0 : g = 0
 ·have HV : Hid (V = (0, 0)) := by rw [HS.out, if_neg (by omega)]; exact rfl
  subst hg0;go_wp2_with fail;refine bodyPost_ret (v := .agg #[.int .i64 0, .int .i64 0]) (by simp [results, Tryz.results78, go_sem]) rfl ⟨by rw [HV.out]; rfl, ?_⟩;exact ((bA).alloc (by simp) _).drew
 ·by_cases hr1 : 1 < r
  ·have HV : Hid (V = (0, 0)) := by rw [HS.out, if_neg (by omega)]; exact rfl
   go_wp2_with fail;refine bodyPost_ret (v := .agg #[.int .i64 0, .int .i64 0]) (by simp [results, Tryz.results78, go_sem]) rfl ⟨by rw [HV.out]; rfl, ?_⟩;exact ((bA).alloc (by simp) _).drew
  ·have hq := seqL (sectB g r) s;have hgb : ((g : Int) == 0) = false := by rw [Bool.eq_false_iff]; intro h; rw [beq_iff_eq] at h; omega
   have hrb : ¬ (1 : Int) < r := by omega
   have hb1 : Blk (((w.alloc (.cells #[.int .i64 0, .int .i64 0] 127)).alloc (.cells #[.int .i64 g, .int .i64 r] 127)).drew) w.heap.size #[.int .i64 0, .int .i64 0] 127 := ((Blk.new w _ _).alloc _).drew;have hb2 : Blk (((w.alloc (.cells #[.int .i64 0, .int .i64 0] 127)).alloc (.cells #[.int .i64 g, .int .i64 r] 127)).drew) (w.heap.size + 1) #[.int .i64 g, .int .i64 r] 127 := by
    have := (Blk.new (w.alloc (.cells #[.int .i64 0, .int .i64 0] 127)) #[.int .i64 (g : Int), .int .i64 (r : Int)] 127).drew;simpa using this
   have hbw : Below w.heap.size w (((w.alloc (.cells #[.int .i64 0, .int .i64 0] 127)).alloc (.cells #[.int .i64 g, .int .i64 r] 127)).drew) := ((bA).alloc (by simp) _).drew;have HB : Hid (_ ∧ _ ∧ _) := ⟨hb1, hb2, hbw⟩;clear hb1 hb2 hbw;by_cases hsec : sectB g r = s
   ·have HV : Hid (V = (g, r)) := by rw [HS.out, if_pos ⟨by omega, by omega, hsec⟩]; exact rfl
    rw [decide_eq_true hsec] at hq;clear hsec HS;generalize sectB g r = S at *
    go_wp2_with fail;refine (HSC.out _).mono ?_;rintro e w3 ⟨rfl, hb3⟩;have k1 := HB.out.1.below hb3;have k2 := HB.out.2.1.below hb3;have HB3 : Hid (Below w.heap.size w w3) := HB.out.2.2.trans (hb3.mono HB.out.2.2.size);clear hb3 HB;have a0 := k1.cell 0;have a1 := k1.cell 1;have a2 := k1.frozen 0;have a3 := k1.frozen 1;have a4 := k2.cell 0;have a5 := k2.cell 1;simp only [gT, gZ, gS] at a0 a1 a4 a5;have hlt := k1.lt;clear k1 k2;go_wp2_with fail;refine bodyPost_ret (v := .agg #[.int .i64 g, .int .i64 r]) (by simp [results, Tryz.results78, go_sem, a0, a1]) rfl ⟨by rw [HV.out], ?_⟩;exact (HB3.out.setCell (Nat.le_refl _) _).setCell (Nat.le_refl _) _
   ·have HV : Hid (V = (0, 0)) := by rw [HS.out, if_neg (fun h => hsec h.2.2)]; exact rfl
    rw [decide_eq_false hsec] at hq;clear hsec HS;generalize sectB g r = S at *
    go_wp2_with fail;refine (HSC.out _).mono ?_;rintro e w3 ⟨rfl, hb3⟩;have k1 := HB.out.1.below hb3;have k2 := HB.out.2.1.below hb3;have HB3 : Hid (Below w.heap.size w w3) := HB.out.2.2.trans (hb3.mono HB.out.2.2.size);clear hb3 HB;have a0 := k1.cell 0;have a1 := k1.cell 1;have a2 := k1.frozen 0;have a3 := k1.frozen 1;simp only [gT, gZ, gS] at a0 a1;have hlt := k1.lt;clear k1 k2;go_wp2_with fail;refine bodyPost_ret (v := .agg #[.int .i64 0, .int .i64 0]) (by simp [results, Tryz.results78, go_sem, a0, a1]) rfl ⟨by rw [HV.out]; rfl, ?_⟩;exact (HB3.out.setCell (Nat.le_refl _) _).setCell (Nat.le_refl _) _
end Go.Proofs.YtmnajomkfnkmeaaGreatDoor
