import Derived.Test.YtmnajomkfnkmeaaGreatDoorRSess
import Derived.Test.YtmnajomkfnkmeaaGreatDoorStaD
import Derived.Test.YtmnajomkfnkmeaaGreatDoorPurB
set_option maxRecDepth 100000
set_option maxHeartbeats 1000000
namespace Go.Proofs.YtmnajomkfnkmeaaGreatDoor
open Go.RowKit
attribute [local go_sem] ofL_size nA_size
theorem vals_snoc {l : List (Bs × Bs)} {k : Nat} (h : k < l.length) : valsB (l.take (k + 1)) = valsB (l.take k) ++ (tB l[k].1 ++ tB l[k].2) := by
 unfold valsB;rw [List.take_succ_eq_append_getElem h, List.map_append, List.flatten_append];simp
theorem vals_len {l : List (Bs × Bs)} (h : ∀ y ∈ l, valOk y) : (valsB l).length ≤ 18 * l.length := by
 induction l with
 | nil => simp [valsB]
 | cons y l ih =>
  have h1 := h y (by simp);have h2 := ih (fun z hz => h z (by simp [hz]));have h3 : (valsB (y :: l)).length = (tB y.1).length + (tB y.2).length + (valsB l).length := by
   unfold valsB; simp; omega
  rw [h3, tB_length, tB_length, List.length_cons];unfold valOk at h1;omega
theorem vals_small {l : List (Bs × Bs)} (h : ∀ y ∈ l, valOk y) {k : Nat} (hk : l.length ≤ 3) : (valsB (l.take k)).length ≤ 1000 := by
 have := vals_len (l := l.take k) (fun y hy => h y (List.mem_of_mem_take hy));have h2 : (l.take k).length ≤ 3 := by rw [List.length_take]; omega
 omega
theorem spay_any (q id : Nat) (x : Sess) (s : Value) (w : World) (h : SAt w q id x s) (hx : x.wf) (hid : id < 4096) :
  Calls Tryz.prog 164 #[.pointer (some ⟨q, 0, none⟩)] w fun e w' => e = .returned (.string (ofL (sessB id x))) ∧ Below w.heap.size w w' := by
 have HS : Hid (SAt w q id x s) := h;have HX : Hid (x.wf ∧ id < 4096) := ⟨hx, hid⟩;have c0 := h.blk.cell 0;have c1 := h.blk.cell 1;have hq := h.blk.lt;simp only [gT, gZ, gS] at c0 c1;have hu := hx.u1;have w16 : IntKind.u16.wrap (id : Int) = id := by simp [IntKind.wrap, IntKind.signed, IntKind.bits]; omega
 have w8 : IntKind.u8.wrap (x.user : Int) = x.user := IntWalk.u8_in _ (by omega);clear h hx;go_enter Tryz.func164, Tryz.ntmps164;go_wp2_with fail
 go_region_held3 (fun w' => w'.cell? ⟨q, 0, none⟩ = some (.int .i64 id) ∧ w'.cell? ⟨q, 1, none⟩ = some (.int .i64 x.user) ∧ q < w'.heap.size ∧ Below w.heap.size w w')
  (first
   | exact stepP (by assumption) (by assumption)
   | assumption
   | exact ⟨c0, c1, hq, (Below.refl _ _).drew⟩)
  (first
   | (go_at_call 149; refine (Two_any id _ (by omega) (by omega)).mono ?_; rintro e w' ⟨rfl, hbN⟩)
   | (go_at_call 147; refine (One_any x.user _ (by omega) (by omega)).mono ?_; rintro e w' ⟨rfl, hbN⟩))
 rename_i hHeld;have HB1 : Hid (Below w.heap.size w w') := hHeld.2.2.2;have HS1 : Hid (SAt w' q id x s) := HS.out.kept (Fr.of_below (S := fun _ => False) HB1.out) (fun h => h) (fun _ _ h => h);clear hHeld hbN c0 c1 w16 w8;clear hbN;have c2 := HS1.out.blk.cell 2;have c3 := HS1.out.blk.cell 3;have hq1 := HS1.out.blk.lt;simp only [gT, gZ, gS] at c2 c3;have hc1 := HX.out.1.c1;have hs1 := HX.out.1.s1;have w32 : IntKind.u32.wrap (x.created : Int) = x.created := IntWalk.u32_in _ (by unfold maxT at hc1; omega);have w33 : IntKind.u32.wrap (x.used : Int) = x.used := IntWalk.u32_in _ (by unfold maxT at hs1; omega);have HC1 : Hid (x.created < 4294967296 ∧ x.used < 4294967296) := ⟨by unfold maxT at hc1; omega, by unfold maxT at hs1; omega⟩;clear hc1 hs1 hu hq HS;have hsz1 : (nA 2 (id : Int) ++ nA 1 (x.user : Int)).size = 3 := by rw [ByteArray.size_append, nA_size, nA_size]
 have HT1 : Hid (nA 2 (id : Int) ++ nA 1 (x.user : Int) = ofL (nB 2 id ++ nB 1 x.user)) := by show _ = _; rw [ofL_append]; rfl
 generalize nA 2 (id : Int) ++ nA 1 (x.user : Int) = t1 at *
 generalize w' = w1 at *
 go_wp2_with fail
 go_region_held3 (fun w' => w'.cell? ⟨q, 2, none⟩ = some (.int .i64 x.created) ∧ w'.cell? ⟨q, 3, none⟩ = some (.int .i64 x.used) ∧ q < w'.heap.size ∧ Below w1.heap.size w1 w')
  (first
   | exact stepP (by assumption) (by assumption)
   | assumption
   | exact ⟨c2, c3, hq1, (Below.refl _ _).drew⟩)
  (first
   | (go_at_call_of 146 (Value.int .u32 (x.created : Int)); refine (Four_any x.created _ (by omega) (by have := HC1.out.1; omega)).mono ?_; rintro e w' ⟨rfl, hbN⟩)
   | (go_at_call 146; refine (Four_any x.used _ (by omega) (by have := HC1.out.2; omega)).mono ?_; rintro e w' ⟨rfl, hbN⟩))
 rename_i hHeld;have HB2 : Hid (Below w1.heap.size w1 w') := hHeld.2.2.2;have HS2 : Hid (SAt w' q id x s) := HS1.out.kept (Fr.of_below (S := fun _ => False) HB2.out) (fun h => h) (fun _ _ h => h);have HBB : Hid (Below w.heap.size w w') := HB1.out.trans (HB2.out.mono HB1.out.size);clear hHeld hbN c2 c3 w32 w33 hq1;clear hbN;have HT2 : Hid (t1 ++ (nA 4 (x.created : Int) ++ nA 4 (x.used : Int)) = ofL (nB 2 id ++ nB 1 x.user ++ nB 4 x.created ++ nB 4 x.used)) := by
  show _ = _;rw [HT1.out];apply toL_inj;simp only [toL_append, toL_ofL];show nB 2 id ++ nB 1 x.user ++ (nB 4 x.created ++ nB 4 x.used) = _;simp only [List.append_assoc]
 rw [HT2.out];have hsz2 : (nB 2 (id : Int) ++ nB 1 (x.user : Int) ++ nB 4 (x.created : Int) ++ nB 4 (x.used : Int)).length = 11 := by simp [nB_length]
 have HE : Hid (sessB id x = nB 2 id ++ nB 1 x.user ++ nB 4 x.created ++ nB 4 x.used ++ nB 1 x.vals.length ++ valsB x.vals) := rfl;clear HT1 hsz1 HC1 HB1 HB2 HS1 HT2;generalize nB 2 (id : Int) ++ nB 1 (x.user : Int) ++ nB 4 (x.created : Int) ++ nB 4 (x.used : Int) = f1 at *
 generalize w' = w2 at *
 have hfew := HX.out.1.few;have c4 := HS2.out.blk.cell 4;simp only [gT, gZ, gS] at c4;have w8 : IntKind.u8.wrap (x.vals.length : Int) = x.vals.length := IntWalk.u8_in _ (by omega);have hvs := VO.read HS2.out.own;rcases hvs with ⟨hs, hv⟩ | ⟨g, cap, hs, hg, hvi⟩
 ·subst hs;rw [hv] at w8 HE;simp only [List.length_nil] at w8 HE;clear hfew hv;go_wp2_with fail;refine (One_any 0 _ (by decide) (by decide)).mono ?_;rintro e w3 ⟨rfl, hb3⟩;have HB3 : Hid (Below w.heap.size w w3) := HBB.out.trans (hb3.mono HBB.out.size);have c4' : w3.cell? ⟨q, 4, none⟩ = some (.slice none 0 0) := (hb3.cell (p := ⟨q, 4, none⟩) HS2.out.blk.lt).trans c4;have HT3 : Hid (ofL f1 ++ nA 1 0 = ofL (sessB id x)) := by
   show _ = _;apply toL_inj;rw [toL_append, toL_ofL, toL_ofL, HE.out];show f1 ++ nB 1 0 = f1 ++ nB 1 0 ++ [];rw [List.append_nil]
  clear hb3 c4;go_wp2_with fail;rw [HT3.out]
  go_loopw [3, 48] (fun a iv wx => a = .string (ofL (sessB id x)) ∧ iv = .int .i64 0 ∧ Hid (Below w.heap.size w wx)) (fun _ _ _ => 0)
  case atStart => exact ⟨rfl, rfl, HB3.out⟩
  case round =>
   obtain ⟨rfl, rfl, HB⟩ := hrel;go_wp2_with fail;go_ret;exact ⟨rfl, HB.out⟩
 ·subst hs;have HVI : Hid (ValsIn w2 g x.vals) := hvi;have HWF : Hid (∀ y ∈ x.vals, valOk y) := HX.out.1.each;clear hvi;go_wp2_with fail;refine (One_any x.vals.length _ (by omega) (by omega)).mono ?_;rintro e w3 ⟨rfl, hb3⟩;have HB3 : Hid (Below w.heap.size w w3) := HBB.out.trans (hb3.mono HBB.out.size);have c4' : w3.cell? ⟨q, 4, none⟩ = some (.slice (some ⟨g, 0, none⟩) x.vals.length cap) := (hb3.cell (p := ⟨q, 4, none⟩) HS2.out.blk.lt).trans c4;have HV3 : Hid (ValsIn w3 g x.vals) := HVI.out.below hg hb3;have hg3 : g < w3.heap.size := Nat.lt_of_lt_of_le hg hb3.size;have HT3 : Hid (ofL f1 ++ nA 1 x.vals.length = ofL (f1 ++ nB 1 x.vals.length)) := by
   show _ = _;rw [ofL_append]; rfl
  clear hb3 c4 HVI hg;go_wp2_with fail;rw [HT3.out];have hpre : (f1 ++ nB 1 (x.vals.length : Int)).length = 12 := by rw [List.length_append, hsz2, nB_length]
  go_loopw [3, 48] (fun a iv wx => ∃ k : Nat, k ≤ x.vals.length ∧ iv = .int .i64 k ∧ a = .string (ofL (f1 ++ nB 1 (x.vals.length : Int) ++ valsB (x.vals.take k))) ∧ Hid (Below w.heap.size w wx) ∧ Hid (ValsIn wx g x.vals ∧ g < wx.heap.size)) (fun _ iv _ => x.vals.length - (intOf iv).toNat)
  case atStart =>
   refine ⟨0, Nat.zero_le _, rfl, ?_, HB3.out, HV3.out, hg3⟩;show _ = Value.string (ofL (f1 ++ nB 1 (x.vals.length : Int) ++ []));rw [List.append_nil]
  case round =>
   obtain ⟨k, hk, rfl, rfl, HB, HV⟩ := hrel;by_cases hlt : k < x.vals.length
   ·have hvk := HV.out.1 k hlt;have v0 := hvk.1;have v1 := hvk.2;have hgr := HV.out.2;have hok := HWF.out x.vals[k] (List.getElem_mem hlt);have HNX : Hid (valsB (x.vals.take (k + 1)) = valsB (x.vals.take k) ++ (tB x.vals[k].1 ++ tB x.vals[k].2)) := vals_snoc hlt;have HLN : Hid ((valsB (x.vals.take k)).length ≤ 1000) := vals_small HWF.out (by omega);have HO1 : Hid (x.vals[k].1.length ≤ 8 ∧ x.vals[k].2.length ≤ 8) := ⟨hok.2.1, hok.2.2⟩;generalize x.vals[k].1 = n1 at *
    generalize x.vals[k].2 = n2 at *
    generalize valsB (x.vals.take k) = pv at *
    generalize hpp : f1 ++ nB 1 (x.vals.length : Int) = pr at *
    have HPP : Hid _ := hpp;clear hpp hvk hok;have HNB : Hid (Blk (wr.alloc (.cells #[.string (ofL n1), .string (ofL n2)] 170)) wr.heap.size #[.string (ofL n1), .string (ofL n2)] 170) := Blk.new _ _ _;have HBN : Hid (Below w.heap.size w (wr.alloc (.cells #[.string (ofL n1), .string (ofL n2)] 170))) := HB.out.alloc HB.out.size _;have HVN : Hid (ValsIn (wr.alloc (.cells #[.string (ofL n1), .string (ofL n2)] 170)) g x.vals) := HV.out.1.below HV.out.2 ((Below.refl _ wr).alloc (Nat.le_refl _) _);have HGN : Hid (g < (wr.alloc (.cells #[.string (ofL n1), .string (ofL n2)] 170)).heap.size) := by show _ < _; rw [World.size_alloc]; omega
    go_wp2_with fail;generalize wr.alloc (Obj.cells _ _ _) = wn at *
    have d0 := HNB.out.cell 0;have d1 := HNB.out.cell 1;have hqn := HNB.out.lt;simp only [gT, gZ, gS] at d0 d1;have s1 : (tB n1).length ≤ 9 := by rw [tB_length]; have := HO1.out.1; omega
    have s2 : (tB n2).length ≤ 9 := by rw [tB_length]; have := HO1.out.2; omega
    have s3 := HLN.out;have s4 : (pr ++ pv).length ≤ 1012 := by rw [List.length_append]; omega
    have HK1 : Hid (n1.length < 256) := by have := HO1.out.1; show _ < _; omega
    have HK2 : Hid (n2.length < 256) := by have := HO1.out.2; show _ < _; omega
    have p1 : ¬ (9223372036854775807 < (tB n1).length + (tB n2).length) := by omega
    have p2 : ¬ (9223372036854775807 < (pr ++ pv).length + ((tB n1).length + (tB n2).length)) := by omega
    have p3 : ¬ (9223372036854775807 < pr.length + pv.length + ((tB n1).length + (tB n2).length)) := by rw [List.length_append] at s4; omega
    have p4 : ¬ (9223372036854775807 < (pr ++ pv).length + (ofL (tB n1) ++ ofL (tB n2)).size) := by rw [ByteArray.size_append, ofL_size, ofL_size]; omega
    clear v0 v1 hgr HV HB s1 s2 s3 s4 hpre
    go_region_held3 (fun w' => w'.cell? ⟨wr.heap.size, 0, none⟩ = some (.string (ofL n1)) ∧ w'.cell? ⟨wr.heap.size, 1, none⟩ = some (.string (ofL n2)) ∧ wr.heap.size < w'.heap.size ∧ Below wn.heap.size wn w')
     (first
      | exact stepP (by assumption) (by assumption)
      | assumption
      | exact ⟨d0, d1, hqn, (Below.refl _ _).drew⟩)
     (first
      | (go_at_call_of 178 (Value.string (ofL n1)); refine (counted_any n1 _ HK1.out).mono ?_; rintro e w' ⟨rfl, hbN⟩)
      | (go_at_call 178; refine (counted_any n2 _ HK2.out).mono ?_; rintro e w' ⟨rfl, hbN⟩))
    rename_i hHeld;have HBW : Hid (Below wn.heap.size wn w') := hHeld.2.2.2;clear hHeld hbN d0 d1 hqn p1 p2 p3 p4;clear hbN;have HVW : Hid (ValsIn w' g x.vals) := HVN.out.below HGN.out HBW.out;have HTX : Hid (ofL (pr ++ pv) ++ (ofL (tB n1) ++ ofL (tB n2)) = ofL (pr ++ (pv ++ (tB n1 ++ tB n2)))) := by
     show _ = _;simp only [← ofL_append, List.append_assoc]
    rw [HTX.out];go_wp2_with fail
    go_round
    case rel =>
     refine ⟨k + 1, by omega, by go_num, ?_, HBN.out.trans (HBW.out.mono HBN.out.size), HVW.out, Nat.lt_of_lt_of_le HGN.out HBW.out.size⟩;rw [HNX.out]
    case measure => simp [intOf]; omega
   ·have hk2 : k = x.vals.length := by omega
    subst hk2;rw [List.take_of_length_le (Nat.le_refl _), ← HE.out];go_wp2_with fail;go_ret;exact ⟨rfl, HB.out⟩
end Go.Proofs.YtmnajomkfnkmeaaGreatDoor
