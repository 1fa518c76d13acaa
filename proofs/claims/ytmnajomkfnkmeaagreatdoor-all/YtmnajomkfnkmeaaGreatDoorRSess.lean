import Derived.Test.YtmnajomkfnkmeaaGreatDoorInsP
import Derived.Test.YtmnajomkfnkmeaaGreatDoorPChg
import Derived.Maps.OwnSet
import Derived.Maps.RangeWalk
set_option maxHeartbeats 2000000
namespace Go.Proofs.YtmnajomkfnkmeaaGreatDoor
open Go.RowKit
open Op (bytesLess)
attribute [local go_sem] ofL_size
theorem rdName_len (r : Rd) : (rdName r).1.length < 256 := rdStr_len r
theorem rdVal_len (r : Rd) : (rdVal r).1.length < 256 := rdStr_len r
theorem rdId_lt (r : Rd) : (rdId r).1 < 65536 := rdTwo_lt r
theorem rdCount_le (m : Nat) (r : Rd) : (rdCount m r).1 ≤ m := Nat.min_le_right _ _
def ReadTo (w : World) (b : Nat) (x : Nat × Sess) (r : Rd) (e : Ending) (w' : World) : Prop :=
 ∃ p sl, e = .returned (.pointer (some ⟨p, 0, none⟩)) ∧ SAt w' p x.1 x.2 sl ∧ RS w' b r ∧ Fr (· = b) w w' ∧ w.heap.size ≤ p ∧ ∀ q, sl.ownBlock = some q → w.heap.size ≤ q
theorem gt_bl (a l : Bs) : (!bytesLess (ofL a).toList (ofL l).toList && !(ofL a).toList == (ofL l).toList) = bytesLess l a := by
 rw [toList_toL, toList_toL, toL_ofL, toL_ofL];rcases bl_total l a with h | h | h
 ·subst h; simp [bl_irrefl]
 ·rw [h, bl_asymm h]; simp [(bl_ne h).symm]
 ·rw [h, bl_asymm h]; rfl
theorem rsess_any (b : Nat) (r : Rd) (w : World) (h : RS w b r) :
  Calls Tryz.prog 205 #[.pointer (some ⟨b, 0, none⟩)] w (ReadTo w b (gSess r).1 (gSess r).2) := by
 have HH : Hid (RS w b r) := h;have hbl : b < w.heap.size := Blk.lt h;clear h;have HG : Hid (gSess r = gS1 (rdId r)) := rfl;go_enter Tryz.func205, Tryz.ntmps205;go_wp2_with fail;refine (sid_any b r _ HH.out).mono ?_;rintro e w1 ⟨rfl, h1, hf1⟩;have H1 : Hid (RS w1 b (rdId r).2) := h1;clear h1;generalize rdId r = a at *
 obtain ⟨a1, a2⟩ := a;have HG1 : Hid (gSess r = gS2 a1 (rdUser a2)) := HG.out;clear HG;go_wp2_with fail;refine (suser_any b a2 _ H1.out).mono ?_;rintro e w2 ⟨rfl, h2, hf2⟩;have H2 : Hid (RS w2 b (rdUser a2).2) := h2;clear h2 H1;generalize rdUser a2 = u at *
 obtain ⟨u1, u2⟩ := u;have HG2 : Hid (gSess r = gS3 a1 u1 (rdTime u2)) := HG1.out;clear HG1;go_wp2_with fail;refine (stime_any b u2 _ H2.out).mono ?_;rintro e w3 ⟨rfl, h3, hf3⟩;have H3 : Hid (RS w3 b (rdTime u2).2) := h3;clear h3 H2;generalize rdTime u2 = c at *
 obtain ⟨c1, c2⟩ := c;have HG3 : Hid (gSess r = gS4 a1 u1 c1 (rdTime c2)) := HG2.out;clear HG2;go_wp2_with fail;refine (stime_any b c2 _ H3.out).mono ?_;rintro e w4 ⟨rfl, h4, hf4⟩;have H4 : Hid (RS w4 b (rdTime c2).2) := h4;clear h4 H3;generalize rdTime c2 = d at *
 obtain ⟨d1, d2⟩ := d;have HG4 : Hid (gSess r = gTail a1 u1 c1 d1 (rdCount 3 d2)) := HG3.out;clear HG3;have HF4 : Hid (Fr (· = b) w w4) := ((hf1.trans hf2 (fun _ _ h => h)).trans hf3 (fun _ _ h => h)).trans hf4 (fun _ _ h => h);clear hf1 hf2 hf3 hf4;go_wp2_with fail;have H5 : Hid (RS (w4.alloc (.cells #[.int .i64 a1, .int .i64 u1, .int .i64 c1, .int .i64 d1, .slice none 0 0] 104)) b d2) := Blk.alloc H4.out _;have HS5 : Hid (SAt (w4.alloc (.cells #[.int .i64 a1, .int .i64 u1, .int .i64 c1, .int .i64 d1, .slice none 0 0] 104)) w4.heap.size a1 ⟨u1, c1, d1, []⟩ (.slice none 0 0)) := ⟨Blk.new _ _ _, VO.nil _, by simp [Value.ownBlock]⟩;have HF5 : Hid (Fr (· = b) w (w4.alloc (.cells #[.int .i64 a1, .int .i64 u1, .int .i64 c1, .int .i64 d1, .slice none 0 0] 104))) := HF4.out.alloc _;have HP : Hid (w.heap.size ≤ w4.heap.size) := HF4.out.size;have hbp : b < w4.heap.size := Nat.lt_of_lt_of_le hbl HF4.out.size;clear H4 HF4;generalize w4.heap.size = p at *
 generalize w4.alloc (.cells #[.int .i64 a1, .int .i64 u1, .int .i64 c1, .int .i64 d1, .slice none 0 0] 104) = w5 at *
 refine (scount_any b d2 3 _ H5.out).mono ?_;rintro e w6 ⟨rfl, h6, hf6⟩;have H6 : Hid (RS w6 b (rdCount 3 d2).2) := h6;have HS6 : Hid (SAt w6 p a1 ⟨u1, c1, d1, []⟩ (.slice none 0 0)) := HS5.out.kept hf6 (by omega) (by simp [Value.ownBlock]);have HF6 : Hid (Fr (· = b) w w6) := HF5.out.trans hf6 (fun _ _ h => h);have hm := rdCount_le 3 d2;clear h6 hf6 H5 HS5 HF5;generalize rdCount 3 d2 = m at *
 obtain ⟨m1, m2⟩ := m;go_wp2_with fail
 go_loopw [4, 19] (fun la iv wx => ∃ (j : Nat) (last : Bs) (rj : Rd) (vs : List (Bs × Bs)) (sl : Value), j ≤ m1 ∧ iv = .int .i64 j ∧ la = .string (ofL last) ∧ Hid (gVals (m1 - j) last rj vs = gVals m1 [] m2 []) ∧ Hid (RS wx b rj) ∧ Hid (SAt wx p a1 ⟨u1, c1, d1, vs⟩ sl) ∧ Hid (Fr (· = b) w wx) ∧ Hid (rising vs) ∧ vs.length ≤ j ∧ Hid (∀ q, sl.ownBlock = some q → w.heap.size ≤ q ∧ q ≠ b)) (fun _ iv _ => m1 - (intOf iv).toNat)
 case atStart => exact ⟨0, [], m2, [], .slice none 0 0, Nat.zero_le _, rfl, rfl, rfl, H6.out, HS6.out, HF6.out, List.Pairwise.nil, Nat.zero_le _, fun q hq => by cases hq⟩
 case round =>
  obtain ⟨j, last, rj, vs, sl, hj, rfl, rfl, HGV, HR, HS, HF, HRI, hvl, HOW⟩ := hrel;by_cases hlt : j < m1
  ·have HGN : Hid (gVals (m1 - j) last rj vs = gVals (m1 - (j + 1)) (rdName rj).1 (rdMust (bytesLess last (rdName rj).1) (rdVal (rdName rj).2).2) (setVal (rdName rj).1 (rdVal (rdName rj).2).1 vs)) := by
    show _ = _;rw [show m1 - j = (m1 - (j + 1)) + 1 by omega]; rfl
   have hnl := rdName_len rj;have hvl2 := rdVal_len (rdName rj).2;go_wp2_with fail;refine (sname_any b rj _ HR.out).mono ?_;rintro e w7 ⟨rfl, h7, hf7⟩;have HR7 : Hid (RS w7 b (rdName rj).2) := h7;have HS7 : Hid (SAt w7 p a1 ⟨u1, c1, d1, vs⟩ sl) := HS.out.kept hf7 (by omega) (fun q hq => (HOW.out q hq).2);have HF7 : Hid (Fr (· = b) w w7) := HF.out.trans hf7 (fun _ _ h => h);clear h7 hf7;generalize rdName rj = nm at *
   obtain ⟨n1, n2⟩ := nm;go_wp2_with fail;refine (stext_any b n2 _ HR7.out).mono ?_;rintro e w8 ⟨rfl, h8, hf8⟩;have HR8 : Hid (RS w8 b (rdVal n2).2) := h8;have HS8 : Hid (SAt w8 p a1 ⟨u1, c1, d1, vs⟩ sl) := HS7.out.kept hf8 (by omega) (fun q hq => (HOW.out q hq).2);have HF8 : Hid (Fr (· = b) w w8) := HF7.out.trans hf8 (fun _ _ h => h);clear h8 hf8;generalize rdVal n2 = vl at *
   obtain ⟨v1, v2⟩ := vl;go_wp2_with fail;rw [gt_bl n1 last];generalize bytesLess last n1 = ok at *
   refine (must_any b v2 ok _ HR8.out).mono ?_;rintro e w9 ⟨rfl, h9, hf9⟩;have HR9 : Hid (RS w9 b (rdMust ok v2)) := h9;have HS9 : Hid (SAt w9 p a1 ⟨u1, c1, d1, vs⟩ sl) := HS8.out.kept hf9 (by omega) (fun q hq => (HOW.out q hq).2);have HF9 : Hid (Fr (· = b) w w9) := HF8.out.trans hf9 (fun _ _ h => h);clear h9 hf9;go_wp2_with fail;refine (put_any p a1 ⟨u1, c1, d1, vs⟩ sl n1 v1 _ HS9.out HRI.out (by simp only; omega) (by omega) (by omega)).mono ?_;rintro e w10 ⟨rfl, sl', hs10, hf10, how10⟩;have HS10 : Hid (SAt w10 p a1 ⟨u1, c1, d1, setVal n1 v1 vs⟩ sl') := hs10;have hbw : b < w9.heap.size := Nat.lt_of_lt_of_le hbl HF9.out.size;have HR10 : Hid (RS w10 b (rdMust ok v2)) := Blk.kept HR9.out hf10 (fun h => h.elim (fun e => by omega) (fun e => (HOW.out b e).2 rfl));have HF10 : Hid (Fr (· = b) w w10) := HF9.out.trans hf10 (fun q hq h => h.elim (fun e => by have := HP.out; omega) (fun e => by have := (HOW.out q e).1; omega));have HOW10 : Hid (∀ q, sl'.ownBlock = some q → w.heap.size ≤ q ∧ q ≠ b) := fun q hq => by
    rcases how10 q hq with h | h
    ·exact HOW.out q h
    ·have := HF9.out.size;exact ⟨by omega, by omega⟩
   have HRI10 : Hid (rising (setVal n1 v1 vs)) := setVal_rising n1 v1 HRI.out;have hl10 := (setVal_length n1 v1 vs).1;clear hs10 hf10 how10;generalize setVal n1 v1 vs = vs' at *
   go_wp2_with fail;go_roundw
   case rel => exact ⟨j + 1, n1, _, vs', sl', by omega, by go_num, rfl, HGN.out.symm.trans HGV.out, HR10.out, HS10.out, HF10.out, HRI10.out, by omega, HOW10.out⟩
   case measure => simp [intOf]; omega
  ·obtain rfl : j = m1 := by omega
   have HE : Hid (gVals j [] m2 [] = (vs, rj)) := by
    have := HGV.out;rw [Nat.sub_self] at this;exact this.symm
   go_wp2_with fail;go_ret;refine ⟨p, sl, rfl, ?_, ?_, HF.out, HP.out, fun q hq => (HOW.out q hq).1⟩
   ·rw [HG4.out]; unfold gTail; rw [show gVals (j, m2).1 [] (j, m2).2 [] = (vs, rj) from HE.out]; exact HS.out
   ·rw [HG4.out]; unfold gTail; rw [show gVals (j, m2).1 [] (j, m2).2 [] = (vs, rj) from HE.out]; exact HR.out
end Go.Proofs.YtmnajomkfnkmeaaGreatDoor
namespace Go.Proofs.YtmnajomkfnkmeaaGreatDoor
open Go.RowKit
open Go.Maps (Keyed Tidy IsMap)
def ptrR : Value → Option (DataW Unit × List MemPlace)
 | .pointer none => some (.nil, [])
 | .pointer (some ⟨p, 0, none⟩) => some (.lit (.int .i64 p), [])
 | _ => none
theorem ptrR_inv {v : Value} {p : Nat} {ps : List MemPlace} (h : ptrR v = some (.lit (.int .i64 p), ps)) : v = .pointer (some ⟨p, 0, none⟩) := by
 unfold ptrR at h;split at h
 ·cases h
 ·simp only [Option.some.injEq, Prod.mk.injEq, DataW.lit.injEq, Lit.int.injEq, true_and] at h;have := h.1;rw [show _ = p from Int.ofNat.inj this]
 ·cases h
theorem ptrR_nil {v : Value} {ps : List MemPlace} (h : ptrR v = some (.nil, ps)) : v = .pointer none := by
 unfold ptrR at h;split at h
 ·rfl
 ·simp at h
 ·cases h
theorem law : Keyed Tryz.prog 3 := Maps.int_keyed Tryz.underlying3
def kl (i : Nat) : Lit := .int .i64 i
theorem key_mk (i : Nat) (h : i < 65536) : keyOf Tryz.prog 3 (.int .i64 i) = some (kl i) := Maps.keyOf_int_mk Tryz.underlying3 (WalkArith.wf_i64 (by omega))
theorem zero_ptr (w : World) : (zeroValue 171).run Tryz.prog w = .ok (.pointer none) w := by kernel_rfl
theorem kl_inj {i j : Nat} (h : kl i = kl j) : i = j := by
 have : (i : Int) = j := by simpa [kl] using h
 omega
theorem kl_key (i : Nat) : WideAt.IsKeyLit (kl i) := trivial
abbrev Fn := Nat → Option Nat
def Fn.set (f : Fn) (i : Nat) (v : Option Nat) : Fn := fun j => if j = i then v else f j
def Fn.card (f : Fn) : Nat := (List.range 65536).countP fun i => (f i).isSome
theorem count_set (f : Fn) (i : Nat) (v : Option Nat) (n : Nat) : (List.range n).countP (fun j => ((f.set i v) j).isSome) + (if i < n ∧ (f i).isSome then 1 else 0) = (List.range n).countP (fun j => (f j).isSome) + (if i < n ∧ v.isSome then 1 else 0) := by
 induction n with
 | zero => simp
 | succ n ih =>
  rw [List.range_succ, List.countP_append, List.countP_append];simp only [List.countP_cons, List.countP_nil, Nat.zero_add];rcases Nat.lt_trichotomy i n with h | h | h
  ·have e : (f.set i v) n = f n := by unfold Fn.set; rw [if_neg (by omega)]
   rw [e];have h2 : i < n + 1 := by omega
   simp only [h, h2, true_and] at ih ⊢;omega
  ·subst h;have e : (f.set i v) i = v := by unfold Fn.set; rw [if_pos rfl]
   rw [e];simp only [Nat.lt_irrefl, false_and, if_false, Nat.add_zero] at ih;simp only [Nat.lt_succ_self, true_and];rw [ih];omega
  ·have e : (f.set i v) n = f n := by unfold Fn.set; rw [if_neg (by omega)]
   rw [e];have h1 : ¬ i < n := by omega
   have h2 : ¬ i < n + 1 := by omega
   simp only [h1, h2, false_and, if_false, Nat.add_zero] at ih ⊢;omega
theorem card_set (f : Fn) (i : Nat) (v : Option Nat) (hi : i < 65536) : (f.set i v).card + (if (f i).isSome then 1 else 0) = f.card + (if v.isSome then 1 else 0) := by
 have := count_set f i v 65536;simp only [hi, true_and] at this;exact this
theorem Fn.card_le (f : Fn) : f.card ≤ 65536 := by
 have := List.countP_le_length (p := fun i => (f i).isSome) (l := List.range 65536);rw [List.length_range] at this;exact this
structure MapIs (w : World) (mb : Nat) (f : Fn) (D : DataW Unit) : Prop where
 own : w.ownsMap Tryz.prog 3 ptrR mb f.card D
 keys : ∀ k, Maps.has D k = true → ∃ i p, k = kl i ∧ f i = some p
 vals : ∀ i p, f i = some p → i < 65536 ∧ Maps.has D (kl i) = true ∧ ∀ z, D.atKey (kl i) z = .lit (.int .i64 p)
 size : Maps.size D = f.card
theorem MapIs.not {w : World} {mb : Nat} {f : Fn} {D : DataW Unit} (h : MapIs w mb f D) {i : Nat} (hi : f i = none) : Maps.has D (kl i) = false := by
 cases hx : Maps.has D (kl i) with
 | false => rfl
 | true =>
  obtain ⟨j, p, hk, hj⟩ := h.keys _ hx;rw [kl_inj hk, hj] at hi; cases hi
theorem MapIs.has_eq {w : World} {mb : Nat} {f : Fn} {D : DataW Unit} (h : MapIs w mb f D) (i : Nat) : Maps.has D (kl i) = (f i).isSome := by
 cases hi : f i with
 | none => exact h.not hi
 | some p => exact (h.vals i p hi).2.1
theorem MapIs.lt {w : World} {mb : Nat} {f : Fn} {D : DataW Unit} (h : MapIs w mb f D) : mb < w.heap.size := h.own.lt
theorem MapIs.kept {S : Nat → Prop} {w w' : World} {mb : Nat} {f : Fn} {D : DataW Unit} (h : MapIs w mb f D) (hf : Fr S w w') (hn : ¬ S mb) : MapIs w' mb f D := by
 refine ⟨?_, h.keys, h.vals, h.size⟩;obtain ⟨es, clock, hb, r⟩ := h.own;exact ⟨es, clock, (hf.block mb h.lt hn).trans hb, r⟩
theorem card_none : Fn.card (fun _ => none) = 0 := by
 unfold Fn.card;rw [List.countP_eq_zero];intro a _ h;cases h
theorem MapIs.made (w : World) : MapIs (w.alloc (.map #[] 0)) w.heap.size (fun _ => none) (.map []) := by
 refine ⟨by rw [card_none]; exact World.ownsMap_made _ _ _ _, fun k h => ?_, (fun i p h => by cases h), by rw [card_none]; rfl⟩;simp [Maps.has] at h
theorem MapIs.look {w : World} {mb : Nat} {f : Fn} {D : DataW Unit} (h : MapIs w mb f D) (i : Nat) (hi : i < 65536) :
  (Instr.lookup 156 (.map (some mb)) (.int .i64 i) true).run Tryz.prog w = .ok (.tuple #[match f i with | some p => .pointer (some ⟨p, 0, none⟩) | none => .pointer none, .bool (f i).isSome]) w := by
 obtain ⟨v, ps, hrun, hv⟩ := h.own.look_ok law Tryz.underlying156 (zero_ptr w) (zd := .nil) (zp := []) rfl (key_mk i hi);rw [hrun, show Maps.has D (kl i) = (f i).isSome from h.has_eq i];cases hf : f i with
 | none =>
  rw [Maps.atKey_of_not_has (show Maps.has D (kl i) = false from h.not hf)] at hv;rw [ptrR_nil hv]
 | some p =>
  have := (h.vals i p hf).2.2 .nil;rw [show D.atKey (kl i) .nil = _ from this] at hv;rw [ptrR_inv hv]
theorem MapIs.look1 {w : World} {mb : Nat} {f : Fn} {D : DataW Unit} (h : MapIs w mb f D) (i : Nat) (hi : i < 65536) :
  (Instr.lookup 156 (.map (some mb)) (.int .i64 i) false).run Tryz.prog w = .ok (match f i with | some p => .pointer (some ⟨p, 0, none⟩) | none => .pointer none) w := by
 obtain ⟨v, ps, hrun, hv⟩ := h.own.lookup law Tryz.underlying156 (zero_ptr w) (zd := .nil) (zp := []) rfl (key_mk i hi);rw [hrun];cases hf : f i with
 | none =>
  rw [Maps.atKey_of_not_has (show Maps.has D (kl i) = false from h.not hf)] at hv;rw [ptrR_nil hv]
 | some p =>
  have := (h.vals i p hf).2.2 .nil;rw [show D.atKey (kl i) .nil = _ from this] at hv;rw [ptrR_inv hv]
theorem own_tight {w : World} {mb n : Nat} {D : DataW Unit} (h : w.ownsMap Tryz.prog 3 ptrR mb n D) : w.ownsMap Tryz.prog 3 ptrR mb (Maps.size D) D := by
 obtain ⟨es, clock, hb, F, _, rfl⟩ := h;exact ⟨es, clock, hb, F, by rw [show Maps.size (DataW.map ((es.toList.map (WideElems.rg Tryz.prog 3 ptrR)).foldr DataW.insert [])) = es.size by simp [Maps.size, length_sorted]]; exact Nat.le_refl _, rfl⟩
theorem Fr.turned {w w' : World} {mb : Nat} (h : w.mapTurned w' mb) : Fr (· = mb) w w' :=
 have g := h.grown
 ⟨g.os, g.tape, g.output, g.size, fun k hk hn => g.block k hk (fun e => hn (Option.some.inj e))⟩
theorem MapIs.store {w : World} {mb : Nat} {f : Fn} {D : DataW Unit} (h : MapIs w mb f D) (i p : Nat) (hi : i < 65536) :
  ∃ w' D', (Instr.mapUpdate 156 (.map (some mb)) (.int .i64 i) (.pointer (some ⟨p, 0, none⟩))).run Tryz.prog w = .ok () w' ∧ MapIs w' mb (f.set i (some p)) D' ∧ w.mapTurned w' mb := by
 obtain ⟨w', hrun, hown, hturn⟩ := h.own.store law Tryz.underlying156 (Nat.lt_of_le_of_lt f.card_le (by decide)) (key_mk i hi) (val := .pointer (some ⟨p, 0, none⟩)) (d := .lit (.int .i64 p)) (ps := []) rfl;have hsz : Maps.size (D.put (kl i) (.lit (.int .i64 p))) = (f.set i (some p)).card := by
  rw [Maps.size_put (h.own.tidy law)];have := card_set f i (some p) hi;rw [show Maps.has D (kl i) = (f i).isSome from h.has_eq i, h.size];cases hfi : (f i).isSome <;> simp [hfi] at this ⊢ <;> omega
 refine ⟨w', _, hrun, ⟨by rw [← hsz]; exact own_tight hown, fun k hk => ?_, fun j q hj => ?_, hsz⟩, hturn⟩
 ·by_cases e : k = kl i
  ·exact ⟨i, p, e, by unfold Fn.set; rw [if_pos rfl]⟩
  ·rw [Maps.has_put_other e] at hk;obtain ⟨j, q, hkj, hj⟩ := h.keys k hk;refine ⟨j, q, hkj, ?_⟩;unfold Fn.set;rw [if_neg (fun hh => e (by rw [hkj, hh]))]; exact hj
 ·unfold Fn.set at hj;split at hj
  ·rename_i e;subst e;obtain rfl := Option.some.inj hj;exact ⟨hi, Maps.has_put_same h.own.isMap (kl_key j) _, fun z => Maps.atKey_put_same h.own.isMap (kl_key j) _ z⟩
  ·rename_i e;obtain ⟨h1, h2, h3⟩ := h.vals j q hj;have hne : kl j ≠ kl i := fun hh => e (kl_inj hh);exact ⟨h1, by rw [Maps.has_put_other hne]; exact h2, fun z => by rw [Maps.atKey_put_other hne]; exact h3 z⟩
theorem MapIs.drop {w : World} {mb : Nat} {f : Fn} {D : DataW Unit} (h : MapIs w mb f D) (i : Nat) (hi : i < 65536) (ty : TypeId) :
  ∃ w' D', (Builtin.delete_ #[156, 3] ty #[.map (some mb), .int .i64 i]).run Tryz.prog w = .ok (.tuple #[]) w' ∧ MapIs w' mb (f.set i none) D' ∧ w.mapTurned w' mb := by
 obtain ⟨w', hrun, hown, hturn⟩ := h.own.drop law Tryz.underlying156 (key_mk i hi) ty;have hsz : Maps.size (D.del (kl i)) = (f.set i none).card := by
  have h1 := Maps.size_del (k := kl i) (h.own.tidy law);have h2 := card_set f i none hi;rw [h.has_eq i, h.size] at h1;cases hfi : (f i).isSome <;> simp [hfi] at h1 h2 ⊢ <;> omega
 refine ⟨w', _, hrun, ⟨by rw [← hsz]; exact own_tight hown, fun k hk => ?_, fun j q hj => ?_, hsz⟩, hturn⟩
 ·by_cases e : k = kl i
  ·rw [e, show Maps.has (D.del (kl i)) (kl i) = false from Maps.has_del_same] at hk; cases hk
  ·rw [Maps.has_del_other e] at hk;obtain ⟨j, q, hkj, hj⟩ := h.keys k hk;refine ⟨j, q, hkj, ?_⟩;unfold Fn.set;rw [if_neg (fun hh => e (by rw [hkj, hh]))]; exact hj
 ·unfold Fn.set at hj;split at hj
  ·cases hj
  ·rename_i e;obtain ⟨h1, h2, h3⟩ := h.vals j q hj;have hne : kl j ≠ kl i := fun hh => e (kl_inj hh);exact ⟨h1, by rw [Maps.has_del_other hne]; exact h2, fun z => by rw [Maps.atKey_del_other hne]; exact h3 z⟩
structure TabAt (w : World) (sb : Nat) (T : Tab) (mb : Nat) (f : Fn) (D : DataW Unit) (sl : Nat → Value) : Prop where
 blk : Blk w sb #[.map (some mb)] 158
 map : MapIs w mb f D
 dom : ∀ i, (f i).isSome = (T i).isSome
 each : ∀ i p x, f i = some p → T i = some x → SAt w p i x (sl i)
 ptr : ∀ i j p, f i = some p → f j = some p → i = j
 own : ∀ i j b, (f i).isSome = true → (f j).isSome = true → (sl i).ownBlock = some b → (sl j).ownBlock = some b → i = j
def foot (sb mb : Nat) (f : Fn) (sl : Nat → Value) (b : Nat) : Prop := b = sb ∨ b = mb ∨ (∃ i, f i = some b) ∨ ∃ i, (f i).isSome = true ∧ (sl i).ownBlock = some b
theorem TabAt.sess {w : World} {sb : Nat} {T : Tab} {mb : Nat} {f : Fn} {D : DataW Unit} {sl : Nat → Value} (h : TabAt w sb T mb f D sl) {i p : Nat} (hi : f i = some p) : ∃ x, T i = some x ∧ SAt w p i x (sl i) := by
 have := h.dom i;rw [hi] at this;cases hx : T i with
 | none => rw [hx] at this; cases this
 | some x => exact ⟨x, rfl, h.each i p x hi hx⟩
theorem TabAt.kept {S : Nat → Prop} {w w' : World} {sb : Nat} {T : Tab} {mb : Nat} {f : Fn} {D : DataW Unit} {sl : Nat → Value} (h : TabAt w sb T mb f D sl) (hf : Fr S w w') (hn : ∀ b, foot sb mb f sl b → ¬ S b) : TabAt w' sb T mb f D sl :=
 ⟨h.blk.kept hf (hn sb (Or.inl rfl)), h.map.kept hf (hn mb (Or.inr (Or.inl rfl))), h.dom,
  fun i p x hi hx => (h.each i p x hi hx).kept hf (hn p (Or.inr (Or.inr (Or.inl ⟨i, hi⟩)))) (fun b hb => hn b (Or.inr (Or.inr (Or.inr ⟨i, by rw [hi]; rfl, hb⟩)))), h.ptr, h.own⟩
theorem TabAt.lt {w : World} {sb : Nat} {T : Tab} {mb : Nat} {f : Fn} {D : DataW Unit} {sl : Nat → Value} (h : TabAt w sb T mb f D sl) (b : Nat) (hb : foot sb mb f sl b) : b < w.heap.size := by
 rcases hb with rfl | rfl | ⟨i, hi⟩ | ⟨i, hi, ho⟩
 ·exact h.blk.lt
 ·exact h.map.lt
 ·obtain ⟨x, _, hs⟩ := h.sess hi;exact hs.blk.lt
 ·cases hf : f i with
  | none => rw [hf] at hi; cases hi
  | some p =>
   obtain ⟨x, _, hs⟩ := h.sess hf;exact VO.lt hs.own b ho
theorem Blk.elem {w : World} {b : Nat} {a a' : Array Value} {T T' : TypeId} (h : Blk w b a T) (h' : Blk w b a' T') : T = T' := by
 have := (show w.heap[b]? = _ from h).symm.trans h';simp only [Option.some.injEq, Obj.cells.injEq] at this;exact this.2.1
theorem VO.elem {w : World} {s : Value} {l : List (Bs × Bs)} (h : VO w s l) {b : Nat} (hb : s.ownBlock = some b) : ∃ a, Blk w b a 170 := by
 rcases h.cases with ⟨rfl, _⟩ | ⟨q, cap, cur, rfl, hq, _⟩
 ·cases hb
 ·have : some q = some b := hb;injection this with this
  exact ⟨_, this ▸ hq⟩
theorem MapIs.noBlk {w : World} {mb : Nat} {f : Fn} {D : DataW Unit} (h : MapIs w mb f D) {a : Array Value} {T : TypeId} (hb : Blk w mb a T) : False := by
 obtain ⟨es, clock, hm, _⟩ := h.own;have := (show w.heap[mb]? = _ from hb).symm.trans hm;cases this
theorem TabAt.add {w w' : World} {sb : Nat} {T : Tab} {mb : Nat} {f : Fn} {D D' : DataW Unit} {sl : Nat → Value} (h : TabAt w sb T mb f D sl) {i p : Nat} {x : Sess} {s : Value} (hs : SAt w p i x s)
  (hp : ∀ j, f j ≠ some p) (ho : ∀ j b, (f j).isSome = true → (sl j).ownBlock = some b → s.ownBlock ≠ some b) (hm : MapIs w' mb (f.set i (some p)) D') (ht : Fr (· = mb) w w') :
  TabAt w' sb (T.set i (some x)) mb (f.set i (some p)) D' (fun j => if j = i then s else sl j) := by
 have hblk : sb ≠ mb := fun e => h.map.noBlk (e ▸ h.blk);have keep : ∀ {q : Nat} {id : Int} {y : Sess} {t : Value}, SAt w q id y t → SAt w' q id y t := fun {q id y t} hq => hq.kept ht (fun e => h.map.noBlk (e ▸ hq.blk)) (fun b hb e => by
  obtain ⟨a, ha⟩ := hq.own.elem hb
  exact h.map.noBlk (e ▸ ha))
 refine ⟨h.blk.kept ht hblk, hm, fun j => ?_, fun j q y hj hy => ?_, fun j k q hj hk => ?_, fun j k b hj hk hbj hbk => ?_⟩
 ·unfold Fn.set Tab.set;by_cases e : j = i
  ·rw [if_pos e, if_pos e]; rfl
  ·rw [if_neg e, if_neg e]; exact h.dom j
 ·unfold Fn.set at hj;unfold Tab.set at hy;by_cases e : j = i
  ·rw [if_pos e] at hj hy;obtain rfl := Option.some.inj hj;obtain rfl := Option.some.inj hy;subst e;simp only [if_true];exact keep hs
  ·rw [if_neg e] at hj hy;simp only [if_neg e];exact keep (h.each j q y hj hy)
 ·unfold Fn.set at hj hk;by_cases e : j = i
  ·by_cases e2 : k = i
   ·rw [e, e2]
   ·rw [if_pos e] at hj; rw [if_neg e2] at hk;obtain rfl := Option.some.inj hj;exact absurd hk (hp k)
  ·by_cases e2 : k = i
   ·rw [if_neg e] at hj; rw [if_pos e2] at hk;obtain rfl := Option.some.inj hk;exact absurd hj (hp j)
   ·rw [if_neg e] at hj; rw [if_neg e2] at hk;exact h.ptr j k q hj hk
 ·unfold Fn.set at hj hk;by_cases e : j = i
  ·by_cases e2 : k = i
   ·rw [e, e2]
   ·rw [if_pos e] at hbj; rw [if_neg e2] at hbk hk;exact absurd hbj (ho k b hk hbk)
  ·by_cases e2 : k = i
   ·rw [if_neg e] at hbj hj; rw [if_pos e2] at hbk;exact absurd hbk (ho j b hj hbj)
   ·rw [if_neg e] at hbj hj; rw [if_neg e2] at hbk hk;exact h.own j k b hj hk hbj hbk
end Go.Proofs.YtmnajomkfnkmeaaGreatDoor
namespace Go.Proofs.YtmnajomkfnkmeaaGreatDoor
open Go.RowKit
open Op (bytesLess)
attribute [local go_sem] ofL_size
theorem gSess_id (r : Rd) : (gSess r).1.1 < 65536 := by
 unfold gSess gS1 gS2 gS3 gS4 gTail;exact rdId_lt r
def snapTo (err : Value) (w : World) (o : Option Tab) (e : Ending) (w' : World) : Prop :=
 match o with
 | none => e = .returned (.tuple #[.pointer none, err])
 | some T => ∃ sb mb f D sl, e = .returned (.tuple #[.pointer (some ⟨sb, 0, none⟩), .nilIface]) ∧ TabAt w' sb T mb f D sl ∧ ∀ b, foot sb mb f sl b → w.heap.size ≤ b
theorem rsnap_any (p : Bs) (t0 : TypeId) (v0 : Value) (w : World) (he : w.cell? ⟨8, 0, none⟩ = some (.iface t0 v0)) (hg : 8 < w.heap.size) :
  Calls Tryz.prog 187 #[.string (ofL p)] w fun e w' => snapTo (.iface t0 v0) w (parseSnap p) e w' ∧ Below w.heap.size w w' := by
 have HE : Hid (w.cell? ⟨8, 0, none⟩ = some (.iface t0 v0)) := he;have HQ : Hid (gSnap p = parseSnap p) := gSnap_eq p;have hmm := @run_makeMap Tryz.prog;clear he;go_enter Tryz.func187, Tryz.ntmps187;go_wp2_with fail;refine (newSR_any _ _).mono ?_;rintro e w1 ⟨rfl, hb1⟩;go_wp2_with fail;have hw1 : w.heap.size ≤ w1.heap.size := hb1.size;have HR : Hid (RS (((w1.alloc (.cells #[.string (ofL p), .bool false, .bool false] 275)).alloc (.map #[] 0)).alloc (.cells #[.map (some (w1.heap.size + 1))] 158)) w1.heap.size ⟨p, false, false⟩) := Blk.alloc (Blk.alloc (Blk.new w1 _ _) _) _;have HT : Hid (TabAt (((w1.alloc (.cells #[.string (ofL p), .bool false, .bool false] 275)).alloc (.map #[] 0)).alloc (.cells #[.map (some (w1.heap.size + 1))] 158)) (w1.heap.size + 1 + 1) noTab (w1.heap.size + 1) (fun _ => none) (.map []) (fun _ => .nilIface)) := by
  refine ⟨?_, ?_, fun i => rfl, (fun i p x h => by cases h), (fun i j p h => by cases h), (fun i j b h => by cases h)⟩
  ·have := Blk.new ((w1.alloc (.cells #[.string (ofL p), .bool false, .bool false] 275)).alloc (.map #[] 0)) #[.map (some (w1.heap.size + 1))] 158;simpa using this
  ·have h0 := MapIs.made (w1.alloc (.cells #[.string (ofL p), .bool false, .bool false] 275));have h1 := h0.kept ((Fr.refl (fun _ => False) _).alloc (.cells #[.map (some (w1.heap.size + 1))] 158)) (fun h => h);simpa using h1
 have HF : Hid (Fr (fun _ => False) w (((w1.alloc (.cells #[.string (ofL p), .bool false, .bool false] 275)).alloc (.map #[] 0)).alloc (.cells #[.map (some (w1.heap.size + 1))] 158))) := (((((Fr.refl (fun _ => False) w).trans (Fr.of_below hb1) (fun _ _ h => h)).alloc _).alloc _).alloc _);have HFT : Hid (∀ b, foot (w1.heap.size + 1 + 1) (w1.heap.size + 1) (fun _ => none) (fun _ => .nilIface) b → w.heap.size ≤ b ∧ b ≠ w1.heap.size) := fun b hb => by
  rcases hb with rfl | rfl | ⟨i, hi⟩ | ⟨i, hi, _⟩
  ·exact ⟨by omega, by omega⟩
  ·exact ⟨by omega, by omega⟩
  ·cases hi
  ·cases hi
 clear hb1 hmm;generalize ((w1.alloc (.cells #[.string (ofL p), .bool false, .bool false] 275)).alloc (.map #[] 0)).alloc (.cells #[.map (some (w1.heap.size + 1))] 158) = w2 at *
 generalize hbb : w1.heap.size = b at *
 have hbw : w.heap.size ≤ b := hw1;clear hbb hw1;refine (scount_any b _ 12 _ HR.out).mono ?_;rintro e w3 ⟨rfl, h3, hf3⟩;have HG : Hid (gSnap p = if (gSesss (rdCount 12 ⟨p, false, false⟩).1 0 (rdCount 12 ⟨p, false, false⟩).2 noTab).2.fit then some (gSesss (rdCount 12 ⟨p, false, false⟩).1 0 (rdCount 12 ⟨p, false, false⟩).2 noTab).1 else none) := rfl;have hm := rdCount_le 12 ⟨p, false, false⟩;have HR3 : Hid (RS w3 b (rdCount 12 ⟨p, false, false⟩).2) := h3;have HT3 : Hid (TabAt w3 (b + 1 + 1) noTab (b + 1) (fun _ => none) (.map []) (fun _ => .nilIface)) := HT.out.kept hf3 (fun q hq => (HFT.out q hq).2);have HF3 : Hid (Fr (fun _ => False) w w3) := HF.out.trans hf3 (fun q hq e => by omega);clear h3 hf3 HR HT HF;generalize rdCount 12 ⟨p, false, false⟩ = m at *
 obtain ⟨m1, m2⟩ := m;go_wp2_with fail
 go_loopw [6, 14] (fun la iv wx => ∃ (j lo : Nat) (rj : Rd) (T : Tab) (f : Fn) (D : DataW Unit) (sl : Nat → Value), j ≤ m1 ∧ iv = .int .i64 j ∧ la = .int .i64 ((lo : Int) - 1) ∧ lo ≤ 65536 ∧ Hid (gSesss (m1 - j) lo rj T = gSesss m1 0 m2 noTab) ∧ Hid (RS wx b rj) ∧ Hid (TabAt wx (b + 1 + 1) T (b + 1) f D sl) ∧ Hid (Fr (fun _ => False) w wx) ∧ Hid (∀ q, foot (b + 1 + 1) (b + 1) f sl q → w.heap.size ≤ q ∧ q ≠ b)) (fun _ iv _ => m1 - (intOf iv).toNat)
 case atStart => exact ⟨0, 0, m2, noTab, _, _, _, Nat.zero_le _, rfl, rfl, by omega, rfl, HR3.out, HT3.out, HF3.out, HFT.out⟩
 case round =>
  obtain ⟨j, lo, rj, T, f, D, sl, hj, rfl, rfl, hlo, HGV, HR4, HT4, HF4, HFT4⟩ := hrel;by_cases hlt : j < m1
  ·have HGN : Hid (gSesss (m1 - j) lo rj T = gSesss (m1 - (j + 1)) ((gSess rj).1.1 + 1) (rdMust (decide (lo ≤ (gSess rj).1.1)) (gSess rj).2) (T.set (gSess rj).1.1 (some (gSess rj).1.2))) := by
    show _ = _;rw [show m1 - j = (m1 - (j + 1)) + 1 by omega]; rfl
   have hid := gSess_id rj;go_wp2_with fail;refine (rsess_any b rj _ HR4.out).mono ?_;rintro e w5 ⟨q, s, rfl, hs5, hr5, hf5, hq5, ho5⟩;have hbr : b < wr.heap.size := Blk.lt HR4.out;have HS5 : Hid (SAt w5 q (gSess rj).1.1 (gSess rj).1.2 s) := hs5;have HR5 : Hid (RS w5 b (gSess rj).2) := hr5;have HT5 : Hid (TabAt w5 (b + 1 + 1) T (b + 1) f D sl) := HT4.out.kept hf5 (fun q hq => (HFT4.out q hq).2);have HF5 : Hid (Fr (fun _ => False) w w5) := HF4.out.trans hf5 (fun q hq e => by omega);have HN5 : Hid (∀ i, f i ≠ some q) := fun i hi => by have := HT4.out.lt q (Or.inr (Or.inr (Or.inl ⟨i, hi⟩))); omega
   have HO5 : Hid (∀ i c, (f i).isSome = true → (sl i).ownBlock = some c → s.ownBlock ≠ some c) := fun i c hi hc hsc => by
    have := HT4.out.lt c (Or.inr (Or.inr (Or.inr ⟨i, hi, hc⟩)));have := ho5 c hsc;omega
   have HQ5 : Hid (wr.heap.size ≤ q ∧ ∀ c, s.ownBlock = some c → wr.heap.size ≤ c) := ⟨hq5, ho5⟩;have hqb : q ≠ b := by omega
   have hwr : Hid (w.heap.size ≤ wr.heap.size) := HF4.out.size;clear hs5 hr5 hf5 hq5 ho5 HR4 HT4 HF4;have c0 : w5.cell? ⟨q, 0, none⟩ = some (.int .i64 (gSess rj).1.1) := Blk.cell HS5.out.blk 0;generalize gSess rj = g at *
   obtain ⟨⟨g1, g2⟩, g3⟩ := g;go_wp2_with fail;rw [show decide ((lo : Int) - 1 < (g1 : Int)) = decide (lo ≤ g1) from decide_eq_decide.2 (by omega)];generalize decide (lo ≤ g1) = ok at *
   refine (must_any b g3 ok _ HR5.out).mono ?_;rintro e w6 ⟨rfl, h6, hf6⟩;have HR6 : Hid (RS w6 b (rdMust ok g3)) := h6;have HS6 : Hid (SAt w6 q g1 g2 s) := HS5.out.kept hf6 hqb (fun c hc e => by have := HQ5.out.2 c hc; omega);have HT6 : Hid (TabAt w6 (b + 1 + 1) T (b + 1) f D sl) := HT5.out.kept hf6 (fun q hq => (HFT4.out q hq).2);have HF6 : Hid (Fr (fun _ => False) w w6) := HF5.out.trans hf6 (fun q hq e => by omega);clear h6 hf6 HR5 HS5 HT5 HF5 c0;have c0 : w6.cell? ⟨q, 0, none⟩ = some (.int .i64 g1) := Blk.cell HS6.out.blk 0;have cs : w6.cell? ⟨b + 1 + 1, 0, none⟩ = some (.map (some (b + 1))) := Blk.cell HT6.out.blk 0;obtain ⟨w7, D', hrun, hm7, hturn⟩ := (HT6.out.map.kept ((Fr.refl (fun _ => False) w6).drew) (fun h => h)).store g1 q hid;go_wp2_with fail
   go_region
   have ht7 : Fr (· = b + 1) w6 w7 := (Fr.refl (· = b + 1) w6).drew.trans (Fr.turned hturn) (fun _ _ h => h);have HT7 : Hid (TabAt w7 (b + 1 + 1) (T.set g1 (some g2)) (b + 1) (f.set g1 (some q)) D' (fun k => if k = g1 then s else sl k)) := HT6.out.add HS6.out HN5.out HO5.out hm7 ht7;have HR7 : Hid (RS w7 b (rdMust ok g3)) := Blk.kept HR6.out ht7 (by omega);have HF7 : Hid (Fr (fun _ => False) w w7) := HF6.out.trans ht7 (fun c hc e => by omega);have HFT7 : Hid (∀ c, foot (b + 1 + 1) (b + 1) (f.set g1 (some q)) (fun k => if k = g1 then s else sl k) c → w.heap.size ≤ c ∧ c ≠ b) := fun c hc => by
    have h1 := HQ5.out;have h2 := hwr.out;rcases hc with rfl | rfl | ⟨i, hi⟩ | ⟨i, hi, ho⟩
    ·exact ⟨by omega, by omega⟩
    ·exact ⟨by omega, by omega⟩
    ·unfold Fn.set at hi;by_cases e : i = g1
     ·rw [if_pos e] at hi;obtain rfl := Option.some.inj hi;exact ⟨by omega, hqb⟩
     ·rw [if_neg e] at hi;exact HFT4.out c (Or.inr (Or.inr (Or.inl ⟨i, hi⟩)))
    ·unfold Fn.set at hi;simp only at ho;by_cases e : i = g1
     ·rw [if_pos e] at ho;have := h1.2 c ho;exact ⟨by omega, by omega⟩
     ·rw [if_neg e] at hi ho;exact HFT4.out c (Or.inr (Or.inr (Or.inr ⟨i, hi, ho⟩)))
   clear hrun hm7 hturn ht7 c0 cs;go_wp2_with fail;go_roundw
   case rel => exact ⟨j + 1, g1 + 1, _, _, _, _, _, by omega, by go_num, by simp, by omega, HGN.out.symm.trans HGV.out, HR7.out, HT7.out, HF7.out, HFT7.out⟩
   case measure => simp [intOf]; omega
  ·obtain rfl : j = m1 := by omega
   have HE2 : Hid (gSesss j 0 m2 noTab = (T, rj)) := by
    have := HGV.out;rw [Nat.sub_self] at this;exact this.symm
   have HG2 : Hid (parseSnap p = if rj.fit = true then some T else none) := by
    have h1 := HG.out;rw [HE2.out] at h1;exact HQ.out.symm.trans h1
   clear HG HQ;go_wp2_with fail;refine (isFit_any b rj _ HR4.out).mono ?_;rintro e w8 ⟨rfl, nq, rfl⟩;generalize rj.fit = ft at *
   cases ft with
   | true =>
    go_wp2_with fail;go_ret2;rw [HG2.out];exact ⟨⟨b + 1 + 1, b + 1, f, D, sl, rfl, HT4.out.kept ((Fr.refl (fun _ => False) wr).drewN nq) (fun _ _ h => h), fun c hc => (HFT4.out c hc).1⟩, below_drewN HF4.out.below nq⟩
   | false =>
    have fe : wr.cell? ⟨8, 0, none⟩ = some (.iface t0 v0) := (HF4.out.cell (p := ⟨8, 0, none⟩) hg (fun h => h)).trans HE.out;go_wp2_with fail
    go_quiet (fail)
    go_wp2_with fail;go_ret2;rw [HG2.out];exact ⟨rfl, below_drewN (below_drewN HF4.out.below _) _⟩
end Go.Proofs.YtmnajomkfnkmeaaGreatDoor
