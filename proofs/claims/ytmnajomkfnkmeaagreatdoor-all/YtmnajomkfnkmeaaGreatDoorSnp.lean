import Derived.Test.YtmnajomkfnkmeaaGreatDoorSrt
import Derived.Test.YtmnajomkfnkmeaaGreatDoorPow
set_option maxRecDepth 100000
set_option maxHeartbeats 4000000
namespace Go.Proofs.YtmnajomkfnkmeaaGreatDoor
open Go.RowKit
attribute [local go_sem] ofL_size
theorem filter_beyond (p : Nat → Bool) (m : Nat) (h : ∀ i, m ≤ i → p i = false) : ∀ k, (List.range (m + k)).filter p = (List.range m).filter p
 | 0 => rfl
 | k + 1 => by
  rw [← Nat.add_assoc, List.range_succ, List.filter_append, filter_beyond p m h k];simp [h (m + k) (by omega)]
theorem rows_ids (T : Tab) (n : Nat) : (T.rows n).map (fun r => r.1) = (List.range n).filter (fun i => (T i).isSome) := by
 induction n with
 | zero => rfl
 | succ n ih =>
  rw [rows_succ, List.map_append, ih, List.range_succ, List.filter_append];cases hT : T n with
  | none => simp [hT]
  | some x => simp [hT]
theorem ids_rows {T : Tab} {f : Fn} (hd : ∀ i, (f i).isSome = (T i).isSome) (hT : ∀ i x, T i = some x → i < 4096) : idsOf f = (T.rows 4096).map (fun r => (r.1 : Int)) := by
 have h1 : (fun i => (f i).isSome) = fun i => (T i).isSome := funext hd;have h2 := filter_beyond (fun i => (T i).isSome) 4096 (fun i hi => by
  cases hx : T i with
  | none => rfl
  | some x => have := hT i x hx; omega) 61440
 unfold idsOf;rw [h1, show (65536 : Nat) = 4096 + 61440 from rfl, h2, ← rows_ids, List.map_map];rfl
theorem rows_get {T : Tab} {n : Nat} {r : Nat × Sess} (h : r ∈ T.rows n) : T r.1 = some r.2 ∧ r.1 < n := by
 unfold Tab.rows at h;rw [List.mem_filterMap] at h;obtain ⟨i, hi, e⟩ := h;rw [List.mem_range] at hi;cases hx : T i with
 | none => rw [hx] at e; cases e
 | some x =>
  rw [hx] at e;injection e with e
  subst e;exact ⟨hx, hi⟩
theorem bytes_append (a b : Bs) : Lib.byteCells a ++ Lib.byteCells b = Lib.byteCells (a ++ b) := by
 unfold Lib.byteCells; rw [List.map_append]
theorem rowsB_take_succ (R : List (Nat × Sess)) (k : Nat) (h : k < R.length) : rowsB (R.take (k + 1)) = rowsB (R.take k) ++ sessB (R[k]'h).1 (R[k]'h).2 := by
 unfold rowsB;rw [List.take_add_one, List.getElem?_eq_getElem h, List.map_append, List.flatten_append];simp
theorem vals_le (l : List (Bs × Bs)) (h : ∀ y ∈ l, valOk y) : (valsB l).length ≤ 20 * l.length := by
 induction l with
 | nil => exact Nat.le_refl _
 | cons y l ih =>
  have h1 := ih (fun z hz => h z (List.mem_cons_of_mem _ hz));obtain ⟨a1, a2, a3⟩ := h y List.mem_cons_self;have e : valsB (y :: l) = (tB y.1 ++ tB y.2) ++ valsB l := rfl;rw [e, List.length_append, List.length_append, List.length_cons];unfold tB;simp only [List.length_append, nB_length];omega
theorem sess_len (i : Nat) (x : Sess) (h : x.wf) : (sessB i x).length ≤ 72 := by
 have h1 := vals_le x.vals h.each;have h2 := h.few;unfold sessB;simp only [List.length_append, nB_length];omega
theorem rows_len {R : List (Nat × Sess)} (h : ∀ r ∈ R, r.2.wf) : (rowsB R).length ≤ 72 * R.length := by
 induction R with
 | nil => exact Nat.le_refl _
 | cons r R ih =>
  have h1 := ih (fun z hz => h z (List.mem_cons_of_mem _ hz));have h2 := sess_len r.1 r.2 (h r List.mem_cons_self);have e : rowsB (r :: R) = sessB r.1 r.2 ++ rowsB R := rfl;rw [e, List.length_append, List.length_cons];omega
theorem bld_kept {B b : Nat} {bs : List Value} {w w' : World} (h : Lib.IsBuilder 219 5 B b bs w) (hb : Below w.heap.size w w') : Lib.IsBuilder 219 5 B b bs w' := by
 have one : ∀ p, BldAt B b p bs w → BldAt B b p bs w' := by
  rintro p ⟨hB, v, hbk, ⟨hn, hrow⟩, hne⟩;refine ⟨hB, v, (hb.block b (Array.getElem?_eq_some_iff.1 hbk).1).trans hbk, ⟨hn, ?_⟩, hne⟩;rcases hrow with h | ⟨g, cap, cur, hv, hg, hgb, r⟩
  ·exact Or.inl h
  ·exact Or.inr ⟨g, cap, cur, hv, hg, (hb.block g (Array.getElem?_eq_some_iff.1 hgb).1).trans hgb, r⟩
 exact h.imp (one _) (one _)
theorem byte_len (l : Bs) : (Lib.byteCells l).length = l.length := Lib.byteCells_length l
theorem snap_any (sb : Nat) (T : Tab) (mb : Nat) (f : Fn) (D : DataW Unit) (sl : Nat → Value) (w : World) (h : TabAt w sb T mb f D sl) (hT : T.wf) :
  Calls Tryz.prog 121 #[.pointer (some ⟨sb, 0, none⟩)] w fun e w' => e = .returned (.string (ofL (snapB T))) ∧ Below w.heap.size w w' := by
 have HT0 : Hid (TabAt w sb T mb f D sl) := h;have HT : Hid (T.wf) := hT;have hids : ∀ i x, T i = some x → i < 4096 := fun i x hx => (hT.each i x hx).1;have HL : Hid (Maps.size D = T.live) := h.live hids;have hlive : T.live ≤ 12 := hT.few;obtain ⟨R, hR⟩ : ∃ R, R = T.rows 4096 := ⟨_, rfl⟩;have HRG : Hid (∀ r ∈ R, T r.1 = some r.2 ∧ r.1 < 4096) := fun r hr => by rw [hR] at hr; exact rows_get hr
 have HRW : Hid (∀ k, (rowsB (R.take k)).length ≤ 72 * R.length) := fun k => by
  have h1 := rows_len (R := R.take k) (fun r hr => (hT.each _ _ (HRG.out r (List.mem_of_mem_take hr)).1).2);have h2 : (R.take k).length ≤ R.length := by rw [List.length_take]; omega
  show _ ≤ _;omega
 have HID : Hid (idsOf f = R.map (fun r => (r.1 : Int))) := by rw [hR]; exact ids_rows h.dom hids
 have hRL : R.length = T.live := by rw [hR]; exact (live_rows T).symm
 have hRC : f.card = R.length := by rw [← idsOf_length, HID.out, List.length_map]
 have HSN : Hid (snapB T = nB 1 T.live ++ rowsB R) := by rw [hR]; rfl
 have hb0 : Below w.heap.size w (w.alloc (.cells #[.pointer none, .slice none 0 0] 219)) := bA;have HB0 : Hid (Below w.heap.size w _) := hb0;have HH : Hid (TabAt (w.alloc (.cells #[.pointer none, .slice none 0 0] 219)) sb T mb f D sl) := h.kept (S := fun _ => False) (Fr.of_below hb0) (fun _ _ h => h);have HBL : Hid (Lib.IsBuilder 219 5 w.heap.size w.heap.size [] (w.alloc (.cells #[.pointer none, .slice none 0 0] 219))) := Or.inl ⟨Nat.le_refl _, _, Blk.new w _ _, World.ownsRow_nil _ _ _ _, (by intro e; cases e)⟩;have cs : (w.alloc (.cells #[.pointer none, .slice none 0 0] 219)).cell? ⟨sb, 0, none⟩ = some (.map (some mb)) := Blk.cell HH.out.blk 0;clear h hT hR hb0;obtain ⟨S, hS⟩ : ∃ S, S = snapB T := ⟨_, rfl⟩;rw [← hS];have HS : Hid (S = nB 1 T.live ++ rowsB R) := hS.trans HSN.out;have HN1 : Hid (nA 1 (T.live : Int) = ofL (nB 1 T.live)) := rfl;have HNL : Hid ((nB 1 (T.live : Int)).length = 1) := nB_length 1 _;clear hS HSN;go_enter Tryz.func121, Tryz.ntmps121;go_wp2_with (at_len; refine wpList_len_own _ rfl _ 156 rfl 3 171 Tryz.underlying156 ptrR mb f.card D rfl HH.out.map.own ?_; rw [HL.out]);generalize w.alloc (Obj.cells _ _) = w0 at *
 refine (One_any (T.live : Int) w0 (by omega) (by omega)).mono ?_;rintro e w1 ⟨rfl, hb1⟩;rw [HN1.out];have HB1 : Hid (Below w.heap.size w w1) := bstep HB0.out hb1;have HBL1 : Hid (Lib.IsBuilder 219 5 w.heap.size w.heap.size [] w1) := bld_kept HBL.out hb1;clear hb1 HBL HH cs;obtain ⟨N1, hN1⟩ : ∃ N1, N1 = nB 1 (T.live : Int) := ⟨_, rfl⟩;rw [← hN1];rw [← hN1] at HS HNL;clear HN1 hN1;go_wp2_with fail;refine (bwrite_any w.heap.size w.heap.size [] N1 w1 HBL1.out (by rw [HNL.out]; decide) HB1.out.size).mono ?_;rintro e w2 ⟨rfl, hbl2, hb2, ho2⟩;clear ho2;have HB2 : Hid (Below w.heap.size w w2) := HB1.out.trans hb2;have HBL2 : Hid (Lib.IsBuilder 219 5 w.heap.size w.heap.size (Lib.byteCells N1) w2) := Or.inr hbl2;have HT2 : Hid (TabAt w2 sb T mb f D sl) := HT0.out.kept (S := fun _ => False) (Fr.of_below HB2.out) (fun _ _ h => h);have cs : w2.cell? ⟨sb, 0, none⟩ = some (.map (some mb)) := Blk.cell HT2.out.blk 0;clear hbl2 hb2 HBL1;go_wp2_with fail;refine (keys_call mb _).mono ?_;rintro e w' ⟨rfl, hw⟩;subst w';go_wp2_with fail;refine (sorted_call mb f D w2 HT2.out.map).mono ?_;rintro e w3 ⟨v, rfl, hrow, hb3⟩;have hb23 : Below w2.heap.size w2 w3 := bstep ((Below.refl _ w2).alloc (Nat.le_refl _) _) hb3;have HB3 : Hid (Below w.heap.size w w3) := bstep HB2.out hb23;have HBL3 : Hid (Lib.IsBuilder 219 5 w.heap.size w.heap.size (Lib.byteCells N1) w3) := bld_kept HBL2.out hb23;rw [HID.out, hRC] at hrow;have HROW : Hid (World.ownsRow _ _ _ _ _ _ _) := hrow;clear hb3 hb23 HBL2 HT2 cs hrow hRC;rcases HROW.out.2 with ⟨rfl, hz⟩ | ⟨g, cap, cur, rfl, hg0, hg, hcap, hcapm, hcs, htk⟩
 ·have hR0 : R = [] := List.eq_nil_of_length_eq_zero hz;subst hR0;clear HROW hz;go_wp2_with fail
  go_loopw [21] (fun iv wx => iv = .int .i64 0 ∧ Hid (wx = w3)) (fun iv _ => 12 - (intOf iv).toNat)
  case atStart => exact ⟨rfl, rfl⟩
  case round =>
   obtain ⟨rfl, hw⟩ := hrel;go_wp2_with fail;refine (Tryz.Builder_String_any w.heap.size w.heap.size N1 wr (by rw [hw.out]; exact HBL3.out) (by rw [hw.out]; exact HB3.out.size)).mono ?_;rintro e w4 ⟨rfl, hb4⟩;have HB4 : Hid (Below w.heap.size w w4) := by
    have h := hb4;rw [hw.out] at h;exact HB3.out.trans h
   clear hb4;go_wp2_with fail;go_ret;refine ⟨?_, HB4.out⟩;rw [HS.out, show rowsB [] = [] from rfl, List.append_nil]; rfl
 ·have HG : Hid (w3.heap[g]? = some (.cells cur 3 (0, 0))) := hg;have HC : Hid (∀ k (hk : k < R.length), cur[k]? = some (.int .i64 ((R[k]'hk).1 : Int))) := fun k hk => by
   have h1 : (cur.toList.take (R.length * 1))[k]? = ((R.map (fun r => (r.1 : Int))).map encZ)[k]? := by rw [htk]
   rw [List.getElem?_take, if_pos (by omega), Array.getElem?_toList, List.getElem?_map, List.getElem?_map, List.getElem?_eq_getElem hk] at h1;exact h1
  have hRlen : R.length ≤ 12 := by omega
  clear HROW hg0 hg hcap hcapm hcs htk;go_wp2_with fail
  go_loopw [21] (fun iv wx => ∃ k : Nat, iv = .int .i64 k ∧ k ≤ R.length ∧ Hid (Lib.IsBuilder 219 5 w.heap.size w.heap.size (Lib.byteCells (N1 ++ rowsB (R.take k))) wx) ∧ Hid (Below w.heap.size w wx) ∧ Hid (wx.heap[g]? = some (.cells cur 3 (0, 0)))) (fun iv _ => 12 - (intOf iv).toNat)
  case atStart => exact ⟨0, rfl, Nat.zero_le _, (by rw [List.take_zero, show rowsB [] = [] from rfl, List.append_nil]; exact HBL3.out), HB3.out, HG.out⟩
  case round =>
   obtain ⟨k, rfl, hk, HBk, HBB, HGk⟩ := hrel;by_cases hlt : k < R.length
   ·have hmem : R[k]'hlt ∈ R := List.getElem_mem hlt;have hc := HC.out k hlt;have htk := rowsB_take_succ R k hlt;obtain ⟨r, hr⟩ : ∃ r, r = R[k]'hlt := ⟨_, rfl⟩;rw [← hr] at hmem hc htk;obtain ⟨id, x⟩ := r;obtain ⟨hTi, hid⟩ := HRG.out _ hmem;have hTi : T id = some x := hTi;have hid : id < 4096 := hid;have HTK : Hid (rowsB (R.take (k + 1)) = rowsB (R.take k) ++ sessB id x) := htk;have HTr : Hid (TabAt wr sb T mb f D sl) := HT0.out.kept (S := fun _ => False) (Fr.of_below HBB.out) (fun _ _ h => h);obtain ⟨p, hp⟩ : ∃ p, f id = some p := by
     have := HTr.out.dom id;rw [hTi] at this;exact Option.isSome_iff_exists.1 this
    have hlk := HTr.out.map.look1 id (by omega);rw [hp] at hlk;have HSA : Hid (SAt wr p id x (sl id)) := HTr.out.each id p x hp hTi;have HXW : Hid (x.wf ∧ id < 4096) := ⟨(HT.out.each id x hTi).2, hid⟩;have cg : wr.cell? ⟨g, k, none⟩ = some (.int .i64 (id : Int)) := by
     rw [Lib.cell_of_heap HGk.out]; exact hc
    have cs : wr.cell? ⟨sb, 0, none⟩ = some (.map (some mb)) := Blk.cell HTr.out.blk 0;have HLN : Hid ((Lib.byteCells (N1 ++ rowsB (R.take k))).length + (sessB id x).length ≤ 140737488355328) := by
     have h1 := HRW.out k;have h2 := sess_len id x HXW.out.1;show _ ≤ _;rw [byte_len, List.length_append, HNL.out];omega
    clear hr hmem hc htk hTi hp HTr hids;go_wp2_with fail;refine (spay_any p id x (sl id) _ HSA.out HXW.out.1 HXW.out.2).mono ?_;rintro e w4 ⟨rfl, hb4⟩;have HB4 : Hid (Below w.heap.size w w4) := bstep HBB.out hb4;have HBL4 : Hid (Lib.IsBuilder 219 5 w.heap.size w.heap.size (Lib.byteCells (N1 ++ rowsB (R.take k))) w4) := bld_kept HBk.out hb4;have HG4 : Hid (w4.heap[g]? = some (.cells cur 3 (0, 0))) := (hb4.block g (Array.getElem?_eq_some_iff.1 HGk.out).1).trans HGk.out;clear hb4 hlk cg cs;generalize sessB id x = X at *
    go_wp2_with fail;refine (bwrite_any w.heap.size w.heap.size _ X w4 HBL4.out HLN.out HB4.out.size).mono ?_;rintro e w5 ⟨rfl, hbl5, hb5, ho5⟩;have HB5 : Hid (Below w.heap.size w w5) := HB4.out.trans hb5;have HG5 : Hid (w5.heap[g]? = some (.cells cur 3 (0, 0))) := ho5 g cur 3 (0, 0) HG4.out (by decide) (by decide);have HBL5 : Hid (Lib.IsBuilder 219 5 w.heap.size w.heap.size (Lib.byteCells (N1 ++ rowsB (R.take (k + 1)))) w5) := by
     rw [HTK.out, ← List.append_assoc, ← bytes_append (N1 ++ rowsB (R.take k)) X];exact Or.inr hbl5
    clear hbl5 hb5 ho5;go_wp2_with fail;go_roundw
    case rel => exact ⟨k + 1, by go_num, hlt, HBL5.out, HB5.out, HG5.out⟩
    case measure => simp [intOf]; omega
   ·have hkR : k = R.length := by omega
    have HBR : Hid (Lib.IsBuilder 219 5 w.heap.size w.heap.size (Lib.byteCells (N1 ++ rowsB R)) wr) := by
     have := HBk.out;rw [hkR, List.take_length] at this;exact this
    clear HBk;go_wp2_with fail;refine (Tryz.Builder_String_any w.heap.size w.heap.size (N1 ++ rowsB R) wr HBR.out HBB.out.size).mono ?_;rintro e w4 ⟨rfl, hb4⟩;have HB4 : Hid (Below w.heap.size w w4) := HBB.out.trans hb4;clear hb4;go_wp2_with fail;go_ret;refine ⟨?_, HB4.out⟩;rw [HS.out]; rfl
end Go.Proofs.YtmnajomkfnkmeaaGreatDoor
