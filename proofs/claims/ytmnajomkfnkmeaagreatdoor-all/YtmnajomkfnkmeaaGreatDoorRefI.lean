import Derived.Test.YtmnajomkfnkmeaaGreatDoorRefD
import Derived.Deep.CutBlock
set_option maxRecDepth 100000
set_option maxHeartbeats 8000000
set_option linter.unusedSimpArgs false
namespace Go.Proofs.YtmnajomkfnkmeaaGreatDoor
open Go.RowKit
attribute [local go_sem] ofL_size
theorem kind_eq (kd : Bs) (c : UInt8) : ((ofL kd).toList == [c]) = decide (kd = [c]) := by
 have := seqL kd [c]
 rwa [show (ofL [c]).toList = [c] by unfold ByteArray.toList; rw [ByteArray.toList.loop, if_pos (by exact Nat.zero_lt_one), ByteArray.toList.loop, if_neg (by exact Nat.lt_irrefl 1)]; rfl] at this
theorem spxI (b : Nat) (p : Sp) (lo hi : Nat) (lo' hi' : Int) (w : World) (h : SpotAt w b p) (hp : p.pos ≤ p.s.length) (hl : p.s.length ≤ 1000000) (hh : hi ≤ 255) (hlo : lo ≤ hi) (e1 : lo' = lo) (e2 : hi' = hi) :
  Calls Tryz.prog 134 #[.pointer (some ⟨b, 0, none⟩), .int .i64 lo', .int .i64 hi'] w fun e w' => e = .returned (.string (ofL (spX lo hi p).1)) ∧ SpotAt w' b (spX lo hi p).2 ∧ Fr (· = b) w w' := by
 subst e1; subst e2; exact spx_any b p lo hi w h hp hl hh hlo
theorem RTTo.same {w w' : World} {tb : Nat} {T : Tab} {f : RF} (h : RT w' tb T f) (hf : Fr (fun _ => False) w w') : RTTo w tb f T w' := ⟨f, h, hf.mono (fun _ _ h => h.elim), fun _ h => Or.inl h⟩
theorem fr_new {w w0 w1 : World} (h0 : Below w.heap.size w w0) (hf : Fr (· = w.heap.size) w0 w1) : Fr (fun _ => False) w w1 :=
 (Fr.of_below (S := fun _ => False) h0).trans hf (fun i hi e => by rw [e] at hi; exact absurd hi (Nat.lt_irrefl _))
theorem rowV_six {w : World} {tb : Nat} {T : Tab} {f : RF} (h : RT w tb T f) {i : Nat} (hi : i < 4096) {v0 v1 v2 v3 v4 v5 : Value} (d0 : w.cell? ⟨tb, i * 6, none⟩ = some v0) (d1 : w.cell? ⟨tb, i * 6 + 1, none⟩ = some v1) (d2 : w.cell? ⟨tb, i * 6 + 2, none⟩ = some v2) (d3 : w.cell? ⟨tb, i * 6 + 3, none⟩ = some v3) (d4 : w.cell? ⟨tb, i * 6 + 4, none⟩ = some v4) (d5 : w.cell? ⟨tb, i * 6 + 5, none⟩ = some v5) :
  rowV (T i) (f i) = [v0, v1, v2, v3, v4, v5] := by
 have e := fun j hj => h.cell hi j hj;have e0 := (e 0 (by decide)).symm.trans d0;have e1 := (e 1 (by decide)).symm.trans d1;have e2 := (e 2 (by decide)).symm.trans d2;have e3 := (e 3 (by decide)).symm.trans d3;have e4 := (e 4 (by decide)).symm.trans d4;have e5 := (e 5 (by decide)).symm.trans d5;cases ht : T i with
 | none =>
  rw [ht] at e0 e1 e2 e3 e4 e5;injection e0 with e0; injection e1 with e1; injection e2 with e2; injection e3 with e3; injection e4 with e4; injection e5 with e5
  rw [← e0, ← e1, ← e2, ← e3, ← e4, ← e5]; rfl
 | some x =>
  rw [ht] at e0 e1 e2 e3 e4 e5;injection e0 with e0; injection e1 with e1; injection e2 with e2; injection e3 with e3; injection e4 with e4; injection e5 with e5
  rw [← e0, ← e1, ← e2, ← e3, ← e4, ← e5]; rfl
def Arm (w : World) (T : Tab) (f : RF) (id : Nat) (p : Bs) (V : Option Tab) (sb xb : Nat) (wx : World) (d : Nat) : Prop :=
 ∃ (q : Sp) (y : Option Sess) (g : Value × Value), endOf T id p.length (some (q, d, y)) = V ∧ SpotAt wx sb q ∧ Blk wx xb (rowV y g).toArray 194 ∧ SO wx g.1 (nmsOf y) ∧ SO wx g.2 (vlsOf y) ∧ (y = none → g = (nilS, nilS)) ∧
  (∀ b, g.1.ownBlock = some b ∨ g.2.ownBlock = some b → (f id).1.ownBlock = some b ∨ (f id).2.ownBlock = some b ∨ w.heap.size ≤ b) ∧ Fr (fun _ => False) w wx
theorem do_end {w wc : World} {tb : Nat} {T : Tab} {f : RF} {id d : Nat} {y : Option Sess} {g : Value × Value} (h0 : RT w tb T f) (h : RT wc tb T f) (hf : Fr (fun _ => False) w wc) (hid : id < 4096) (hd : d < 4096)
  (hN : SO wc g.1 (nmsOf y)) (hV : SO wc g.2 (vlsOf y)) (hz : y = none → g = (nilS, nilS)) (hown : ∀ b, g.1.ownBlock = some b ∨ g.2.ownBlock = some b → (f id).1.ownBlock = some b ∨ (f id).2.ownBlock = some b ∨ w.heap.size ≤ b)
  (a0 a1 a2 a3 a4 a5 : Value) (hrow : rowV y g = [a0, a1, a2, a3, a4, a5]) :
  RTTo w tb f ((T.set id none).set d y) (put6 (put6 wc tb (id * 6) (.bool false) (.int .i64 0) (.int .i64 0) (.int .i64 0) (.slice none 0 0) (.slice none 0 0)) tb (d * 6) a0 a1 a2 a3 a4 a5) := by
 have hne : ∀ b, g.1.ownBlock = some b ∨ g.2.ownBlock = some b → b ≠ tb := fun b hb e => by
  rcases hown b hb with h1 | h1 | h1
  ·exact h.ne id hid b (Or.inl h1) e
  ·exact h.ne id hid b (Or.inr h1) e
  ·have := h0.lt; omega
 have hfr := put6_fr wc tb (id * 6) (.bool false) (.int .i64 0) (.int .i64 0) (.int .i64 0) (.slice none 0 0) (.slice none 0 0);refine ⟨_, (h.kill hid).put hd y g hz (hN.kept hfr (fun b hb => hne b (Or.inl hb))) (hV.kept hfr (fun b hb => hne b (Or.inr hb))) hne a0 a1 a2 a3 a4 a5 hrow, ?_, fun b hb => ?_⟩
 ·exact ((hf.mono (fun _ _ h => h.elim)).trans hfr (fun _ _ h => h)).trans (put6_fr _ _ _ _ _ _ _ _ _) (fun _ _ h => h)
 ·have hg : g.1.ownBlock = some b ∨ g.2.ownBlock = some b → rfoot tb f b ∨ w.heap.size ≤ b := fun hb => by
   rcases hown b hb with h1 | h1 | h1
   ·exact Or.inl (Or.inr ⟨id, hid, Or.inl h1⟩)
   ·exact Or.inl (Or.inr ⟨id, hid, Or.inr h1⟩)
   ·exact Or.inr h1
  rcases upF_foot hb with h1 | h1 | h1
  ·rcases upF_foot h1 with h2 | h2 | h2
   ·exact Or.inl h2
   ·cases h2
   ·cases h2
  ·exact hg (Or.inl h1)
  ·exact hg (Or.inr h1)
theorem rdo_any (tb : Nat) (T : Tab) (f : RF) (p : Bs) (w : World) (h : RT w tb T f) (hw : T.wf) (hl : p.length ≤ 1000000) :
  Calls Tryz.prog 82 #[.slice (some ⟨tb, 0, none⟩) 4096 4096, .string (ofL p)] w fun e w' => e = .returned (.bool (T.takes p).isSome) ∧ RTTo w tb f ((T.takes p).getD T) w' := by
 have H : Hid (RT w tb T f) := h;have HW : Hid T.wf := hw;have htb := h.lt;have HTI : Hid (∀ i x, T i = some x → i < 4096) := fun i x hx => (hw.each i x hx).1;obtain ⟨V, hV⟩ : ∃ V, V = T.takes p := ⟨_, rfl⟩;have HV : Hid (refDo T p = V) := by rw [hV]; exact refDo_eq T p
 rw [← hV];clear hV h hw;go_enter Tryz.func82, Tryz.ntmps82;go_wp2_with fail;refine (take2 w.heap.size (sp0 p) 1 1 _ (Blk.new w _ _) (Nat.zero_le _) hl (by decide) rfl).mono ?_;rintro e w1 ⟨rfl, hs1, hf1⟩;have HF1 : Hid (Fr (fun _ => False) w w1) := fr_new (bA) hf1;have hz : w.heap.size < w1.heap.size := by have := hf1.size; simp at this; omega
 have H1 : Hid (RT w1 tb T f) := H.out.kept HF1.out (fun _ _ h => h);have hq : (spTake 1 (sp0 p)).2.s = p := spTake_s 1 (sp0 p);have hq2 : (spTake 1 (sp0 p)).2.pos ≤ (spTake 1 (sp0 p)).2.s.length := by rw [hq]; exact spTake_pos (p := sp0 p) (Nat.zero_le _)
 have hv := HV.out;unfold refDo rkind rid at hv;generalize spTake 1 (sp0 p) = A at *
 obtain ⟨kd, q⟩ := A;change SpotAt w1 w.heap.size q at hs1;change q.s = p at hq;change q.pos ≤ q.s.length at hq2;dsimp only at hv ⊢;have HS1 : Hid (SpotAt w1 w.heap.size q) := hs1;clear hf1 hs1 HV;by_cases k85 : kd = [85]
 ·rw [if_pos k85] at hv;have e85 : ((ofL kd).toList == [85]) = true := by rw [kind_eq]; exact decide_eq_true k85
  clear k85;go_wp2_with fail;refine (rall_any tb T f w.heap.size q w1 H1.out HS1.out hq2 (by rw [hq]; exact hl) (fun hb => by have := H.out.foot hb; omega) HTI.out).mono ?_;rintro e w2 ⟨rfl, f', h2, hf2, hn2⟩;generalize hB : fitU T (spN 1 1 99 q).2 (spN 1 1 99 q).1 = B at *
  go_wp2_with fail;go_ret;have hfr : Fr (fun b => b = tb) w w2 := (HF1.out.mono (fun _ _ h => h.elim)).trans hf2 (fun i hi e => by
   rcases e with e | e
   ·exact e
   ·omega)
  cases B with
  | true => rw [if_pos rfl] at hv; rw [← hv]; exact ⟨rfl, f', h2, hfr, fun b hb => Or.inl (hn2 b hb)⟩
  | false => rw [if_neg (by decide)] at hv; rw [← hv]; exact ⟨rfl, f', h2, hfr, fun b hb => Or.inl (hn2 b hb)⟩
 ·rw [if_neg k85] at hv;have e85 : ((ofL kd).toList == [85]) = false := by rw [kind_eq]; exact decide_eq_false k85
  clear k85;go_wp2_with fail;refine (spnI w.heap.size q 2 0 4095 2 0 4095 w1 HS1.out hq2 (by rw [hq]; exact hl) (by decide) rfl rfl rfl).mono ?_;rintro e w2 ⟨rfl, hs2, hf2⟩;have HF2 : Hid (Fr (fun _ => False) w w2) := HF1.out.trans hf2 (fun i hi e => by rw [e] at hi; exact absurd hi (Nat.lt_irrefl _));have hz2 : w.heap.size < w2.heap.size := Nat.lt_of_lt_of_le hz hf2.size;have H2 : Hid (RT w2 tb T f) := H.out.kept HF2.out (fun _ _ h => h);have hr := spN_s 2 0 4095 q;rw [hq] at hr;have hr2 := spN_pos (w := 2) (lo := 0) (hi := 4095) hq2;have hid := (spN_le (w := 2) (lo := 0) (hi := 4095) (p := q) (by decide)).1;generalize spN 2 0 4095 q = A at *
  obtain ⟨id, r⟩ := A;change SpotAt w2 w.heap.size r at hs2;change r.s = p at hr;change r.pos ≤ q.s.length at hr2;rw [hq] at hr2;change id ≤ 4095 at hid;dsimp only at hv ⊢;have HS2 : Hid (SpotAt w2 w.heap.size r) := hs2;have c2 := Blk.cell hs2 2;simp only [gT, gZ, gS] at c2;have clv := H2.out.live (i := id) (by omega);have e76 := kind_eq kd 76;have b1 : (0 : Int) ≤ (id : Int) := by omega
  have b2 : (id : Int) < 4096 := by omega
  clear hf2 hs2 HS1 HF1 H1 hz hq hq2 e85;have HC : Hid (((ofL kd).toList != [76]) = decide (kd ≠ [76])) := by
   show (!((ofL kd).toList == [76])) = _;rw [e76, decide_not]
  clear e76;obtain ⟨E, hE⟩ : ∃ E : Bool, E = decide (r.bad = true ∨ (T id).isSome ≠ decide (kd ≠ [76])) := ⟨_, rfl⟩;have HVV : Hid ((if r.bad = true ∨ (T id).isSome ≠ decide (kd ≠ [76]) then none else endOf T id p.length (midOf T kd id r)) = V) := hv;have HR : Hid (r.s = p ∧ r.pos ≤ p.length) := ⟨hr, hr2⟩;have HE0 : Hid (E = decide (r.bad = true ∨ (T id).isSome ≠ decide (kd ≠ [76]))) := hE;clear hv hr hr2 hE;go_upto_region 6 with fail
  go_cut [39] (fun cv wx => cv = .bool E ∧ wx = w2)
  case first =>
   have hE := HE0.out;clear HE0;cases hb : r.bad with
   | true =>
    rw [hb] at c2 hE;have hE2 : E = true := by rw [hE]; exact decide_eq_true (Or.inl rfl)
    clear hE;subst hE2;clear hb;go_wp2_with fail;go_meet
    case rel => exact ⟨rfl, rfl⟩
   | false =>
    rw [hb] at c2 hE;have HE : Hid (((T id).isSome != ((ofL kd).toList != [76])) = E) := by
     show _ = _;rw [hE, HC.out, Bool.eq_iff_iff, bne_iff_ne, decide_eq_true_eq];exact ⟨fun h => Or.inr h, fun h => h.resolve_left (fun h => by cases h)⟩
    generalize (T id).isSome = live at *
    clear hb hE;go_wp2_with fail;go_meet
    case rel => exact ⟨by rw [← HE.out]; rfl, rfl⟩
  case rest =>
  obtain ⟨rfl, hwc⟩ := hcut;replace hwc := hwc.symm;subst hwc;have hE := HE0.out;have hv := HVV.out;clear HE0 HVV;cases E with
  | true =>
   rw [if_pos (of_decide_eq_true hE.symm)] at hv;have HVV : Hid (none = V) := hv;clear hE hv;go_wp2_with fail;go_ret;rw [← HVV.out];exact ⟨rfl, RTTo.same H2.out HF2.out⟩
  | false =>
   have hne := of_decide_eq_false hE.symm;rw [if_neg hne] at hv;have hrb : r.bad = false := by
    cases hb : r.bad with
    | false => rfl
    | true => exact absurd (Or.inl hb) hne
   have HLV : Hid ((T id).isSome = decide (kd ≠ [76])) := by
    show _ = _;cases h1 : (T id).isSome <;> cases h2 : decide (kd ≠ [76]) <;> first | rfl | (exact absurd (Or.inr (by rw [h1, h2]; decide)) hne)
   have HVV : Hid (endOf T id p.length (midOf T kd id r) = V) := hv;clear hE hne hv;go_upto_region 8 with fail
   obtain ⟨v0, v1, v2, v3, v4, v5, d0, d1, d2, d3, d4, d5⟩ := H2.out.all6 (i := id) (by omega);have HRW : Hid (rowV (T id) (f id) = [v0, v1, v2, v3, v4, v5]) := rowV_six H2.out (by omega) d0 d1 d2 d3 d4 d5;clear c2 clv
   go_cut [8] (fun bv wx => bv = .pointer (some ⟨w2.heap.size, 0, none⟩) ∧ wx = w2.alloc (.cells #[v0, v1, v2, v3, v4, v5] 194))
   case first =>
    have hrw := HRW.out;clear HRW HVV HLV;cases hT : T id with
    | none =>
     rw [hT] at hrw;simp only [rowV, List.cons.injEq, and_true] at hrw;obtain ⟨rfl, rfl, rfl, rfl, rfl, rfl⟩ := hrw;clear hT;go_wp2_with fail;go_meet
     case rel => exact ⟨rfl, rfl⟩
    | some x =>
     obtain ⟨a1, c1, e1, _⟩ := so_slice (H2.out.nms id (by omega));obtain ⟨a2, c2, e2, _⟩ := so_slice (H2.out.vls id (by omega));rw [hT] at hrw;simp only [rowV, List.cons.injEq, and_true] at hrw;rw [e1, e2] at hrw;obtain ⟨rfl, rfl, rfl, rfl, rfl, rfl⟩ := hrw;generalize (nmsOf (T id)).length = l1 at *
     generalize (vlsOf (T id)).length = l2 at *
     clear hT e1 e2;go_wp2_with fail;go_meet
     case rel => exact ⟨rfl, rfl⟩
   case rest =>
   obtain ⟨rfl, hw3⟩ := hcut;obtain ⟨w3, hwc⟩ : ∃ w3, w3 = wc := ⟨_, rfl⟩;subst hwc;have HF3 : Hid (Fr (fun _ => False) w w3) := by rw [hw3]; exact HF2.out.trans (Fr.of_below (S := fun _ => False) (bA)) (fun _ _ h => h)
   have HX3 : Hid (Blk w3 w2.heap.size #[v0, v1, v2, v3, v4, v5] 194) := by rw [hw3]; exact Blk.new w2 _ _
   have H3 : Hid (RT w3 tb T f) := H.out.kept HF3.out (fun _ _ h => h);have HS3 : Hid (SpotAt w3 w.heap.size r) := by rw [hw3]; exact HS2.out.alloc _
   obtain ⟨xb, hxb⟩ : ∃ xb, xb = w2.heap.size := ⟨_, rfl⟩;rw [← hxb] at HX3 ⊢;have hx3 : w.heap.size < xb := by omega
   clear hw3 hxb HS2 d0 d1 d2 d3 d4 d5;go_upto_block 0 with fail
   go_cut [9] (fun tv wx => ∃ d : Nat, d < 4096 ∧ tv = .int .i64 d ∧ Hid (Arm w T f id p V w.heap.size xb wx d))
   case first =>
    by_cases k76 : kd = [76]
    ·have q76 : ((ofL kd).toList == [76]) = true := by rw [kind_eq]; exact decide_eq_true k76
     have hv := HVV.out;rw [k76, mid76] at hv;have hrp : r.pos ≤ r.s.length := by rw [HR.out.1]; exact HR.out.2
     have HAP : Hid ((spN 1 1 99 r).2.pos ≤ (spN 1 1 99 r).2.s.length ∧ (spN 1 1 99 r).2.s.length ≤ 1000000) := ⟨by rw [spN_s]; exact spN_pos hrp, by rw [spN_s, HR.out.1]; exact hl⟩;obtain ⟨w4, hw4⟩ : ∃ w4, w4 = put6 w3 xb 0 (.bool true) (.int .i64 0) (.int .i64 0) (.int .i64 0) (.slice none 0 0) (.slice none 0 0) := ⟨_, rfl⟩;have HF4 : Hid (Fr (fun _ => False) w w4) := by rw [hw4]; exact HF3.out.trans (put6_fr _ _ _ _ _ _ _ _ _) (fun i hi e => by omega)
     have HS4 : Hid (SpotAt w4 w.heap.size r) := by rw [hw4]; exact HS3.out.kept (put6_fr _ _ _ _ _ _ _ _ _) (by omega)
     have HX4 : Hid (Blk w4 xb #[.bool true, .int .i64 0, .int .i64 0, .int .i64 0, .slice none 0 0, .slice none 0 0] 194) := by rw [hw4]; exact put6_blk HX3.out 0 _ _ _ _ _ _
     have HC5 : Hid (Calls _ _ _ _ _) := spnI w.heap.size r 1 1 99 1 1 99 w4 HS4.out hrp (by rw [HR.out.1]; exact hl) (by decide) rfl rfl rfl;generalize spN 1 1 99 r = A at *
     obtain ⟨B, hB⟩ : ∃ B, B = spN 4 0 maxT A.2 := ⟨_, rfl⟩;have HB : Hid (spN 4 0 maxT A.2 = B) := hB.symm;rw [← hB] at hv;have HV0 : Hid (endOf T id p.length (if 12 ≤ T.live then none else some (B.2, id, some ⟨A.1, B.1, B.1, []⟩)) = V) := hv;have x0 := HX3.out.cell 0;have x1 := HX3.out.cell 1;have x2 := HX3.out.cell 2;have x3 := HX3.out.cell 3;have x4 := HX3.out.cell 4;have x5 := HX3.out.cell 5;simp only [gT, gZ, gS] at x0 x1 x2 x3 x4 x5;have f0 := HX3.out.frozen 0;have f1 := HX3.out.frozen 1;have f2 := HX3.out.frozen 2;have f3 := HX3.out.frozen 3;have f4 := HX3.out.frozen 4;have f5 := HX3.out.frozen 5;clear hv hB k76 HRW HVV HLV hrp;go_upto_region 14 with fail
     unfold put6 at hw4;change w4 = (((((w3.setCell ⟨xb, 0, none⟩ _).setCell ⟨xb, 1, none⟩ _).setCell ⟨xb, 2, none⟩ _).setCell ⟨xb, 3, none⟩ _).setCell ⟨xb, 4, none⟩ _).setCell ⟨xb, 5, none⟩ _ at hw4;rw [← hw4];clear hw4 x0 x1 x2 x3 x4 x5 f0 f1 f2 f3 f4 f5;go_wp2_with fail;refine HC5.out.mono ?_;rintro e w5 ⟨rfl, hs5, hf5⟩;have HF5 : Hid (Fr (fun _ => False) w w5) := HF4.out.trans hf5 (fun i hi e => by rw [e] at hi; exact absurd hi (Nat.lt_irrefl _));have HX5 := HX4.out.kept hf5 (by omega);have x1 := HX5.cell 1;have f1 := HX5.frozen 1;simp only [gT, gZ, gS] at x1;have hfr := fr_cell (w := w5) (kb := xb) 1 (.int .i64 (A.1 : Int));have HF6 : Hid (Fr (fun _ => False) w (w5.setCell ⟨xb, 1, none⟩ (.int .i64 (A.1 : Int)))) := HF5.out.trans hfr (fun i hi e => by omega);have HS6 : Hid (SpotAt (w5.setCell ⟨xb, 1, none⟩ (.int .i64 (A.1 : Int))) w.heap.size A.2) := hs5.kept hfr (by omega);have HX6 : Hid (Blk (w5.setCell ⟨xb, 1, none⟩ (.int .i64 (A.1 : Int))) xb #[.bool true, .int .i64 (A.1 : Int), .int .i64 0, .int .i64 0, .slice none 0 0, .slice none 0 0] 194) := HX5.set 1 (.int .i64 (A.1 : Int));clear hs5 hf5 hfr HC5 HX5;go_upto_region 15 with fail
     obtain ⟨w6, hw6⟩ : ∃ w6, w6 = w5.setCell ⟨xb, 1, none⟩ (.int .i64 (A.1 : Int)) := ⟨_, rfl⟩;rw [← hw6] at HF6 HS6 HX6 ⊢;clear hw6 x1 f1;have HC7 : Hid (Calls _ _ _ _ _) := spnI w.heap.size A.2 4 0 maxT 4 0 1000000000 w6 HS6.out HAP.out.1 HAP.out.2 (by decide) rfl rfl rfl;rw [HB.out] at HC7;go_wp2_with fail;refine HC7.out.mono ?_;rintro e w7 ⟨rfl, hs7, hf7⟩;have HF7 : Hid (Fr (fun _ => False) w w7) := HF6.out.trans hf7 (fun i hi e => by rw [e] at hi; exact absurd hi (Nat.lt_irrefl _));have HX7 := HX6.out.kept hf7 (by omega);have x2 := HX7.cell 2;have f2 := HX7.frozen 2;have x3 := HX7.cell 3;have f3 := HX7.frozen 3;simp only [gT, gZ, gS] at x2 x3;obtain ⟨w8, hw8⟩ : ∃ w8, w8 = (w7.setCell ⟨xb, 2, none⟩ (.int .i64 (B.1 : Int))).setCell ⟨xb, 3, none⟩ (.int .i64 (B.1 : Int)) := ⟨_, rfl⟩;have hfr : Fr (fun b => b = xb) w7 w8 := by rw [hw8]; exact (fr_cell (w := w7) (kb := xb) 2 _).trans (fr_cell 3 _) (fun _ _ h => h)
     have HF8 : Hid (Fr (fun _ => False) w w8) := HF7.out.trans hfr (fun i hi e => by omega);have H8 : Hid (RT w8 tb T f) := H.out.kept HF8.out (fun _ _ h => h);have HS8 : Hid (SpotAt w8 w.heap.size B.2) := hs7.kept hfr (by omega);have HX8 : Hid (Blk w8 xb #[.bool true, .int .i64 (A.1 : Int), .int .i64 (B.1 : Int), .int .i64 (B.1 : Int), .slice none 0 0, .slice none 0 0] 194) := by rw [hw8]; exact (HX7.set 2 (.int .i64 (B.1 : Int))).set 3 (.int .i64 (B.1 : Int))
     have HLC : Hid (Calls _ _ _ _ _) := rlive_any tb T f w8 H8.out;clear hs7 hf7 hfr HC7 HX7;generalize T.live = lv at *
     go_upto_region 17 with fail
     rw [← hw8];clear hw8 x2 f2 x3 f3;go_wp2_with fail;refine HLC.out.mono ?_;rintro e w' ⟨rfl, hw'⟩;subst w';by_cases hl12 : 12 ≤ lv
     ·have hv := HV0.out;rw [if_pos hl12] at hv;have HV1 : Hid (none = V) := hv;have hl12 : (12 : Int) ≤ (lv : Int) := by omega
      clear hv;go_wp2_with fail;go_ret;rw [← HV1.out];exact ⟨rfl, RTTo.same H8.out HF8.out⟩
     ·have hv := HV0.out;rw [if_neg hl12] at hv;have HA : Hid (Arm w T f id p V w.heap.size xb w8 id) :=
       ⟨B.2, some ⟨A.1, B.1, B.1, []⟩, (nilS, nilS), hv, HS8.out, HX8.out, Own.nil _ _ _ _, Own.nil _ _ _ _, (fun _ => rfl), (fun b hb => by rcases hb with hb | hb <;> cases hb), HF8.out⟩
      have hl12 : ¬ (12 : Int) ≤ (lv : Int) := by omega
      clear hv;go_wp2_with fail;go_meet
      case rel => exact ⟨id, by omega, rfl, HA.out⟩
    ·have q76 : ((ofL kd).toList == [76]) = false := by rw [kind_eq]; exact decide_eq_false k76
     have hlive : (T id).isSome = true := by rw [HLV.out]; exact decide_eq_true k76
     by_cases k84 : kd = [84]
     ·have q84 : ((ofL kd).toList == [84]) = true := by rw [kind_eq]; exact decide_eq_true k84
      obtain ⟨x, hT⟩ := Option.isSome_iff_exists.1 hlive;have hv := HVV.out;rw [k84, mid84, hT] at hv;have hrw := HRW.out;have hN := H.out.nms id (by omega);have hVl := H.out.vls id (by omega);rw [hT] at hrw hN hVl;have HN : Hid (SO w (f id).1 (nmsOf (some x)) ∧ SO w (f id).2 (vlsOf (some x))) := ⟨hN, hVl⟩;simp only [rowV, List.cons.injEq, and_true] at hrw;obtain ⟨rfl, rfl, rfl, rfl, rfl, rfl⟩ := hrw;have HC4 : Hid (Calls _ _ _ _ _) := spnI w.heap.size r 4 0 maxT 4 0 1000000000 w3 HS3.out (by rw [HR.out.1]; exact HR.out.2) (by rw [HR.out.1]; exact hl) (by decide) rfl rfl rfl;obtain ⟨A, hA⟩ : ∃ A, A = spN 4 0 maxT r := ⟨_, rfl⟩;rw [← hA] at hv HC4;have HV0 : Hid (endOf T id p.length (some (A.2, id, some { x with used := A.1 })) = V) := hv;clear hv hA hT hN hVl k76 k84 hlive HRW HVV HLV;go_wp2_with fail;refine HC4.out.mono ?_;rintro e w4 ⟨rfl, hs4, hf4⟩;have HF4 : Hid (Fr (fun _ => False) w w4) := HF3.out.trans hf4 (fun i hi e => by rw [e] at hi; exact absurd hi (Nat.lt_irrefl _));have HX4 := HX3.out.kept hf4 (by omega);have x3 := HX4.cell 3;have f3 := HX4.frozen 3;simp only [gT, gZ, gS] at x3;have hfr := fr_cell (w := w4) (kb := xb) 3 (.int .i64 (A.1 : Int));have HF5 := HF4.out.trans hfr (fun i hi e => by omega);have HA : Hid (Arm w T f id p V w.heap.size xb (w4.setCell ⟨xb, 3, none⟩ (.int .i64 (A.1 : Int))) id) :=
       ⟨A.2, some { x with used := A.1 }, f id, HV0.out, hs4.kept hfr (by omega), HX4.set 3 _, HN.out.1.kept HF5 (fun _ _ h => h), HN.out.2.kept HF5 (fun _ _ h => h), (fun h => by cases h), (fun b hb => by rcases hb with hb | hb; exact Or.inl hb; exact Or.inr (Or.inl hb)), HF5⟩
      clear HX4 hs4 hf4 hfr HF5 HN HC4;go_wp2_with fail;go_meet
      case rel => exact ⟨id, by omega, rfl, HA.out⟩
     ·have q84 : ((ofL kd).toList == [84]) = false := by rw [kind_eq]; exact decide_eq_false k84
      by_cases k82 : kd = [82]
      ·have q82 : ((ofL kd).toList == [82]) = true := by rw [kind_eq]; exact decide_eq_true k82
       obtain ⟨x, hT⟩ := Option.isSome_iff_exists.1 hlive;have hv := HVV.out;rw [k82, mid82, hT] at hv;have hrw := HRW.out;have hN := H.out.nms id (by omega);have hVl := H.out.vls id (by omega);rw [hT] at hrw hN hVl;have HN : Hid (SO w (f id).1 (nmsOf (some x)) ∧ SO w (f id).2 (vlsOf (some x))) := ⟨hN, hVl⟩;simp only [rowV, List.cons.injEq, and_true] at hrw;obtain ⟨rfl, rfl, rfl, rfl, rfl, rfl⟩ := hrw;have hrp : r.pos ≤ r.s.length := by rw [HR.out.1]; exact HR.out.2
       have HC4 : Hid (Calls _ _ _ _ _) := spnI w.heap.size r 2 0 4095 2 0 4095 w3 HS3.out hrp (by rw [HR.out.1]; exact hl) (by decide) rfl rfl rfl;have hA1 : (spN 2 0 4095 r).1 ≤ 4095 := (spN_le (w := 2) (lo := 0) (hi := 4095) (p := r) (by decide)).1;have HAP : Hid ((spN 2 0 4095 r).2.pos ≤ (spN 2 0 4095 r).2.s.length ∧ (spN 2 0 4095 r).2.s.length ≤ 1000000) := ⟨by rw [spN_s]; exact spN_pos hrp, by rw [spN_s, HR.out.1]; exact hl⟩;generalize spN 2 0 4095 r = A at *
       obtain ⟨B, hB⟩ : ∃ B, B = spN 4 0 maxT A.2 := ⟨_, rfl⟩;have HB : Hid (spN 4 0 maxT A.2 = B) := hB.symm;rw [← hB] at hv;have HV0 : Hid (endOf T id p.length (if B.2.bad = true ∨ (T A.1).isSome = true then none else some (B.2, A.1, some { x with used := B.1 })) = V) := hv;clear hv hB hT hN hVl k76 k84 k82 hlive HRW HVV HLV hrp;go_wp2_with fail;refine HC4.out.mono ?_;rintro e w4 ⟨rfl, hs4, hf4⟩;have HF4 : Hid (Fr (fun _ => False) w w4) := HF3.out.trans hf4 (fun i hi e => by rw [e] at hi; exact absurd hi (Nat.lt_irrefl _));have HX4 : Hid (Blk w4 xb _ 194) := HX3.out.kept hf4 (by omega);have HC5 : Hid (Calls _ _ _ _ _) := spnI w.heap.size A.2 4 0 maxT 4 0 1000000000 w4 hs4 HAP.out.1 HAP.out.2 (by decide) rfl rfl rfl;rw [HB.out] at HC5;clear hs4 hf4 HC4;go_wp2_with fail;refine HC5.out.mono ?_;rintro e w5 ⟨rfl, hs5, hf5⟩;have HF5 : Hid (Fr (fun _ => False) w w5) := HF4.out.trans hf5 (fun i hi e => by rw [e] at hi; exact absurd hi (Nat.lt_irrefl _));have HX5 := HX4.out.kept hf5 (by omega);have x3 := HX5.cell 3;have f3 := HX5.frozen 3;simp only [gT, gZ, gS] at x3;have hfr := fr_cell (w := w5) (kb := xb) 3 (.int .i64 (B.1 : Int));have HF6 : Hid (Fr (fun _ => False) w (w5.setCell ⟨xb, 3, none⟩ (.int .i64 (B.1 : Int)))) := HF5.out.trans hfr (fun i hi e => by omega);have H6 : Hid (RT (w5.setCell ⟨xb, 3, none⟩ (.int .i64 (B.1 : Int))) tb T f) := H.out.kept HF6.out (fun _ _ h => h);have HS6 : Hid (SpotAt (w5.setCell ⟨xb, 3, none⟩ (.int .i64 (B.1 : Int))) w.heap.size B.2) := hs5.kept hfr (by omega);have HX6 : Hid (Blk (w5.setCell ⟨xb, 3, none⟩ (.int .i64 (B.1 : Int))) xb _ 194) := HX5.set 3 (.int .i64 (B.1 : Int));clear hs5 hf5 hfr HC5 HX5;go_upto_region 25 with fail
       obtain ⟨w6, hw6⟩ : ∃ w6, w6 = w5.setCell ⟨xb, 3, none⟩ (.int .i64 (B.1 : Int)) := ⟨_, rfl⟩;rw [← hw6] at HF6 H6 HS6 HX6 ⊢;clear hw6 x3 f3;have c2 := Blk.cell HS6.out 2;simp only [gT, gZ, gS] at c2;have clv := H6.out.live (i := A.1) (by omega);have z1 : (0 : Int) ≤ (A.1 : Int) := by omega
       have z2 : (A.1 : Int) < 4096 := by omega
       by_cases hbad : B.2.bad = true ∨ (T A.1).isSome = true
       ·have hv := HV0.out;rw [if_pos hbad] at hv;have HV1 : Hid (none = V) := hv;clear hv;cases hb : B.2.bad with
        | true =>
         rw [hb] at c2;clear hbad hb;go_wp2_with fail;go_ret;rw [← HV1.out];exact ⟨rfl, RTTo.same H6.out HF6.out⟩
        | false =>
         have ht : (T A.1).isSome = true := hbad.resolve_left (fun h => by rw [hb] at h; cases h);rw [hb] at c2;rw [ht] at clv;clear hbad hb ht;go_wp2_with fail;go_ret;rw [← HV1.out];exact ⟨rfl, RTTo.same H6.out HF6.out⟩
       ·have hv := HV0.out;rw [if_neg hbad] at hv;have hb : B.2.bad = false := by
         cases hb : B.2.bad with
         | false => rfl
         | true => exact absurd (Or.inl hb) hbad
        have ht : (T A.1).isSome = false := by
         cases ht : (T A.1).isSome with
         | false => rfl
         | true => exact absurd (Or.inr ht) hbad
        have HA : Hid (Arm w T f id p V w.heap.size xb w6 A.1) :=
         ⟨B.2, some { x with used := B.1 }, f id, hv, HS6.out, HX6.out, HN.out.1.kept HF6.out (fun _ _ h => h), HN.out.2.kept HF6.out (fun _ _ h => h), (fun h => by cases h), (fun b hb => by rcases hb with hb | hb; exact Or.inl hb; exact Or.inr (Or.inl hb)), HF6.out⟩
        rw [hb] at c2;rw [ht] at clv;clear hv hbad hb ht;go_wp2_with fail;go_meet
        case rel => exact ⟨A.1, by omega, rfl, HA.out⟩
      ·have q82 : ((ofL kd).toList == [82]) = false := by rw [kind_eq]; exact decide_eq_false k82
       by_cases k83 : kd = [83]
       ·have q83 : ((ofL kd).toList == [83]) = true := by rw [kind_eq]; exact decide_eq_true k83
        obtain ⟨x, hT⟩ := Option.isSome_iff_exists.1 hlive;have hxw : Sess.wf x := (HW.out.each id x hT).2;have hv := HVV.out;rw [k83, mid83, hT] at hv;simp only [Option.map_some] at hv;have hrw := HRW.out;have hN := H.out.nms id (by omega);have hVl := H.out.vls id (by omega);rw [hT] at hrw hN hVl;obtain ⟨na, nc, en, _⟩ := so_slice hN;obtain ⟨va, vc, ev, _⟩ := so_slice hVl;rw [show nmsOf (some x) = x.vals.map (·.1) from rfl, List.length_map] at en;rw [show vlsOf (some x) = x.vals.map (·.2) from rfl, List.length_map] at ev;have HN : Hid (SO w (.slice na x.vals.length nc) (x.vals.map (·.1)) ∧ SO w (.slice va x.vals.length vc) (x.vals.map (·.2))) := ⟨en ▸ hN, ev ▸ hVl⟩;simp only [rowV, List.cons.injEq, and_true] at hrw;rw [en, ev] at hrw;obtain ⟨rfl, rfl, rfl, rfl, rfl, rfl⟩ := hrw;have hrp : r.pos ≤ r.s.length := by rw [HR.out.1]; exact HR.out.2
        have hrl : r.s.length ≤ 1000000 := by rw [HR.out.1]; exact hl
        have HC4 : Hid (Calls _ _ _ _ _) := spxI w.heap.size r 1 8 1 8 w3 HS3.out hrp hrl (by decide) (by decide) rfl rfl;have HA2 : Hid ((spX 1 8 r).2.pos ≤ (spX 1 8 r).2.s.length ∧ (spX 1 8 r).2.s.length ≤ 1000000) := ⟨by rw [spX_s]; exact spX_pos hrp, by rw [spX_s]; exact hrl⟩;generalize spX 1 8 r = A at *
        obtain ⟨D, hD⟩ : ∃ D, D = spX 0 8 A.2 := ⟨_, rfl⟩;have HD2 : Hid (D.2.pos ≤ D.2.s.length ∧ D.2.s.length ≤ 1000000) := by rw [hD]; exact ⟨by rw [spX_s]; exact spX_pos HA2.out.1, by rw [spX_s]; exact HA2.out.2⟩
        obtain ⟨B, hB⟩ : ∃ B, B = spN 4 0 maxT D.2 := ⟨_, rfl⟩;rw [← hD, ← hB] at hv;have HD : Hid (spX 0 8 A.2 = D) := hD.symm;have HB : Hid (spN 4 0 maxT D.2 = B) := hB.symm;obtain ⟨rm, hrm⟩ : ∃ rm, rm = x.room A.1 := ⟨_, rfl⟩;have HVA : Hid (rm = false → none = V) := fun h => by rw [← hv, if_pos (by rw [← hrm, h])]; rfl
        have HVB : Hid (rm = true → endOf T id p.length (some (B.2, id, some { x with vals := setVal A.1 D.1 x.vals, used := B.1 })) = V) := fun h => by rw [← hv, if_neg (by rw [← hrm, h]; decide)]
        have HRM : Hid (rm = x.room A.1) := hrm;have HXW : Hid (x.vals.length ≤ 3 ∧ rising x.vals) := ⟨hxw.few, hxw.rise⟩;clear hv hD hB hrm hT hN hVl hxw en ev k76 k84 k82 k83 hlive HRW HVV HLV hrp hrl;go_wp2_with fail;refine HC4.out.mono ?_;rintro e w4 ⟨rfl, hs4, hf4⟩;have HF4 : Hid (Fr (fun _ => False) w w4) := HF3.out.trans hf4 (fun i hi e => by rw [e] at hi; exact absurd hi (Nat.lt_irrefl _));have HX4 : Hid (Blk w4 xb _ 194) := HX3.out.kept hf4 (by omega);have HC5 : Hid (Calls _ _ _ _ _) := spxI w.heap.size A.2 0 8 0 8 w4 hs4 HA2.out.1 HA2.out.2 (by decide) (by decide) rfl rfl;rw [HD.out] at HC5;clear hs4 hf4 HC4;go_wp2_with fail;refine HC5.out.mono ?_;rintro e w5 ⟨rfl, hs5, hf5⟩;have HF5 : Hid (Fr (fun _ => False) w w5) := HF4.out.trans hf5 (fun i hi e => by rw [e] at hi; exact absurd hi (Nat.lt_irrefl _));have HX5 : Hid (Blk w5 xb _ 194) := HX4.out.kept hf5 (by omega);have HS5 : Hid (SpotAt w5 w.heap.size D.2) := hs5;have x0 := HX5.out.cell 0;have x1 := HX5.out.cell 1;have x2 := HX5.out.cell 2;have x3 := HX5.out.cell 3;have x4 := HX5.out.cell 4;have x5 := HX5.out.cell 5;simp only [gT, gZ, gS] at x0 x1 x2 x3 x4 x5;have HFI : Hid (Calls _ _ _ _ _) := rfind_any true x.user x.created x.used (.slice na x.vals.length nc) (.slice va x.vals.length vc) x.vals A.1 w5 (HN.out.1.kept HF5.out (fun _ _ h => h)) (by have := HXW.out.1; omega);clear hs5 hf5 HC5;go_wp2_with fail;refine HFI.out.mono ?_;rintro e w6 ⟨rfl, hb6⟩;have HF6 : Hid (Fr (fun _ => False) w w6) := HF5.out.trans (Fr.of_below (S := fun _ => False) hb6) (fun _ _ h => h);have HX6 : Hid (Blk w6 xb _ 194) := HX5.out.below hb6;have HS6 : Hid (SpotAt w6 w.heap.size D.2) := HS5.out.kept (Fr.of_below (S := fun _ => False) hb6) (fun h => h);clear x0 x1 x2 x3 x4 x5 hb6 HFI;have x0 := HX6.out.cell 0;have x1 := HX6.out.cell 1;have x2 := HX6.out.cell 2;have x3 := HX6.out.cell 3;have x4 := HX6.out.cell 4;have x5 := HX6.out.cell 5;simp only [gT, gZ, gS] at x0 x1 x2 x3 x4 x5;obtain ⟨pi, hpi⟩ : ∃ pi, pi = posI A.1 x.vals := ⟨_, rfl⟩;have HPI : Hid (pi = posI A.1 x.vals) := hpi;rw [← hpi];clear hpi;go_upto_region 31 with fail
        go_cut [101] (fun cv wx => cv = .bool (!rm) ∧ wx = w6)
        case first =>
         have hrm := HRM.out;unfold Sess.room at hrm;clear HRM HVA HVB;rcases posI_cases A.1 x.vals with ⟨e1, e2⟩ | ⟨k, hk, e1, e2⟩
         ·rw [e2] at hrm;have hl3 : ((x.vals.length : Int) == 3) = (!rm) := by
           rw [hrm];have := HXW.out.1;show _ = !(false || decide (x.vals.length < 3));rw [Bool.false_or, Bool.eq_iff_iff, beq_iff_eq, Bool.not_eq_true', decide_eq_false_iff_not];omega
          have hneg : pi < 0 := by rw [HPI.out, e1]; decide
          clear hrm e1 e2 HPI;go_wp2_with fail;go_meet
          case rel => exact ⟨by rw [← hl3], rfl⟩
         ·rw [e2] at hrm;replace hrm : rm = true := hrm;subst hrm;have hk0 : ¬ pi < 0 := by rw [HPI.out, e1]; omega
          clear e1 e2 HPI hk;go_wp2_with fail;go_meet
          case rel => exact ⟨rfl, rfl⟩
        case rest =>
        obtain ⟨rfl, hwc⟩ := hcut;replace hwc := hwc.symm;subst hwc;cases rm with
        | false =>
         have HV0 : Hid (none = V) := HVA.out rfl;clear HVA HVB HRM;go_wp2_with fail;go_ret;rw [← HV0.out];exact ⟨rfl, RTTo.same (H.out.kept HF6.out (fun _ _ h => h)) HF6.out⟩
        | true =>
         have HV0 : Hid (endOf T id p.length (some (B.2, id, some { x with vals := setVal A.1 D.1 x.vals, used := B.1 })) = V) := HVB.out rfl;clear HVA HVB HRM;have HWI : Hid (Calls _ _ _ _ _) := rwith_any true x.user x.created x.used (.slice na x.vals.length nc) (.slice va x.vals.length vc) x.vals A.1 D.1 w6 (HN.out.1.kept HF6.out (fun _ _ h => h)) (HN.out.2.kept HF6.out (fun _ _ h => h)) (by have := HXW.out.1; omega) HXW.out.2;go_wp2_with fail;refine HWI.out.mono ?_;rintro e w7 ⟨ns, vs, rfl, hb7, hn7, hv7, ho7⟩;have HF7 : Hid (Fr (fun _ => False) w w7) := HF6.out.trans (Fr.of_below (S := fun _ => False) hb7) (fun _ _ h => h);have HX7 : Hid (Blk w7 xb _ 194) := HX6.out.below hb7;have HS7 : Hid (SpotAt w7 w.heap.size D.2) := HS6.out.kept (Fr.of_below (S := fun _ => False) hb7) (fun h => h);have hz6 : xb < w6.heap.size := HX6.out.lt;have hz7 : w.heap.size ≤ w6.heap.size := by omega
         clear x0 x1 x2 x3 x4 x5 hb7 HWI HX4 HX5 HX6 HS5 HS6 HF4 HF5;obtain ⟨na', nc', en, _⟩ := so_slice hn7;obtain ⟨va', vc', ev, _⟩ := so_slice hv7;have HG : Hid (SO w7 ns ((setVal A.1 D.1 x.vals).map (·.1)) ∧ SO w7 vs ((setVal A.1 D.1 x.vals).map (·.2)) ∧ ∀ g, ns.ownBlock = some g ∨ vs.ownBlock = some g → w6.heap.size ≤ g) := ⟨hn7, hv7, ho7⟩;generalize ((setVal A.1 D.1 x.vals).map (·.1)).length = l1 at en;generalize ((setVal A.1 D.1 x.vals).map (·.2)).length = l2 at ev;clear hn7 hv7 ho7;subst en;subst ev;have x0 := HX7.out.cell 0;have x1 := HX7.out.cell 1;have x2 := HX7.out.cell 2;have x3 := HX7.out.cell 3;have x4 := HX7.out.cell 4;have x5 := HX7.out.cell 5;simp only [gT, gZ, gS] at x0 x1 x2 x3 x4 x5;have f0 := HX7.out.frozen 0;have f1 := HX7.out.frozen 1;have f2 := HX7.out.frozen 2;have f3 := HX7.out.frozen 3;have f4 := HX7.out.frozen 4;have f5 := HX7.out.frozen 5;obtain ⟨w8, hw8⟩ : ∃ w8, w8 = put6 w7 xb 0 (.bool true) (.int .i64 x.user) (.int .i64 x.created) (.int .i64 x.used) (.slice na' l1 nc') (.slice va' l2 vc') := ⟨_, rfl⟩;have hfr8 : Fr (fun b => b = xb) w7 w8 := by rw [hw8]; exact put6_fr _ _ _ _ _ _ _ _ _
         have HF8 : Hid (Fr (fun _ => False) w w8) := HF7.out.trans hfr8 (fun i hi e => by omega);have HS8 : Hid (SpotAt w8 w.heap.size D.2) := HS7.out.kept hfr8 (by omega);have HX8 : Hid (Blk w8 xb #[.bool true, .int .i64 x.user, .int .i64 x.created, .int .i64 x.used, .slice na' l1 nc', .slice va' l2 vc'] 194) := by rw [hw8]; exact put6_blk HX7.out 0 _ _ _ _ _ _
         have HFR8 : Hid (Fr (fun b => b = xb) w7 w8) := hfr8;clear hfr8;go_upto_region 34 with fail
         unfold put6 at hw8;change w8 = (((((w7.setCell ⟨xb, 0, none⟩ _).setCell ⟨xb, 1, none⟩ _).setCell ⟨xb, 2, none⟩ _).setCell ⟨xb, 3, none⟩ _).setCell ⟨xb, 4, none⟩ _).setCell ⟨xb, 5, none⟩ _ at hw8;rw [← hw8];clear hw8 x0 x1 x2 x3 x4 x5 f0 f1 f2 f3 f4 f5;have HC9 : Hid (Calls _ _ _ _ _) := spnI w.heap.size D.2 4 0 maxT 4 0 1000000000 w8 HS8.out HD2.out.1 HD2.out.2 (by decide) rfl rfl rfl;rw [HB.out] at HC9;go_wp2_with fail;refine HC9.out.mono ?_;rintro e w9 ⟨rfl, hs9, hf9⟩;have HF9 : Hid (Fr (fun _ => False) w w9) := HF8.out.trans hf9 (fun i hi e => by rw [e] at hi; exact absurd hi (Nat.lt_irrefl _));have HX9 := HX8.out.kept hf9 (by omega);have x3 := HX9.cell 3;have f3 := HX9.frozen 3;simp only [gT, gZ, gS] at x3;have hfr := fr_cell (w := w9) (kb := xb) 3 (.int .i64 (B.1 : Int));have hfrz := (HFR8.out.mono (S' := fun b => b = xb ∨ b = w.heap.size) (fun _ _ h => Or.inl h)).trans (hf9.mono (S' := fun b => b = xb ∨ b = w.heap.size) (fun _ _ h => Or.inr h)) (fun _ _ h => h);have hfrz := hfrz.trans (hfr.mono (S' := fun b => b = xb ∨ b = w.heap.size) (fun _ _ h => Or.inl h)) (fun _ _ h => h);have hnb : ∀ b, (Value.slice na' l1 nc').ownBlock = some b ∨ (Value.slice va' l2 vc').ownBlock = some b → ¬ (b = xb ∨ b = w.heap.size) := fun b hb e => by
          have := HG.out.2.2 b hb;omega
         have HA : Hid (Arm w T f id p V w.heap.size xb (w9.setCell ⟨xb, 3, none⟩ (.int .i64 (B.1 : Int))) id) :=
          ⟨B.2, some { x with vals := setVal A.1 D.1 x.vals, used := B.1 }, (.slice na' l1 nc', .slice va' l2 vc'), HV0.out, hs9.kept hfr (by omega), HX9.set 3 _, HG.out.1.kept hfrz (fun b hb => hnb b (Or.inl hb)), HG.out.2.1.kept hfrz (fun b hb => hnb b (Or.inr hb)), (fun h => by cases h), (fun b hb => Or.inr (Or.inr (Nat.le_trans hz7 (HG.out.2.2 b hb)))), HF9.out.trans hfr (fun i hi e => by omega)⟩
         clear HX9 hs9 hf9 hfr hfrz HC9 hnb;go_wp2_with fail;go_meet
         case rel => exact ⟨id, by omega, rfl, HA.out⟩
       ·have q83 : ((ofL kd).toList == [83]) = false := by rw [kind_eq]; exact decide_eq_false k83
        by_cases k88 : kd = [88]
        ·have q88 : ((ofL kd).toList == [88]) = true := by rw [kind_eq]; exact decide_eq_true k88
         have hv := HVV.out;rw [k88, mid88] at hv;have HV0 : Hid (endOf T id p.length (some (r, id, none)) = V) := hv;have x0 := HX3.out.cell 0;have x1 := HX3.out.cell 1;have x2 := HX3.out.cell 2;have x3 := HX3.out.cell 3;have x4 := HX3.out.cell 4;have x5 := HX3.out.cell 5;simp only [gT, gZ, gS] at x0 x1 x2 x3 x4 x5;have f0 := HX3.out.frozen 0;have f1 := HX3.out.frozen 1;have f2 := HX3.out.frozen 2;have f3 := HX3.out.frozen 3;have f4 := HX3.out.frozen 4;have f5 := HX3.out.frozen 5;have HA : Hid (Arm w T f id p V w.heap.size xb (put6 w3 xb 0 (.bool false) (.int .i64 0) (.int .i64 0) (.int .i64 0) (.slice none 0 0) (.slice none 0 0)) id) :=
          ⟨r, none, (nilS, nilS), HV0.out, HS3.out.kept (put6_fr _ _ _ _ _ _ _ _ _) (by omega), put6_blk HX3.out 0 _ _ _ _ _ _, Own.nil _ _ _ _, Own.nil _ _ _ _, fun _ => rfl, (fun b hb => by rcases hb with hb | hb <;> cases hb), HF3.out.trans (put6_fr _ _ _ _ _ _ _ _ _) (fun i hi e => by omega)⟩
         clear hv k76 k84 k82 k83 k88 hlive;go_wp2_with fail;go_meet
         case rel => exact ⟨id, by omega, rfl, HA.out⟩
        ·have q88 : ((ofL kd).toList == [88]) = false := by rw [kind_eq]; exact decide_eq_false k88
         have hv : none = V := by rw [← HVV.out]; unfold midOf; rw [if_neg k76, if_neg k84, if_neg k82, if_neg k83, if_neg k88]; rfl
         have HV0 : Hid (none = V) := hv;clear hv k76 k84 k82 k83 k88 hlive;go_wp2_with fail;go_ret;rw [← HV0.out];exact ⟨rfl, RTTo.same H3.out HF3.out⟩
   case rest =>
   obtain ⟨d, hd, rfl, HA⟩ := hcut;obtain ⟨q', y, g, hE, hS, hX, hN, hVl, hz, hown, hf⟩ := HA.out;have HE : Hid (endOf T id p.length (some (q', d, y)) = V) := hE;have HN : Hid (SO wc g.1 (nmsOf y) ∧ SO wc g.2 (vlsOf y)) := ⟨hN, hVl⟩;have HO : Hid ((y = none → g = (nilS, nilS)) ∧ ∀ b, g.1.ownBlock = some b ∨ g.2.ownBlock = some b → (f id).1.ownBlock = some b ∨ (f id).2.ownBlock = some b ∨ w.heap.size ≤ b) := ⟨hz, hown⟩;have HX : Hid (Blk wc xb (rowV y g).toArray 194) := hX;have HF : Hid (Fr (fun _ => False) w wc) := hf;have HR4 : Hid (RT wc tb T f) := H.out.kept hf (fun _ _ h => h);have s1 := Blk.cell hS 1;have s2 := Blk.cell hS 2;simp only [gT, gZ, gS] at s1 s2;clear hE hN hVl hz hown hX hf hS HA HX3 H3 HS3 HF3 HRW HLV HVV HC;clear hrb;by_cases hfin : q'.bad = false ∧ q'.pos = p.length
   ·have hv : some ((T.set id none).set d y) = V := by rw [← HE.out]; exact (if_pos hfin).symm
    have HVV : Hid (some ((T.set id none).set d y) = V) := hv;rw [hfin.1] at s2;rw [hfin.2] at s1;clear hv hfin HE;obtain ⟨v0, v1, v2, v3, v4, v5, d0, d1, d2, d3, d4, d5⟩ := HR4.out.all6 (i := id) (by omega);have f0 := HR4.out.frozen (id * 6);have f1 := HR4.out.frozen (id * 6 + 1);have f2 := HR4.out.frozen (id * 6 + 2);have f3 := HR4.out.frozen (id * 6 + 3);have f4 := HR4.out.frozen (id * 6 + 4);have f5 := HR4.out.frozen (id * 6 + 5);go_upto_region 40 with fail
    clear d0 d1 d2 d3 d4 d5 f0 f1 f2 f3 f4 f5 s1 s2 v0 v1 v2 v3 v4 v5;obtain ⟨w5, hw5⟩ : ∃ w5, w5 = put6 wc tb (id * 6) (.bool false) (.int .i64 0) (.int .i64 0) (.int .i64 0) (.slice none 0 0) (.slice none 0 0) := ⟨_, rfl⟩;have hw6 := hw5;unfold put6 at hw6;rw [← hw6];clear hw6;have HK5 : Hid (RT w5 tb (T.set id none) (upF f id (nilS, nilS))) := by rw [hw5]; exact HR4.out.kill (by omega)
    have HX5 : Hid (Blk w5 xb (rowV y g).toArray 194) := by rw [hw5]; exact HX.out.kept (put6_fr _ _ _ _ _ _ _ _ _) (by omega)
    have HEND : Hid (∀ a0 a1 a2 a3 a4 a5, rowV y g = [a0, a1, a2, a3, a4, a5] → RTTo w tb f ((T.set id none).set d y) (put6 w5 tb (d * 6) a0 a1 a2 a3 a4 a5)) := fun a0 a1 a2 a3 a4 a5 hrow => by
     rw [hw5]; exact do_end H.out HR4.out HF.out (by omega) hd HN.out.1 HN.out.2 HO.out.1 HO.out.2 a0 a1 a2 a3 a4 a5 hrow
    obtain ⟨v0, v1, v2, v3, v4, v5, d0, d1, d2, d3, d4, d5⟩ := HK5.out.all6 (i := d) hd;have f0 := HK5.out.frozen (d * 6);have f1 := HK5.out.frozen (d * 6 + 1);have f2 := HK5.out.frozen (d * 6 + 2);have f3 := HK5.out.frozen (d * 6 + 3);have f4 := HK5.out.frozen (d * 6 + 4);have f5 := HK5.out.frozen (d * 6 + 5);have z1 : (0 : Int) ≤ (d : Int) := by omega
    have z2 : (d : Int) < 4096 := by omega
    have x0 := HX5.out.cell 0;have x1 := HX5.out.cell 1;have x2 := HX5.out.cell 2;have x3 := HX5.out.cell 3;have x4 := HX5.out.cell 4;have x5 := HX5.out.cell 5;clear hw5;cases y with
    | none =>
     obtain ⟨g1, g2⟩ := g;have hg := HO.out.1 rfl;injection hg with hg1 hg2
     subst hg1;subst hg2;change w5.cell? ⟨xb, 0, none⟩ = some (.bool false) at x0;change w5.cell? ⟨xb, 1, none⟩ = some (.int .i64 0) at x1;change w5.cell? ⟨xb, 2, none⟩ = some (.int .i64 0) at x2;change w5.cell? ⟨xb, 3, none⟩ = some (.int .i64 0) at x3;change w5.cell? ⟨xb, 4, none⟩ = some (.slice none 0 0) at x4;change w5.cell? ⟨xb, 5, none⟩ = some (.slice none 0 0) at x5;have HQ := HEND.out (.bool false) (.int .i64 0) (.int .i64 0) (.int .i64 0) (.slice none 0 0) (.slice none 0 0) rfl;have HQ2 : Hid (RTTo _ _ _ _ _) := HQ;clear HQ;go_wp2_with fail;go_ret;rw [← HVV.out];exact ⟨rfl, HQ2.out⟩
    | some x =>
     obtain ⟨g1, g2⟩ := g;obtain ⟨a1, c1, e1, _⟩ := so_slice HN.out.1;obtain ⟨a2, c2, e2, _⟩ := so_slice HN.out.2;change g1 = _ at e1;change g2 = _ at e2;have HQ := HEND.out _ _ _ _ _ _ rfl;subst e1;subst e2;have HQ2 : Hid (RTTo _ _ _ _ _) := HQ;clear HQ;simp only [rowV, gT, gZ, gS] at x0 x1 x2 x3 x4 x5;go_wp2_with fail;go_ret;rw [← HVV.out];exact ⟨rfl, HQ2.out⟩
   ·have hv : none = V := by rw [← HE.out]; exact (if_neg hfin).symm
    have HVV : Hid (none = V) := hv;cases hb : q'.bad with
    | true =>
     rw [hb] at s2;clear hfin hv hb;go_wp2_with fail;go_ret;rw [← HVV.out];exact ⟨rfl, RTTo.same HR4.out HF.out⟩
    | false =>
     rw [hb] at s2;have hpp : ((q'.pos : Int) != (p.length : Int)) = true := by rw [bne_iff_ne]; intro e; exact hfin ⟨hb, by omega⟩
     clear hfin hv hb;go_wp2_with fail;go_ret;rw [← HVV.out];exact ⟨rfl, RTTo.same HR4.out HF.out⟩
end Go.Proofs.YtmnajomkfnkmeaaGreatDoor
