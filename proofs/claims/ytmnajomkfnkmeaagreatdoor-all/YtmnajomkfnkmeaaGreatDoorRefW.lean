import Derived.Test.YtmnajomkfnkmeaaGreatDoorKa
import Derived.Deep.DeepCutAuto
import Derived.Deep.CutBlock
import Derived.Deep.RegionLaw
import Derived.Deep.AppendLies
set_option maxRecDepth 100000
set_option maxHeartbeats 8000000
namespace Go.Proofs.YtmnajomkfnkmeaaGreatDoor
open Go.RowKit
open Op (bytesLess)
attribute [local go_sem] ofL_size
def wStep (n v : Bs) (put : Bool) : List (Bs × Bs) → List (Bs × Bs)
 | [] => []
 | (m, u) :: r => (if m ≠ n then [(m, u)] else []) ++ wFut n v put r
theorem wStep_cons (n v m u : Bs) (put : Bool) (r : List (Bs × Bs)) : wStep n v put ((m, u) :: r) = (if m ≠ n then [(m, u)] else []) ++ wFut n v put r := rfl
def WI (n v : Bs) (vals : List (Bs × Bs)) (k : Nat) (put : Bool) (done : List (Bs × Bs)) : Prop := (k ≤ vals.length → done ++ wFut n v put (vals.drop k) = setVal n v vals) ∧ (vals.length < k → done = setVal n v vals)
def WJ (n v : Bs) (vals : List (Bs × Bs)) (k : Nat) (put : Bool) (done : List (Bs × Bs)) : Prop := done ++ wStep n v put (vals.drop k) = setVal n v vals
theorem WI.start (n v : Bs) (vals : List (Bs × Bs)) : WI n v vals 0 false [] := ⟨fun _ => rfl, fun h => absurd h (Nat.not_lt_zero _)⟩
theorem drop_rising {l : List (Bs × Bs)} (h : rising l) (k : Nat) : rising (l.drop k) := List.Pairwise.sublist (List.drop_sublist k l) h
theorem WI.put {n v : Bs} {vals : List (Bs × Bs)} {k : Nat} {done : List (Bs × Bs)} (h : WI n v vals k true done) (hk : k ≤ vals.length) : WJ n v vals k true done := by
 have e := h.1 hk;unfold WJ;by_cases hl : k < vals.length
 ·rw [List.drop_eq_getElem_cons hl] at e ⊢;obtain ⟨⟨m, u⟩, hmu⟩ : ∃ y, y = vals[k] := ⟨_, rfl⟩;rw [← hmu] at e ⊢;rw [wStep_cons];by_cases hm : m = n
  ·subst hm;rw [if_neg (by simp), List.nil_append];rw [wFut_skip] at e; exact e
  ·rw [if_pos hm, List.cons_append, List.nil_append];rw [wFut_put hm] at e; exact e
 ·rw [List.drop_of_length_le (by omega)] at e ⊢;simp only [wFut, List.filter_nil] at e;exact e
theorem WI.low {n v : Bs} {vals : List (Bs × Bs)} {k : Nat} {done : List (Bs × Bs)} (h : WI n v vals k false done) (hl : k < vals.length) (hb : bytesLess vals[k].1 n = true) : WJ n v vals k false done := by
 have e := h.1 (Nat.le_of_lt hl);unfold WJ;rw [List.drop_eq_getElem_cons hl] at e ⊢;obtain ⟨⟨m, u⟩, hmu⟩ : ∃ y, y = vals[k] := ⟨_, rfl⟩;rw [← hmu] at e hb ⊢;rw [wStep_cons, if_pos (bl_ne hb), List.cons_append, List.nil_append];rw [wFut_low hb] at e; exact e
theorem WI.here {n v : Bs} {vals : List (Bs × Bs)} {k : Nat} {done : List (Bs × Bs)} (hr : rising vals) (h : WI n v vals k false done) (hl : k < vals.length) (hb : bytesLess vals[k].1 n = false) : WJ n v vals k true (done ++ [(n, v)]) := by
 have e := h.1 (Nat.le_of_lt hl);have hr2 := drop_rising hr k;unfold WJ;rw [List.drop_eq_getElem_cons hl] at e hr2 ⊢;obtain ⟨⟨m, u⟩, hmu⟩ : ∃ y, y = vals[k] := ⟨_, rfl⟩;rw [← hmu] at e hb hr2 ⊢;rw [wStep_cons];by_cases hm : m = n
 ·subst hm;rw [if_neg (by simp), List.nil_append, List.append_assoc];rw [wFut_here hr2] at e; exact e
 ·rw [if_pos hm, List.append_assoc];rw [wFut_above hr2 hb hm] at e; exact e
theorem WI.last {n v : Bs} {vals : List (Bs × Bs)} {k : Nat} {done : List (Bs × Bs)} (h : WI n v vals k false done) (hl : k = vals.length) : WJ n v vals k true (done ++ [(n, v)]) := by
 have e := h.1 (by omega);unfold WJ;rw [List.drop_of_length_le (by omega)] at e ⊢;rw [wStep, List.append_nil];exact e
theorem WJ.keep {n v : Bs} {vals : List (Bs × Bs)} {k : Nat} {put : Bool} {done : List (Bs × Bs)} (h : WJ n v vals k put done) (hl : k < vals.length) (hn : vals[k].1 ≠ n) : WI n v vals (k + 1) put (done ++ [vals[k]]) := by
 unfold WJ at h;rw [List.drop_eq_getElem_cons hl] at h;obtain ⟨⟨m, u⟩, hmu⟩ : ∃ y, y = vals[k] := ⟨_, rfl⟩;rw [← hmu] at h hn ⊢;rw [wStep_cons, if_pos hn] at h;exact ⟨fun _ => by rw [List.append_assoc]; exact h, fun h => by omega⟩
theorem WJ.skip {n v : Bs} {vals : List (Bs × Bs)} {k : Nat} {put : Bool} {done : List (Bs × Bs)} (h : WJ n v vals k put done) (hl : k < vals.length) (hn : vals[k].1 = n) : WI n v vals (k + 1) put done := by
 unfold WJ at h;rw [List.drop_eq_getElem_cons hl] at h;obtain ⟨⟨m, u⟩, hmu⟩ : ∃ y, y = vals[k] := ⟨_, rfl⟩;rw [← hmu] at h hn;rw [wStep_cons, if_neg (by simpa using hn), List.nil_append] at h;exact ⟨fun _ => h, fun h => by omega⟩
theorem WJ.last {n v : Bs} {vals : List (Bs × Bs)} {k : Nat} {put : Bool} {done : List (Bs × Bs)} (h : WJ n v vals k put done) (hl : k = vals.length) : WI n v vals (k + 1) put done := by
 unfold WJ at h;rw [List.drop_of_length_le (by omega), wStep, List.append_nil] at h;exact ⟨fun h => by omega, fun _ => h⟩
structure WS (w0 : World) (b : Bool) (x1 x2 x3 : Int) (nv vv ns vs : Value) (dn dv : List Bs) (wx : World) : Prop where
 bel : Below w0.heap.size w0 wx
 box : Blk wx w0.heap.size #[.bool b, .int .i64 x1, .int .i64 x2, .int .i64 x3, nv, vv] 194
 res : Blk wx (w0.heap.size + 1) #[.bool false, .int .i64 0, .int .i64 0, .int .i64 0, .slice none 0 0, .slice none 0 0] 194
 out : Blk wx (w0.heap.size + 2) #[.bool b, .int .i64 x1, .int .i64 x2, .int .i64 x3, ns, vs] 194
 nso : SO wx ns dn
 vso : SO wx vs dv
 far : ∀ g, ns.ownBlock = some g ∨ vs.ownBlock = some g → w0.heap.size + 2 < g
 two : ∀ g, ns.ownBlock = some g → vs.ownBlock ≠ some g
theorem WS.below {w0 : World} {b : Bool} {x1 x2 x3 : Int} {nv vv ns vs : Value} {dn dv : List Bs} {wx w' : World} (h : WS w0 b x1 x2 x3 nv vv ns vs dn dv wx) (hb : Below wx.heap.size wx w') : WS w0 b x1 x2 x3 nv vv ns vs dn dv w' :=
 ⟨bstep h.bel hb, h.box.below hb, h.res.below hb, h.out.below hb, h.nso.below hb, h.vso.below hb, h.far, h.two⟩
theorem WS.pushN {w0 : World} {b : Bool} {x1 x2 x3 : Int} {nv vv ns vs : Value} {dn dv : List Bs} {wx w2 : World} {o : Obj} {q : Bs} {k g cap : Nat} (h : WS w0 b x1 x2 x3 nv vv ns vs dn dv wx) (hn : dn.length = k)
  (hown : w2.ownsRow 0 9 1 (.slice (some ⟨g, 0, none⟩) (k + 1) cap) (k + 1) (flatV strV dn ++ [.string (ofL q)])) (hgr : (wx.alloc o).grownBy w2 ns.ownBlock) (hloc : ns.ownBlock = some g ∨ g = (wx.alloc o).heap.size) :
  w2.cell? ⟨w0.heap.size + 2, 4, none⟩ = some ns ∧ w2.frozen? ⟨w0.heap.size + 2, 4, none⟩ = false ∧ WS w0 b x1 x2 x3 nv vv (.slice (some ⟨g, 0, none⟩) (k + 1) cap) vs (dn ++ [q]) dv (w2.setCell ⟨w0.heap.size + 2, 4, none⟩ (.slice (some ⟨g, 0, none⟩) (k + 1) cap)) := by
 have hf1 : Fr (fun c => ns.ownBlock = some c) wx (wx.alloc o) := Fr.of_below (bA);have hf : Fr (fun c => ns.ownBlock = some c) wx w2 := hf1.grown hgr (fun k hk _ => hk);have hs : (wx.alloc o).heap.size = wx.heap.size + 1 := by simp
 have n0 : ¬ ns.ownBlock = some w0.heap.size := fun e => by have := h.far _ (Or.inl e); omega
 have n1 : ¬ ns.ownBlock = some (w0.heap.size + 1) := fun e => by have := h.far _ (Or.inl e); omega
 have n2 : ¬ ns.ownBlock = some (w0.heap.size + 2) := fun e => by have := h.far _ (Or.inl e); omega
 have hout2 := h.out.kept hf n2;have hgf : w0.heap.size + 2 < g := by
  rcases hloc with e | e
  ·exact h.far g (Or.inl e)
  ·have := h.out.lt; omega
 have hgv : vs.ownBlock ≠ some g := fun e => by
  rcases hloc with e1 | e1
  ·exact h.two g e1 e
  ·have := h.vso.lt e; omega
 have hb2 : Below w0.heap.size w0 w2 := ⟨hf.os.trans h.bel.os, hf.tape.trans h.bel.tape, hf.output.trans h.bel.output, Nat.le_trans h.bel.size hf.size, fun i hi => (hf.block i (Nat.lt_of_lt_of_le hi h.bel.size) (fun e => by have := h.far _ (Or.inl e); omega)).trans (h.bel.block i hi)⟩;have hset := hout2.set 4 (.slice (some ⟨g, 0, none⟩) (k + 1) cap);have hfs : Fr (fun c => c = w0.heap.size + 2) w2 (w2.setCell ⟨w0.heap.size + 2, 4, none⟩ (.slice (some ⟨g, 0, none⟩) (k + 1) cap)) := (Fr.refl (fun c => c = w0.heap.size + 2) w2).setCell ⟨w0.heap.size + 2, 4, none⟩ (fun _ => rfl) _;refine ⟨hout2.cell 4, hout2.frozen 4, ⟨hb2.setCell (by show w0.heap.size ≤ w0.heap.size + 2; omega) _, (h.box.kept hf n0).kept hfs (by omega), (h.res.kept hf n1).kept hfs (by omega), hset, (Own.pushed hn hown).kept hfs (fun c hc e => ?_), (h.vso.kept hf (fun c hc e => ?_)).kept hfs (fun c hc e => ?_), fun c hc => ?_, fun c hc => ?_⟩⟩
 ·have e2 : some g = some c := hc;injection e2 with e2; omega
 ·exact h.two c e hc
 ·have := h.far c (Or.inr hc); omega
 ·rcases hc with hc | hc
  ·have e2 : some g = some c := hc;injection e2 with e2; omega
  ·exact h.far c (Or.inr hc)
 ·have e2 : some g = some c := hc;injection e2 with e2
  rw [← e2]; exact hgv
theorem WS.pushV {w0 : World} {b : Bool} {x1 x2 x3 : Int} {nv vv ns vs : Value} {dn dv : List Bs} {wx w2 : World} {o : Obj} {q : Bs} {k g cap : Nat} (h : WS w0 b x1 x2 x3 nv vv ns vs dn dv wx) (hn : dv.length = k)
  (hown : w2.ownsRow 0 9 1 (.slice (some ⟨g, 0, none⟩) (k + 1) cap) (k + 1) (flatV strV dv ++ [.string (ofL q)])) (hgr : (wx.alloc o).grownBy w2 vs.ownBlock) (hloc : vs.ownBlock = some g ∨ g = (wx.alloc o).heap.size) :
  w2.cell? ⟨w0.heap.size + 2, 5, none⟩ = some vs ∧ w2.frozen? ⟨w0.heap.size + 2, 5, none⟩ = false ∧ WS w0 b x1 x2 x3 nv vv ns (.slice (some ⟨g, 0, none⟩) (k + 1) cap) dn (dv ++ [q]) (w2.setCell ⟨w0.heap.size + 2, 5, none⟩ (.slice (some ⟨g, 0, none⟩) (k + 1) cap)) := by
 have hf1 : Fr (fun c => vs.ownBlock = some c) wx (wx.alloc o) := Fr.of_below (bA);have hf : Fr (fun c => vs.ownBlock = some c) wx w2 := hf1.grown hgr (fun k hk _ => hk);have hs : (wx.alloc o).heap.size = wx.heap.size + 1 := by simp
 have n0 : ¬ vs.ownBlock = some w0.heap.size := fun e => by have := h.far _ (Or.inr e); omega
 have n1 : ¬ vs.ownBlock = some (w0.heap.size + 1) := fun e => by have := h.far _ (Or.inr e); omega
 have n2 : ¬ vs.ownBlock = some (w0.heap.size + 2) := fun e => by have := h.far _ (Or.inr e); omega
 have hout2 := h.out.kept hf n2;have hgf : w0.heap.size + 2 < g := by
  rcases hloc with e | e
  ·exact h.far g (Or.inr e)
  ·have := h.out.lt; omega
 have hgn : ns.ownBlock ≠ some g := fun e => by
  rcases hloc with e1 | e1
  ·exact h.two g e e1
  ·have := h.nso.lt e; omega
 have hb2 : Below w0.heap.size w0 w2 := ⟨hf.os.trans h.bel.os, hf.tape.trans h.bel.tape, hf.output.trans h.bel.output, Nat.le_trans h.bel.size hf.size, fun i hi => (hf.block i (Nat.lt_of_lt_of_le hi h.bel.size) (fun e => by have := h.far _ (Or.inr e); omega)).trans (h.bel.block i hi)⟩;have hset := hout2.set 5 (.slice (some ⟨g, 0, none⟩) (k + 1) cap);have hfs : Fr (fun c => c = w0.heap.size + 2) w2 (w2.setCell ⟨w0.heap.size + 2, 5, none⟩ (.slice (some ⟨g, 0, none⟩) (k + 1) cap)) := (Fr.refl (fun c => c = w0.heap.size + 2) w2).setCell ⟨w0.heap.size + 2, 5, none⟩ (fun _ => rfl) _;refine ⟨hout2.cell 5, hout2.frozen 5, ⟨hb2.setCell (by show w0.heap.size ≤ w0.heap.size + 2; omega) _, (h.box.kept hf n0).kept hfs (by omega), (h.res.kept hf n1).kept hfs (by omega), hset, (h.nso.kept hf (fun c hc e => ?_)).kept hfs (fun c hc e => ?_), (Own.pushed hn hown).kept hfs (fun c hc e => ?_), fun c hc => ?_, fun c hc e => ?_⟩⟩
 ·exact h.two c hc e
 ·have := h.far c (Or.inl hc); omega
 ·have e2 : some g = some c := hc;injection e2 with e2; omega
 ·rcases hc with hc | hc
  ·exact h.far c (Or.inl hc)
  ·have e2 : some g = some c := hc;injection e2 with e2; omega
 ·have e2 : some g = some c := e;injection e2 with e2
  rw [← e2] at hc; exact hgn hc
theorem below_any (a b : Bs) (w : World) :
  Calls Tryz.prog 172 #[.string (ofL a), .string (ofL b)] w fun e w' => e = .returned (.bool (bytesLess a b)) ∧ w' = w := by
 go_enter Tryz.func172, Tryz.ntmps172;go_wp2_with fail;go_ret;exact ⟨by rw [toList_toL, toList_toL, toL_ofL, toL_ofL]; rfl, rfl⟩
theorem ws_facts {w0 : World} {b : Bool} {x1 x2 x3 : Int} {nv vv ns vs : Value} {dn dv : List Bs} {wx : World} (h : WS w0 b x1 x2 x3 nv vv ns vs dn dv wx) :
  wx.cell? ⟨w0.heap.size, 4, none⟩ = some nv ∧ wx.cell? ⟨w0.heap.size, 5, none⟩ = some vv ∧ wx.cell? ⟨w0.heap.size + 2, 4, none⟩ = some ns ∧ wx.cell? ⟨w0.heap.size + 2, 5, none⟩ = some vs ∧ wx.frozen? ⟨w0.heap.size + 2, 4, none⟩ = false ∧ wx.frozen? ⟨w0.heap.size + 2, 5, none⟩ = false :=
 ⟨h.box.cell 4, h.box.cell 5, h.out.cell 4, h.out.cell 5, h.out.frozen 4, h.out.frozen 5⟩
theorem str_pushD {w : World} {sv : Value} {ps : List Bs} {n : Nat} (h : SO w sv ps) (hn : ps.length = n) (hle : n ≤ 1000) (q : Bs) :
  ∃ i0, Tryz.prog.info? 9 = some i0 ∧ i0.zero = some (.string ByteArray.empty) ∧ i0.size = 1 ∧ i0.bytes = 16 ∧ ((w.alloc (.cells #[.string (ofL q)] 9)).drew).ownsRow 0 9 1 sv n (flatV strV ps) ∧
   (∀ (j : Nat) (u : Value), [Value.string (ofL q)][j]? = some u → ((w.alloc (.cells #[.string (ofL q)] 9)).drew).cell? ((⟨w.heap.size, 0, none⟩ : Addr).add j) = some u) ∧ (∀ u ∈ [Value.string (ofL q)], u.oneCell' = true) ∧ n + 1 ≤ maxLen ∧ (n + 1) * 16 ≤ 140737488355328 := by
 obtain ⟨i0, h1, h2, h3, h4, h5, h6, h7, h8, h9⟩ := strPush h hn hle q;exact ⟨i0, h1, h2, h3, h4, h5, h6, h7, h8, h9⟩
theorem so_slice {w : World} {s : Value} {ps : List Bs} (h : SO w s ps) : ∃ a c, s = .slice a ps.length c ∧ (0 < ps.length → ∃ q, a = some ⟨q, 0, none⟩ ∧ q < w.heap.size) := by
 rcases h.cases with ⟨h1, h2⟩ | ⟨q, cap, h1, h2, _⟩
 ·exact ⟨none, 0, by rw [h1, h2]; rfl, fun h0 => by rw [h2] at h0; exact absurd h0 (Nat.not_lt_zero _)⟩
 ·exact ⟨_, cap, h1, fun _ => ⟨q, rfl, h2⟩⟩
theorem ws_start (w : World) (b : Bool) (x1 x2 x3 : Int) (nv vv : Value) : WS w b x1 x2 x3 nv vv (.slice none 0 0) (.slice none 0 0) [] [] (((w.alloc (.cells #[.bool b, .int .i64 x1, .int .i64 x2, .int .i64 x3, nv, vv] 194)).alloc (.cells #[.bool false, .int .i64 0, .int .i64 0, .int .i64 0, .slice none 0 0, .slice none 0 0] 194)).alloc (.cells #[.bool b, .int .i64 x1, .int .i64 x2, .int .i64 x3, .slice none 0 0, .slice none 0 0] 194)) := by
 refine ⟨(((bA).alloc (by simp) _).alloc (by simp; omega) _), ((Blk.new w _ _).alloc _).alloc _, ?_, ?_, Own.nil _ _ _ _, Own.nil _ _ _ _, (fun g hg => by rcases hg with hg | hg <;> cases hg), (fun g hg => by cases hg)⟩
 ·have := (Blk.new (w.alloc (.cells #[.bool b, .int .i64 x1, .int .i64 x2, .int .i64 x3, nv, vv] 194)) #[.bool false, .int .i64 0, .int .i64 0, .int .i64 0, .slice none 0 0, .slice none 0 0] 194).alloc (.cells #[.bool b, .int .i64 x1, .int .i64 x2, .int .i64 x3, .slice none 0 0, .slice none 0 0] 194);simpa using this
 ·have := Blk.new ((w.alloc (.cells #[.bool b, .int .i64 x1, .int .i64 x2, .int .i64 x3, nv, vv] 194)).alloc (.cells #[.bool false, .int .i64 0, .int .i64 0, .int .i64 0, .slice none 0 0, .slice none 0 0] 194)) #[.bool b, .int .i64 x1, .int .i64 x2, .int .i64 x3, .slice none 0 0, .slice none 0 0] 194;simpa using this
theorem rwith_any (b : Bool) (x1 x2 x3 : Int) (nv vv : Value) (vals : List (Bs × Bs)) (n v : Bs) (w : World) (hN : SO w nv (vals.map (·.1))) (hV : SO w vv (vals.map (·.2))) (hl : vals.length ≤ 100) (hr : rising vals) :
  Calls Tryz.prog 135 #[.agg #[.bool b, .int .i64 x1, .int .i64 x2, .int .i64 x3, nv, vv], .string (ofL n), .string (ofL v)] w fun e w' => ∃ ns vs, e = .returned (.agg #[.bool b, .int .i64 x1, .int .i64 x2, .int .i64 x3, ns, vs]) ∧ Below w.heap.size w w' ∧ SO w' ns ((setVal n v vals).map (·.1)) ∧ SO w' vs ((setVal n v vals).map (·.2)) ∧ ∀ g, ns.ownBlock = some g ∨ vs.ownBlock = some g → w.heap.size ≤ g := by
 obtain ⟨na, nc, hnv, hna⟩ := so_slice hN;obtain ⟨va, vc, hvv, hva⟩ := so_slice hV;rw [List.length_map] at hnv hna hvv hva;obtain ⟨L, hL⟩ : ∃ L, L = vals.length := ⟨_, rfl⟩;have HL : Hid (L = vals.length) := hL;rw [← hL] at hl hnv hna hvv hva;subst hnv;subst hvv;have HN : Hid (SO w (.slice na L nc) (vals.map (·.1))) := hN;have HVV : Hid (SO w (.slice va L vc) (vals.map (·.2))) := hV;have HR : Hid (rising vals) := hr;have HNA : Hid (_ → _) := hna;have HVA : Hid (_ → _) := hva;clear hN hV hr hL hna hva;go_enter Tryz.func135, Tryz.ntmps135;go_wp2_with fail
 go_loopw [8, 9] (fun pv iv wx => ∃ (put : Bool) (k : Nat) (ns vs : Value) (done : List (Bs × Bs)), pv = .bool put ∧ iv = .int .i64 k ∧ k ≤ L + 1 ∧ Hid (WI n v vals k put done) ∧ Hid (done.length ≤ 2 * k) ∧ Hid (WS w b x1 x2 x3 (.slice na L nc) (.slice va L vc) ns vs (done.map (·.1)) (done.map (·.2)) wx)) (fun _ iv _ => L + 1 - (intOf iv).toNat)
 case atStart => exact ⟨false, 0, _, _, [], rfl, rfl, by omega, WI.start _ _ _, Nat.zero_le _, ws_start _ _ _ _ _ _ _⟩
 case round =>
  obtain ⟨put, k, ns, vs, done, rfl, rfl, hk, HI, HDN, HW⟩ := hrel;by_cases hk1 : k ≤ L
  ·obtain ⟨c1, c2, c3, c4, c5, c6⟩ := ws_facts HW.out;obtain ⟨A, hA⟩ : ∃ A : Bool, A = (!put && (decide (k = L) || !(bytesLess (vals.getD k ([], [])).1 n))) := ⟨_, rfl⟩;go_upto_region 8 with fail
   go_cut [38] (fun cv wx => cv = .bool A ∧ wx = wr)
   case first =>
    cases put with
    | true =>
     change A = false at hA;subst hA;go_wp2_with fail;go_meet
     case rel => exact ⟨rfl, rfl⟩
    | false =>
     by_cases hkl : k = L
     ·rw [decide_eq_true hkl] at hA;change A = true at hA;have hb : ((k : Int) == (L : Int)) = true := by simp [hkl]
      subst hA;clear hkl;go_wp2_with fail;go_meet
      case rel => exact ⟨rfl, rfl⟩
     ·have hlt : k < L := by omega
      have hlt2 : k < vals.length := by rw [← HL.out]; exact hlt
      obtain ⟨q, rfl, hq⟩ := HNA.out (by omega);obtain ⟨m, hm⟩ : ∃ m, m = vals[k].1 := ⟨_, rfl⟩;have hcell : wr.cell? ⟨q, k, none⟩ = some (.string (ofL m)) := by
       rw [belowAt HW.out.bel hq, HN.out.cell k (by rw [List.length_map]; exact hlt2), hm, List.getElem_map]
      rw [getDAt _ _ _ hlt2, ← hm, decide_eq_false hkl, Bool.not_false, Bool.true_and, Bool.false_or] at hA;have hb : ((k : Int) == (L : Int)) = false := by rw [Bool.eq_false_iff]; intro e; rw [beq_iff_eq] at e; omega
      have HBL : Hid (Calls _ _ _ _ _) := below_any m n wr;clear hm hlt2;generalize bytesLess m n = bl at *
      go_wp2_with fail;refine HBL.out.mono ?_;rintro e w' ⟨rfl, hw'⟩;subst w';subst hA;cases bl
      ·go_wp2_with fail;go_meet
       case rel => exact ⟨rfl, rfl⟩
      ·go_wp2_with fail;go_meet
       case rel => exact ⟨rfl, rfl⟩
   case rest =>
   obtain ⟨rfl, rfl⟩ := hcut;clear c1 c2 c3 c4 c5 c6;obtain ⟨wr, hwr⟩ : ∃ wr, wr = wc := ⟨_, rfl⟩;subst hwr;go_upto_if 38 with fail
   go_cut [8] (fun pv wx => ∃ (put : Bool) (ns vs : Value) (done : List (Bs × Bs)), pv = .bool put ∧ Hid (WJ n v vals k put done) ∧ Hid (done.length ≤ 2 * k + 1) ∧ Hid (WS w b x1 x2 x3 (.slice na L nc) (.slice va L vc) ns vs (done.map (·.1)) (done.map (·.2)) wx))
   case first =>
    cases A with
    | false =>
     have HJ : Hid (WJ n v vals k put done) := by
      cases put with
      | true => exact HI.out.put (by rw [← HL.out]; exact hk1)
      | false =>
       by_cases hkl : k = L
       ·rw [decide_eq_true hkl] at hA; cases hA
       ·have hlt : k < vals.length := by have := HL.out; omega
        rw [decide_eq_false hkl, getDAt _ _ _ hlt] at hA;refine HI.out.low hlt ?_;cases hb : bytesLess vals[k].1 n with
        | true => rfl
        | false => rw [hb] at hA; cases hA
     clear hA;go_wp2_with fail;go_meet
     case rel => exact ⟨put, ns, vs, done, rfl, HJ, (by have := HDN.out; show _ ≤ _; omega), HW⟩
    | true =>
     have hpf : put = false := by cases put with | false => rfl | true => cases hA
     subst hpf;have HJ : Hid (WJ n v vals k true (done ++ [(n, v)])) := by
      by_cases hkl : k = L
      ·exact HI.out.last (by rw [← HL.out]; exact hkl)
      ·have hlt : k < vals.length := by have := HL.out; omega
       rw [decide_eq_false hkl, getDAt _ _ _ hlt] at hA;refine HI.out.here HR.out hlt ?_;cases hb : bytesLess vals[k].1 n with
       | false => rfl
       | true => rw [hb] at hA; cases hA
     clear hA;obtain ⟨dl, hdl⟩ : ∃ dl, dl = done.length := ⟨_, rfl⟩;have hd1000 : dl ≤ 1000 := by have := HDN.out; omega
     have hdn : (done.map (·.1)).length = dl := by rw [List.length_map]; exact hdl.symm
     have hdv : (done.map (·.2)).length = dl := by rw [List.length_map]; exact hdl.symm
     obtain ⟨sa, sc, hns, -⟩ := so_slice HW.out.nso;obtain ⟨ta, tc, hvs, -⟩ := so_slice HW.out.vso;rw [hdn] at hns;rw [hdv] at hvs;subst hns;subst hvs;have HDL : Hid ((done.map (·.1)).length = dl) := hdn;have HDV : Hid ((done.map (·.2)).length = dl) := hdv;clear hdn hdv hdl;go_upto_region 9 with fail
     go_cut [] (fun wx => ∃ ns', Hid (WS w b x1 x2 x3 (.slice na L nc) (.slice va L vc) ns' (.slice ta dl tc) (done.map (·.1) ++ [n]) (done.map (·.2)) wx))
     case first =>
      obtain ⟨i0, hfacts⟩ := strPush HW.out.nso HDL.out hd1000 n;have HF : Hid (_ ∧ _ ∧ _ ∧ _ ∧ _ ∧ _ ∧ _ ∧ _ ∧ _) := hfacts;obtain ⟨c1, c2, c3, c4, c5, c6⟩ := ws_facts HW.out;clear hfacts;go_wp2_with (at_builtin; refine wpList_append_lies _ rfl _ _ 57 rfl 0 9 i0 (.string ByteArray.empty) 1 16 Tryz.underlying57 HF.out.1 HF.out.2.1 HF.out.2.2.1 HF.out.2.2.2.1 rfl (by decide) (.slice sa dl sc) dl (flatV strV (done.map (·.1))) rfl HF.out.2.2.2.2.1 ⟨wr.heap.size, 0, none⟩ 1 1 [.string (ofL n)] rfl rfl HF.out.2.2.2.2.2.1 HF.out.2.2.2.2.2.2.1 (by decide) HF.out.2.2.2.2.2.2.2.1 HF.out.2.2.2.2.2.2.2.2 (Nat.zero_le _) _ rfl ?_; intro g cap2 w5 hown hgr hloc hlt; obtain ⟨p1, p2, p3⟩ := WS.pushN HW.out HDL.out hown hgr hloc; have HW5 : Hid (WS _ _ _ _ _ _ _ _ _ _ _ _) := p3; clear hown hgr hloc hlt p3);go_meet
      case rel => exact ⟨_, HW5⟩
     case rest =>
     obtain ⟨ns', HW2⟩ := hcut;clear HW;obtain ⟨w2, hw2⟩ : ∃ w2, w2 = wc := ⟨_, rfl⟩;subst hw2;obtain ⟨i0, hfacts⟩ := strPush HW2.out.vso HDV.out hd1000 v;have HF : Hid (_ ∧ _ ∧ _ ∧ _ ∧ _ ∧ _ ∧ _ ∧ _ ∧ _) := hfacts;obtain ⟨c1, c2, c3, c4, c5, c6⟩ := ws_facts HW2.out;clear hfacts;go_wp2_with (at_builtin; refine wpList_append_lies _ rfl _ _ 57 rfl 0 9 i0 (.string ByteArray.empty) 1 16 Tryz.underlying57 HF.out.1 HF.out.2.1 HF.out.2.2.1 HF.out.2.2.2.1 rfl (by decide) (.slice ta dl tc) dl (flatV strV (done.map (·.2))) rfl HF.out.2.2.2.2.1 ⟨w2.heap.size, 0, none⟩ 1 1 [.string (ofL v)] rfl rfl HF.out.2.2.2.2.2.1 HF.out.2.2.2.2.2.2.1 (by decide) HF.out.2.2.2.2.2.2.2.1 HF.out.2.2.2.2.2.2.2.2 (Nat.zero_le _) _ rfl ?_; intro g cap2 w5 hown hgr hloc hlt; obtain ⟨p1, p2, p3⟩ := WS.pushV HW2.out HDV.out hown hgr hloc; have HW5 : Hid (WS _ _ _ _ _ _ _ _ _ _ _ _) := p3; clear hown hgr hloc hlt p3);go_meet
     case rel => exact ⟨true, _, _, done ++ [(n, v)], rfl, HJ, (by have := HDN.out; show _ ≤ _; rw [List.length_append]; simp; omega), by rw [List.map_append, List.map_append]; exact HW5⟩
   case rest =>
   obtain ⟨put, ns, vs, done, rfl, HJ, HDN, HW⟩ := hcut;clear HI hA;obtain ⟨wr, hwr⟩ : ∃ wr, wr = wc := ⟨_, rfl⟩;subst hwr;obtain ⟨c1, c2, c3, c4, c5, c6⟩ := ws_facts HW.out;by_cases hkl : k = L
   ·have HI2 : Hid (WI n v vals (k + 1) put done) := HJ.out.last (by rw [← HL.out]; exact hkl);have hb : ¬ (k : Int) < (L : Int) := by omega
    clear HJ;go_wp2_with fail;go_roundw
    case rel => exact ⟨put, k + 1, ns, vs, done, rfl, by go_num, by omega, HI2, (by have := HDN.out; show _ ≤ _; omega), HW⟩
    case measure => simp [intOf]; omega
   ·have hlt : k < L := by omega
    have hlt2 : k < vals.length := by rw [← HL.out]; exact hlt
    obtain ⟨q, rfl, hq⟩ := HNA.out (by omega);obtain ⟨q2, rfl, hq2⟩ := HVA.out (by omega);obtain ⟨m, hm⟩ : ∃ m, m = vals[k].1 := ⟨_, rfl⟩;obtain ⟨u, hu⟩ : ∃ u, u = vals[k].2 := ⟨_, rfl⟩;have HCN : Hid (∀ w', Below w.heap.size w w' → w'.cell? ⟨q, k, none⟩ = some (.string (ofL m))) := fun w' hb => by
     rw [belowAt hb hq, HN.out.cell k (by rw [List.length_map]; exact hlt2), hm, List.getElem_map]
    have HCV : Hid (∀ w', Below w.heap.size w w' → w'.cell? ⟨q2, k, none⟩ = some (.string (ofL u))) := fun w' hb => by
     rw [belowAt hb hq2, HVV.out.cell k (by rw [List.length_map]; exact hlt2), hu, List.getElem_map]
    have hcell := HCN.out wr HW.out.bel;have hs := seqL m n;by_cases hmn : m = n
    ·have HI2 : Hid (WI n v vals (k + 1) put done) := HJ.out.skip hlt2 (by rw [← hm]; exact hmn);rw [decide_eq_true hmn] at hs;clear HJ hm hu hmn hkl;go_wp2_with fail;go_roundw
     case rel => exact ⟨put, k + 1, ns, vs, done, rfl, by go_num, by omega, HI2, (by have := HDN.out; show _ ≤ _; omega), HW⟩
     case measure => simp [intOf]; omega
    ·have HI2 : Hid (WI n v vals (k + 1) put (done ++ [(m, u)])) := by
      have := HJ.out.keep hlt2 (by rw [← hm]; exact hmn)
      rwa [show vals[k] = (m, u) from by rw [hm, hu]] at this
     rw [decide_eq_false hmn] at hs;obtain ⟨dl, hdl⟩ : ∃ dl, dl = done.length := ⟨_, rfl⟩;have hd1000 : dl ≤ 1000 := by have := HDN.out; omega
     have hdn : (done.map (·.1)).length = dl := by rw [List.length_map]; exact hdl.symm
     have hdv : (done.map (·.2)).length = dl := by rw [List.length_map]; exact hdl.symm
     obtain ⟨sa, sc, hns, -⟩ := so_slice HW.out.nso;obtain ⟨ta, tc, hvs, -⟩ := so_slice HW.out.vso;rw [hdn] at hns;rw [hdv] at hvs;subst hns;subst hvs;have HDL : Hid ((done.map (·.1)).length = dl) := hdn;have HDV : Hid ((done.map (·.2)).length = dl) := hdv;clear hdn hdv hdl HJ hm hu hmn hkl;obtain ⟨dN, hdN⟩ : ∃ dN : List Bs, dN = done.map (·.1) := ⟨_, rfl⟩;obtain ⟨dV, hdV⟩ : ∃ dV : List Bs, dV = done.map (·.2) := ⟨_, rfl⟩;have HEN : Hid (dN = done.map (·.1)) := hdN;have HEV : Hid (dV = done.map (·.2)) := hdV;rw [← hdN] at HDL HW;rw [← hdV] at HDV HW;clear hdN hdV;go_upto_region 13 with fail
     clear hs hcell c1 c2 c3 c4 c5 c6
     go_cut [] (fun wx => ∃ ns', Hid (WS w b x1 x2 x3 (.slice (some ⟨q, 0, none⟩) L nc) (.slice (some ⟨q2, 0, none⟩) L vc) ns' (.slice ta dl tc) (dN ++ [m]) dV wx))
     case first =>
      have HWD : Hid (WS _ _ _ _ _ _ _ _ _ _ _ wr.drew) := HW.out.below (Below.refl _ _).drew;obtain ⟨i0, hfacts⟩ := str_pushD HW.out.nso HDL.out hd1000 m;have HF : Hid (_ ∧ _ ∧ _ ∧ _ ∧ _ ∧ _ ∧ _ ∧ _ ∧ _) := hfacts;obtain ⟨c1, c2, c3, c4, c5, c6⟩ := ws_facts HWD.out;have hcell := HCN.out wr.drew HWD.out.bel;have HAL : ∀ o, WS w b x1 x2 x3 _ _ _ _ _ _ (wr.alloc o) := fun o => HW.out.below ((Below.refl _ _).alloc (Nat.le_refl _) o);have a1 : ∀ o, (wr.alloc o).cell? ⟨w.heap.size, 4, none⟩ = _ := fun o => (ws_facts (HAL o)).1;have a2 : ∀ o, (wr.alloc o).cell? ⟨w.heap.size + 2, 4, none⟩ = _ := fun o => (ws_facts (HAL o)).2.2.1;have a3 : ∀ o, (wr.alloc o).cell? ⟨q, k, none⟩ = _ := fun o => HCN.out (wr.alloc o) (HAL o).bel;clear hfacts HAL
      go_region_law (refine step_append_lies _ rfl _ _ 57 rfl 0 9 i0 (.string ByteArray.empty) 1 16 Tryz.underlying57 HF.out.1 HF.out.2.1 HF.out.2.2.1 HF.out.2.2.2.1 rfl (by decide) (.slice sa dl sc) dl (flatV strV dN) rfl HF.out.2.2.2.2.1 ⟨wr.heap.size, 0, none⟩ 1 1 [.string (ofL m)] rfl rfl HF.out.2.2.2.2.2.1 HF.out.2.2.2.2.2.2.1 (by decide) HF.out.2.2.2.2.2.2.2.1 HF.out.2.2.2.2.2.2.2.2 (Nat.zero_le _) _ rfl ?_; intro g cap2 w5 hown hgr hloc hlt; obtain ⟨p1, p2, p3⟩ := WS.pushN HWD.out HDL.out hown hgr hloc; have HW5 : Hid (WS _ _ _ _ _ _ _ _ _ _ _ _) := p3; clear hown hgr hloc hlt p3)
      all_goals
       go_wp2_with fail;go_meet
       case rel => exact ⟨_, HW5⟩
     case rest =>
     obtain ⟨ns', HW2⟩ := hcut;clear HW HDL;obtain ⟨w2, hw2⟩ : ∃ w2, w2 = wc := ⟨_, rfl⟩;subst hw2;have HE12 : Hid (dN ++ [m] = (done ++ [(m, u)]).map (·.1) ∧ dV ++ [u] = (done ++ [(m, u)]).map (·.2)) := ⟨by rw [HEN.out, List.map_append]; rfl, by rw [HEV.out, List.map_append]; rfl⟩;go_upto_region 14 with fail
     have HWD : Hid (WS _ _ _ _ _ _ _ _ _ _ _ w2.drew) := HW2.out.below (Below.refl _ _).drew;obtain ⟨i0, hfacts⟩ := str_pushD HW2.out.vso HDV.out hd1000 u;have HF : Hid (_ ∧ _ ∧ _ ∧ _ ∧ _ ∧ _ ∧ _ ∧ _ ∧ _) := hfacts;obtain ⟨c1, c2, c3, c4, c5, c6⟩ := ws_facts HWD.out;have hcell := HCV.out w2.drew HWD.out.bel;have HAL : ∀ o, WS w b x1 x2 x3 _ _ _ _ _ _ (w2.alloc o) := fun o => HW2.out.below ((Below.refl _ _).alloc (Nat.le_refl _) o);have a1 : ∀ o, (w2.alloc o).cell? ⟨w.heap.size, 5, none⟩ = _ := fun o => (ws_facts (HAL o)).2.1;have a2 : ∀ o, (w2.alloc o).cell? ⟨w.heap.size + 2, 5, none⟩ = _ := fun o => (ws_facts (HAL o)).2.2.2.1;have a3 : ∀ o, (w2.alloc o).cell? ⟨q2, k, none⟩ = _ := fun o => HCV.out (w2.alloc o) (HAL o).bel;clear hfacts HAL
     go_region_law (refine step_append_lies _ rfl _ _ 57 rfl 0 9 i0 (.string ByteArray.empty) 1 16 Tryz.underlying57 HF.out.1 HF.out.2.1 HF.out.2.2.1 HF.out.2.2.2.1 rfl (by decide) (.slice ta dl tc) dl (flatV strV dV) rfl HF.out.2.2.2.2.1 ⟨w2.heap.size, 0, none⟩ 1 1 [.string (ofL u)] rfl rfl HF.out.2.2.2.2.2.1 HF.out.2.2.2.2.2.2.1 (by decide) HF.out.2.2.2.2.2.2.2.1 HF.out.2.2.2.2.2.2.2.2 (Nat.zero_le _) _ rfl ?_; intro g cap2 w5 hown hgr hloc hlt; obtain ⟨p1, p2, p3⟩ := WS.pushV HWD.out HDV.out hown hgr hloc; have HW5 : Hid (WS _ _ _ _ _ _ _ _ _ _ _ _) := p3; clear hown hgr hloc hlt p3)
     all_goals
      rw [HE12.out.1, HE12.out.2] at HW5;go_wp2_with fail;go_roundw
      case rel => exact ⟨put, k + 1, ns', _, done ++ [(m, u)], rfl, by go_num, by omega, HI2, (by have := HDN.out; show _ ≤ _; rw [List.length_append]; simp; omega), HW5⟩
      case measure => simp [intOf]; omega
  ·have hke : k = L + 1 := by omega
   have HD : Hid (done = setVal n v vals) := HI.out.2 (by have := HL.out; omega);obtain ⟨c1, c2, c3, c4, c5, c6⟩ := ws_facts HW.out;have d0 := HW.out.out.cell 0;have d1 := HW.out.out.cell 1;have d2 := HW.out.out.cell 2;have d3 := HW.out.out.cell 3;have e0 := HW.out.res.cell 0;have e1 := HW.out.res.cell 1;have e2 := HW.out.res.cell 2;have e3 := HW.out.res.cell 3;have e4 := HW.out.res.cell 4;have e5 := HW.out.res.cell 5;have g0 := HW.out.res.frozen 0;have g1 := HW.out.res.frozen 1;have g2 := HW.out.res.frozen 2;have g3 := HW.out.res.frozen 3;have g4 := HW.out.res.frozen 4;have g5 := HW.out.res.frozen 5;simp only [gT, gZ, gS] at d0 d1 d2 d3 e0 e1 e2 e3 e4 e5;obtain ⟨sa, sc, hns, -⟩ := so_slice HW.out.nso;obtain ⟨ta, tc, hvs, -⟩ := so_slice HW.out.vso;generalize (done.map (·.1)).length = l1 at *
   generalize (done.map (·.2)).length = l2 at *
   subst hns;subst hvs;have hlt0 := HW.out.res.lt;go_wp2_with fail;have hfs : Fr (fun c => c = w.heap.size + 1) wr ((((((wr.setCell ⟨w.heap.size + 1, 0, none⟩ (.bool b)).setCell ⟨w.heap.size + 1, 1, none⟩ (.int .i64 x1)).setCell ⟨w.heap.size + 1, 2, none⟩ (.int .i64 x2)).setCell ⟨w.heap.size + 1, 3, none⟩ (.int .i64 x3)).setCell ⟨w.heap.size + 1, 4, none⟩ (.slice sa l1 sc)).setCell ⟨w.heap.size + 1, 5, none⟩ (.slice ta l2 tc)) :=
    ((((((Fr.refl (fun c => c = w.heap.size + 1) wr).setCell ⟨w.heap.size + 1, 0, none⟩ (fun _ => rfl) _).setCell ⟨w.heap.size + 1, 1, none⟩ (fun _ => rfl) _).setCell ⟨w.heap.size + 1, 2, none⟩ (fun _ => rfl) _).setCell ⟨w.heap.size + 1, 3, none⟩ (fun _ => rfl) _).setCell ⟨w.heap.size + 1, 4, none⟩ (fun _ => rfl) _).setCell ⟨w.heap.size + 1, 5, none⟩ (fun _ => rfl) _
   have hw := HW.out;rw [HD.out] at hw;refine bodyPost_ret (v := .agg #[.bool b, .int .i64 x1, .int .i64 x2, .int .i64 x3, .slice sa l1 sc, .slice ta l2 tc]) (by simp [results, Tryz.results135, go_sem, e0, e1, e2, e3, e4, e5]) rfl ⟨_, _, rfl, ?_, hw.nso.kept hfs (fun c hc e => ?_), hw.vso.kept hfs (fun c hc e => ?_), fun c hc => ?_⟩
   ·exact (hw.bel).trans (hfs.below_of w.heap.size hw.bel.size (fun i hi e => by omega))
   ·have := hw.far c (Or.inl hc); omega
   ·have := hw.far c (Or.inr hc); omega
   ·have := hw.far c hc; omega
end Go.Proofs.YtmnajomkfnkmeaaGreatDoor
