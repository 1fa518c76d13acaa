import Derived.Test.YtmnajomkfnkmeaaGreatDoorFind
import Derived.Deep.AppendLies
import Derived.Lib.AppendZerosOnto
import Derived.Lib.Overlaps
import Derived.Laws.CopyOwn
import Derived.Deep.RegionLaw
import Derived.Deep.MidRow
import Derived.Deep.RegionHeld3
set_option maxRecDepth 20000
set_option maxHeartbeats 1000000
namespace Go.Proofs.YtmnajomkfnkmeaaGreatDoor
open Go.RowKit
open Op (bytesLess)
attribute [local go_sem] ofL_size
def vcells (l : List (Bs × Bs)) : List Value := (l.map fun x => [Value.string (ofL x.1), .string (ofL x.2)]).flatten
theorem vcells_length (l : List (Bs × Bs)) : (vcells l).length = l.length * 2 := by
 induction l with
 | nil => rfl
 | cons x l ih => simp [vcells] at ih ⊢; omega
theorem vcells_append (a b : List (Bs × Bs)) : vcells (a ++ b) = vcells a ++ vcells b := by simp [vcells]
theorem vcells_one (l : List (Bs × Bs)) : ∀ v ∈ vcells l, v.oneCell' = true := by
 intro v hv;simp only [vcells, List.mem_flatten, List.mem_map] at hv;obtain ⟨c, ⟨x, _, rfl⟩, hv⟩ := hv;simp at hv;rcases hv with rfl | rfl <;> rfl
theorem vcells_get (l : List (Bs × Bs)) (k : Nat) (hk : k < l.length) : (vcells l)[k * 2]? = some (.string (ofL l[k].1)) ∧ (vcells l)[k * 2 + 1]? = some (.string (ofL l[k].2)) := by
 induction l generalizing k with
 | nil => simp at hk
 | cons x l ih =>
  have e : vcells (x :: l) = .string (ofL x.1) :: .string (ofL x.2) :: vcells l := by simp [vcells]
  cases k with
  | zero => rw [e]; exact ⟨rfl, rfl⟩
  | succ k =>
   rw [e];have := ih k (by simpa using hk);rw [show (k + 1) * 2 = k * 2 + 1 + 1 by omega];simpa using this
theorem vcells_take (l : List (Bs × Bs)) (k : Nat) : vcells (l.take k) = (vcells l).take (k * 2) := by
 induction l generalizing k with
 | nil => simp [vcells]
 | cons x l ih =>
  cases k with
  | zero => simp [vcells]
  | succ k =>
   have e : vcells (x :: l) = .string (ofL x.1) :: .string (ofL x.2) :: vcells l := by simp [vcells]
   have e2 : vcells (x :: l.take k) = .string (ofL x.1) :: .string (ofL x.2) :: vcells (l.take k) := by simp [vcells]
   rw [List.take_succ_cons, e, e2, show (k + 1) * 2 = k * 2 + 1 + 1 by omega, ih]; rfl
theorem vcells_drop (l : List (Bs × Bs)) (k : Nat) : vcells (l.drop k) = (vcells l).drop (k * 2) := by
 induction l generalizing k with
 | nil => simp [vcells]
 | cons x l ih =>
  cases k with
  | zero => simp
  | succ k =>
   have e : vcells (x :: l) = .string (ofL x.1) :: .string (ofL x.2) :: vcells l := by simp [vcells]
   rw [List.drop_succ_cons, e, show (k + 1) * 2 = k * 2 + 1 + 1 by omega, ih]; rfl
def VO (w : World) (s : Value) (l : List (Bs × Bs)) : Prop := w.ownsRow 0 170 2 s l.length (vcells l)
theorem VO.cases {w : World} {s : Value} {l : List (Bs × Bs)} (h : VO w s l) : (s = .slice none 0 0 ∧ l = []) ∨
  ∃ (q cap : Nat) (cur : List Value), s = .slice (some ⟨q, 0, none⟩) l.length cap ∧ Blk w q cur.toArray 170 ∧ l.length ≤ cap ∧ cap ≤ maxLen ∧ cur.length = cap * 2 ∧ cur.take (l.length * 2) = vcells l := by
 rcases h.2 with ⟨h1, h2⟩ | ⟨q, cap, cur, h1, _, h3, h4, h5, h6, h7⟩
 ·exact Or.inl ⟨h1, List.eq_nil_of_length_eq_zero h2⟩
 ·exact Or.inr ⟨q, cap, cur.toList, h1, by simpa [Blk] using h3, h4, h5, by simpa using h6, h7⟩
theorem VO.of {w : World} {q cap : Nat} {cur : List Value} {l : List (Bs × Bs)} (h1 : Blk w q cur.toArray 170) (h2 : l.length ≤ cap) (h3 : cap ≤ maxLen) (h4 : cur.length = cap * 2) (h5 : cur.take (l.length * 2) = vcells l) :
  VO w (.slice (some ⟨q, 0, none⟩) l.length cap) l := ⟨vcells_length l, .inr ⟨q, cap, cur.toArray, rfl, Nat.zero_le _, h1, h2, h3, by simpa using h4, by simpa using h5⟩⟩
theorem VO.nil (w : World) : VO w (.slice none 0 0) [] := World.ownsRow_nil w 0 _ 2
theorem VO.read {w : World} {s : Value} {l : List (Bs × Bs)} (h : VO w s l) : VSl w s l := by
 rcases h.cases with h | ⟨q, cap, cur, rfl, hb, hn, hm, hc, ht⟩
 ·exact Or.inl h
 ·refine Or.inr ⟨q, cap, rfl, hb.lt, fun k hk => ?_⟩;have hg := vcells_get l k hk;rw [← ht] at hg;rw [Blk.cell hb, Blk.cell hb];have e : ∀ j, j < l.length * 2 → (cur.take (l.length * 2))[j]? = cur.toArray[j]? := fun j hj => by simp [hj]
  rw [e _ (by omega), e _ (by omega)] at hg;exact hg
theorem VO.kept {S : Nat → Prop} {w w' : World} {s : Value} {l : List (Bs × Bs)} (h : VO w s l) (hf : Fr S w w') (hs : ∀ b, s.ownBlock = some b → ¬ S b) : VO w' s l := by
 rcases h.cases with ⟨rfl, rfl⟩ | ⟨q, cap, cur, rfl, hb, hn, hm, hc, ht⟩
 ·exact VO.nil w'
 ·exact VO.of (hb.kept hf (hs q rfl)) hn hm hc ht
theorem VO.lt {w : World} {s : Value} {l : List (Bs × Bs)} (h : VO w s l) (b : Nat) (hb : s.ownBlock = some b) : b < w.heap.size := (World.ownsRow.lt h b hb).2
theorem info_value : (Tryz.prog.info? 170).map (fun i => (i.zero, i.size, i.bytes)) = some (some (.agg #[.string ByteArray.empty, .string ByteArray.empty]), 2, 32) := by kernel_rfl
def Ins (w : World) (s : Value) (l' : List (Bs × Bs)) (e : Ending) (w' : World) : Prop :=
 ∃ s', e = .returned s' ∧ VO w' s' l' ∧ Fr (fun b => s.ownBlock = some b) w w' ∧ ∀ b, s'.ownBlock = some b → s.ownBlock = some b ∨ w.heap.size ≤ b
theorem ins_close {w w1 : World} {s : Value} {l : List (Bs × Bs)} {x : Bs × Bs} {g cap n : Nat} (hln : l.length = n)
  (hown : w1.ownsRow 0 170 2 (.slice (some ⟨g, 0, none⟩) (n + 1) cap) (n + 1) (vcells l ++ [.string (ofL x.1), .string (ofL x.2)]))
  (hgr : w.grownBy w1 s.ownBlock) (hloc : s.ownBlock = some g ∨ g = w.heap.size) : Ins w s (l ++ [x]) (.returned (.slice (some ⟨g, 0, none⟩) ((n + 1 : Nat) : Nat) cap)) w1 := by
 refine ⟨_, rfl, ?_, ⟨hgr.os, hgr.tape, hgr.output, hgr.size, fun k hk hn => hgr.block k hk (fun e => hn e.symm)⟩, fun b hb => ?_⟩
 ·unfold VO;rw [List.length_append, List.length_singleton, hln, vcells_append];exact hown
 ·simp only [Value.ownBlock, Option.some.injEq] at hb;subst hb;rcases hloc with hloc | hloc
  ·exact Or.inl hloc
  ·exact Or.inr (Nat.le_of_eq hloc.symm)
theorem ins_end (s : Value) (l : List (Bs × Bs)) (x : Bs × Bs) (vb : Nat) (T : TypeId) (w : World) (h : VO w s l) (hl : l.length ≤ 1000) (hv : Blk w vb #[.string (ofL x.1), .string (ofL x.2)] T) :
  Calls Tryz.prog 179 #[s, .int .i64 l.length, .slice (some ⟨vb, 0, none⟩) 1 1] w (Ins w s (l ++ [x])) := by
 obtain ⟨i0, hi, hzz⟩ := Option.map_eq_some_iff.1 info_value;simp only [Prod.mk.injEq] at hzz;obtain ⟨hz, hs, hb⟩ := hzz;have HI : Hid (Tryz.prog.info? 170 = some i0) := hi;have HZ : Hid (i0.zero = some (.agg #[.string ByteArray.empty, .string ByteArray.empty])) := hz;have HS : Hid (i0.size = 2) := hs;have HB : Hid (i0.bytes = 32) := hb;clear hi hz hs hb;have HH : Hid (VO w s l) := h;have HV : Hid (∀ j u, [Value.string (ofL x.1), .string (ofL x.2)][j]? = some u → w.cell? ((⟨vb, 0, none⟩ : Addr).add j) = some u) := World.news_of_block hv;clear h hv;rcases HH.out.cases with ⟨rfl, rfl⟩ | ⟨q, cap, cur, rfl, hbq, hn, hm, hc, ht⟩
 ·go_enter Tryz.func179, Tryz.ntmps179;go_wp2_with (at_builtin; refine wpList_append_lies _ rfl _ _ 102 rfl 0 170 i0 _ 2 32 Tryz.underlying102 HI.out HZ.out HS.out HB.out rfl (by decide) _ 0 [] rfl HH.out ⟨vb, 0, none⟩ 1 1 [.string (ofL x.1), .string (ofL x.2)] rfl rfl HV.out (vcells_one [x]) (by decide) (by decide) (by decide) (Nat.zero_le _) _ rfl ?_; intro g cap' w1 hown hgr hloc hlt);go_ret;exact ins_close (n := 0) (l := []) rfl hown hgr hloc
 ·have hm2 : cap < 9223372036854775808 := by unfold maxLen at hm; omega
  have HM : Hid (cap ≤ maxLen) := hm;clear hbq hc ht hm;generalize hll : l.length = n at *
  have HLL : Hid (l.length = n) := hll;clear hll;rcases Nat.lt_or_eq_of_le hn with hlt | rfl
  ·go_enter Tryz.func179, Tryz.ntmps179;go_wp2_with (at_builtin; refine wpList_append_lies _ rfl _ _ 102 rfl 0 170 i0 _ 2 32 Tryz.underlying102 HI.out HZ.out HS.out HB.out rfl (by decide) _ n (vcells l) rfl (by have := HH.out; unfold VO at this; rw [HLL.out] at this; exact this) ⟨vb, 0, none⟩ 1 1 [.string (ofL x.1), .string (ofL x.2)] rfl rfl HV.out (vcells_one [x]) (by decide) (by unfold maxLen; omega) (by omega) (Nat.zero_le _) _ rfl ?_; intro g cap' w1 hown hgr hloc hlt);go_ret;exact ins_close HLL.out hown hgr hloc
  ·go_enter Tryz.func179, Tryz.ntmps179;go_wp2_with (at_builtin; refine wpList_append_lies _ rfl _ _ 102 rfl 0 170 i0 _ 2 32 Tryz.underlying102 HI.out HZ.out HS.out HB.out rfl (by decide) _ n (vcells l) rfl (by have := HH.out; unfold VO at this; rw [HLL.out] at this; exact this) ⟨vb, 0, none⟩ 1 1 [.string (ofL x.1), .string (ofL x.2)] rfl rfl HV.out (vcells_one [x]) (by decide) (by unfold maxLen; omega) (by omega) (Nat.zero_le _) _ rfl ?_; intro g cap' w1 hown hgr hloc hlt);go_ret;exact ins_close HLL.out hown hgr hloc
end Go.Proofs.YtmnajomkfnkmeaaGreatDoor
namespace Go.Proofs.YtmnajomkfnkmeaaGreatDoor
open Go.RowKit
open Op (bytesLess)
attribute [local go_sem] ofL_size
theorem value_size : (Tryz.prog.info? 170).map (·.size) = some 2 := by kernel_rfl
theorem run_copy2 (w : World) (ty : TypeId) (g o dLen dCap : Nat) (a : Addr) (sLen sCap : Nat) (cur : List Value) (cs : List Value)
  (hg : Blk w g cur.toArray 170) (hn : cs.length = Nat.min sLen dLen * 2)
  (hsrc : ∀ j v, cs[j]? = some v → w.cell? (a.add j) = some v) (hfit : o + cs.length ≤ cur.length) (h1 : ∀ v ∈ cs, v.oneCell' = true) :
  (Builtin.copy_ #[102, 102] ty #[.slice (some ⟨g, o, none⟩) dLen dCap, .slice (some a) sLen sCap]).run Tryz.prog w =
   .ok (goInt (Nat.min sLen dLen)) (w.setRow g (splice cur o cs).toArray) := by
 have hl := run_loadCells_list (P := Tryz.prog) w a cs hsrc;have hst := run_storeCells_at Tryz.prog g o 170 cs 0 cur.toArray w hg (by simpa using hfit) h1;cases hq : Tryz.prog.info? 170 with
 | none => have := value_size; rw [hq] at this; cases this
 | some i =>
  have hi : i.size = 2 := by have := value_size; rw [hq] at this; simpa using this
  simp [Builtin.copy_, run_underlying Tryz.underlying102, Builtin.lenOf, Builtin.firstCells, sizeOf, typeInfo, hq, hi, ← hn, hl, hst, splice]
theorem wpL_copy2 {w : World} {ops : Array Oper} {rest : List Oper} {o : Oper} {a : Act} {Q : Exit → Act → World → Prop} (hgd : o.guard = none) (d s : Operand)
  (ho : o.op = .call { callee := .builtin .copy, args := #[d, s], argTypes := #[102, 102] })
  (g off dLen dCap : Nat) (ad : Addr) (sLen sCap : Nat) (hd : a.eval d = .slice (some ⟨g, off, none⟩) dLen dCap) (hs : a.eval s = .slice (some ad) sLen sCap)
  (cur : List Value) (hg : Blk w g cur.toArray 170) (cs : List Value) (hn : cs.length = Nat.min sLen dLen * 2)
  (hsrc : ∀ j v, cs[j]? = some v → w.cell? (ad.add j) = some v) (hfit : off + cs.length ≤ cur.length) (h1 : ∀ v ∈ cs, v.oneCell' = true)
  (h : ∀ w', Hid (Blk w' g (splice cur off cs).toArray 170) → Hid (Fr (· = g) w w') → wpList Tryz.prog ops Q rest (a.put o.dst (goInt (Nat.min sLen dLen))) w') : wpList Tryz.prog ops Q (o :: rest) a w := by
 refine wpList_plain hgd fun K hK => ?_;have hrun := run_copy2 w o.type g off dLen dCap ad sLen sCap cur cs hg hn hsrc hfit h1;unfold Oper.wp;simp [execOp, ho, resolve, invoke, builtin, hd, hs, hrun, Result.andThen];exact hK _ _ (h _ (setRow_heap w g _ _ _ _ hg) ⟨rfl, rfl, rfl, by simp [World.setRow], fun k _ hk => setRow_other w g k _ hk⟩)
theorem step_copy2 {ops : Array Oper} {o : Oper} {a : Act} {w : World} {K : Act → World → Prop} {Q : Exit → Act → World → Prop} {E : Prop} (hgd : o.guard = none) (d s : Operand)
  (ho : o.op = .call { callee := .builtin .copy, args := #[d, s], argTypes := #[102, 102] })
  (g off dLen dCap : Nat) (ad : Addr) (sLen sCap : Nat) (hd : a.eval d = .slice (some ⟨g, off, none⟩) dLen dCap) (hs : a.eval s = .slice (some ad) sLen sCap)
  (cur : List Value) (hg : Blk w g cur.toArray 170) (cs : List Value) (hn : cs.length = Nat.min sLen dLen * 2)
  (hsrc : ∀ j v, cs[j]? = some v → w.cell? (ad.add j) = some v) (hfit : off + cs.length ≤ cur.length) (h1 : ∀ v ∈ cs, v.oneCell' = true)
  (h : ∀ w', Hid (Blk w' g (splice cur off cs).toArray 170) → Hid (Fr (· = g) w w') → K (a.put o.dst (goInt (Nat.min sLen dLen))) w') :
  if Region.wanted o (yielded ops a.tmps) = true then Oper.wp Tryz.prog o a w K Q else E := by
 have hw : Region.wanted o (yielded ops a.tmps) = true := by simp [Region.wanted, hgd]
 rw [if_pos hw];have hrun := run_copy2 w o.type g off dLen dCap ad sLen sCap cur cs hg hn hsrc hfit h1;unfold Oper.wp;simp [execOp, ho, resolve, invoke, builtin, hd, hs, hrun, Result.andThen];exact h _ (setRow_heap w g _ _ _ _ hg) ⟨rfl, rfl, rfl, by simp [World.setRow], fun k _ hk => setRow_other w g k _ hk⟩
theorem wpL_appz {w : World} {ops : Array Oper} {rest : List Oper} {o : Oper} {a : Act} {Q : Exit → Act → World → Prop} (hgd : o.guard = none) (s x : Operand)
  (ho : o.op = .call { callee := .builtin .append, args := #[s, x], argTypes := #[102, 3] })
  (q cap i k m : Nat) (kk : Int) (hkk : kk = k) (hm : m = i + k) (hs : a.eval s = .slice (some ⟨q, 0, none⟩) i cap) (hx : a.eval x = .int .i64 kk) (L : List Value) (hL : L.length = i * 2)
  (hsrc : ∀ j v, L[j]? = some v → w.cell? ((⟨q, 0, none⟩ : Addr).add j) = some v) (hk : 0 < k) (hc : cap < i + k) (hik : i + k ≤ 1000000)
  (h : ∀ ncap cur w', Hid (Blk w' w.heap.size (List.toArray cur) 170) → m ≤ ncap → Hid (cur.length = ncap * 2 ∧ ncap ≤ maxLen ∧ cur.take (i * 2) = L) → Hid (Fr (fun _ => False) w w') →
   wpList Tryz.prog ops Q rest (a.put o.dst (.slice (some ⟨w.heap.size, 0, none⟩) m ncap)) w') : wpList Tryz.prog ops Q (o :: rest) a w := by
 subst hkk;subst hm;obtain ⟨i0, hi, hzz⟩ := Option.map_eq_some_iff.1 info_value;simp only [Prod.mk.injEq] at hzz;obtain ⟨hz, hs2, hb⟩ := hzz;have hold : (Builtin.firstCells i0.size i (.slice (some ⟨q, 0, none⟩) i cap)).run Tryz.prog w.drew = .ok L.toArray w.drew := run_firstCells_some (P := Tryz.prog) w.drew i0.size i ⟨q, 0, none⟩ i cap L (by rw [hs2]; exact hL) hsrc;have hrun := Lib.run_append_grow_zeros (P := Tryz.prog) w 102 3 o.type 170 i0 _ .i64 .i64 Tryz.underlying102 Tryz.underlying3 hi hz (some ⟨q, 0, none⟩) i cap L hold k hk (by rw [hs2]; decide) hc (by omega) (by rw [hb]; omega) (growslice_fits (by omega) (by rw [hb]; omega));refine Lib.wpList_append_run w hgd s x _ _ ho _ _ hs hx _ _ hrun ?_;have hge := grownCap_ge w (i + k) cap 170;have hle := grownCap_le_maxLen w (i + k) cap 170 (by unfold maxLen; omega);have hsz : ∀ n, (Builtin.zeroCells (Value.agg #[Value.string ByteArray.empty, Value.string ByteArray.empty]).cells n).size = n * 2 := fun n => size_zeroCells _ n;generalize hcur : L.toArray ++ Builtin.zeroCells (Value.agg #[Value.string ByteArray.empty, Value.string ByteArray.empty]).cells k ++ Builtin.zeroCells (Value.agg #[Value.string ByteArray.empty, Value.string ByteArray.empty]).cells (grownCap w (i + k) cap 170 - (i + k)) = cur;have hlen : cur.size = grownCap w (i + k) cap 170 * 2 := by
  rw [← hcur];simp only [Array.size_append, hsz, List.size_toArray, hL];omega
 refine h (grownCap w (i + k) cap 170) cur.toList _ ?_ hge ⟨by simpa using hlen, hle, ?_⟩ ?_
 ·exact Blk.new w.drew cur _
 ·rw [← hcur];simp only [Array.toList_append, List.append_assoc];rw [← hL]; exact List.take_left
 ·exact ((Fr.refl _ w).drew).alloc _
theorem splice_two (cur : List Value) (o n i : Nat) (X D : List Value) (hi : i < n) (ho : o = i * 2) (hX : X.length = 2) (hD : D.length = (n - i) * 2) (hc : (n + 1) * 2 ≤ cur.length) :
  (splice (splice cur ((i + 1) * 2) D) o X).take ((n + 1) * 2) = (cur.take (n * 2)).take (i * 2) ++ (X ++ D) := by
 subst ho;unfold splice;have e1 : (cur.take ((i + 1) * 2)).length = (i + 1) * 2 := by rw [List.length_take]; omega
 have e2 : (cur.take ((i + 1) * 2) ++ (D ++ cur.drop ((i + 1) * 2 + D.length))).take (i * 2) = cur.take (i * 2) := by
  rw [List.take_append_of_le_length (by omega), List.take_take, show min (i * 2) ((i + 1) * 2) = i * 2 by omega]
 have e3 : (cur.take ((i + 1) * 2) ++ (D ++ cur.drop ((i + 1) * 2 + D.length))).drop (i * 2 + X.length) = D ++ cur.drop ((i + 1) * 2 + D.length) := by
  rw [hX, show i * 2 + 2 = (cur.take ((i + 1) * 2)).length by rw [e1]; omega, List.drop_left]
 rw [e2, e3, ← List.append_assoc, ← List.append_assoc, List.take_take, show min (i * 2) (n * 2) = i * 2 by omega];have e4 : (cur.take (i * 2) ++ X ++ D).length = (n + 1) * 2 := by rw [List.length_append, List.length_append, List.length_take, hX, hD]; omega
 rw [List.take_append_of_le_length (by omega), List.take_of_length_le (by omega), List.append_assoc]
theorem min1 {k : Nat} (h : 0 < k) : 2 = Nat.min 1 k * 2 := by
 rw [show Nat.min 1 k = 1 from Nat.min_eq_left h]
theorem ins_grow (q i : Nat) (l : List (Bs × Bs)) (x : Bs × Bs) (vb : Nat) (T : TypeId) (w : World) (h : VO w (.slice (some ⟨q, 0, none⟩) l.length l.length) l) (hi : i < l.length) (hl : l.length ≤ 1000)
  (hv : Blk w vb #[.string (ofL x.1), .string (ofL x.2)] T) :
  Calls Tryz.prog 179 #[.slice (some ⟨q, 0, none⟩) l.length l.length, .int .i64 i, .slice (some ⟨vb, 0, none⟩) 1 1] w
   (Ins w (.slice (some ⟨q, 0, none⟩) l.length l.length) (l.take i ++ x :: l.drop i)) := by
 have HH : Hid (VO w (.slice (some ⟨q, 0, none⟩) l.length l.length) l) := h;have HV : Hid (Blk w vb #[.string (ofL x.1), .string (ofL x.2)] T) := hv;have HC : Hid (∀ j v, (vcells l)[j]? = some v → w.cell? ((⟨q, 0, none⟩ : Addr).add j) = some v) := World.ownsRow.cells h (g := q) rfl;clear h hv;have hvl := vcells_length l;generalize hll : l.length = n at *
 have HLL : Hid (l.length = n) := hll;have HVL : Hid ((vcells l).length = n * 2) := hvl;clear hll hvl;have HC1 : Hid (∀ j v, ((vcells l).take (i * 2))[j]? = some v → w.cell? ((⟨q, 0, none⟩ : Addr).add j) = some v) := fun j v hj => HC.out j v (by
  rw [List.getElem?_take] at hj
  split at hj
  ·exact hj
  ·cases hj)
 have HL1 : Hid (((vcells l).take (i * 2)).length = i * 2) := by show _ = _; rw [List.length_take, HVL.out]; omega
 have hne : ((i : Int) == (n : Int)) = false := beq_eq_false_iff_ne.2 (by omega);have hne2 : ((n : Int) == (i : Int)) = false := beq_eq_false_iff_ne.2 (by omega);have hws : q < w.heap.size := VO.lt HH.out q rfl;have hwv : vb < w.heap.size := HV.out.lt;go_enter Tryz.func179, Tryz.ntmps179;go_wp2_with (first
  | (at_builtin; refine wpL_appz rfl _ _ rfl q n i (n + 1 - i) (n + 1) ((n : Int) + 1 - (i : Int)) (by omega) (by omega) rfl rfl ((vcells l).take (i * 2)) HL1.out HC1.out (by omega) (by omega) (by omega) ?_; intro ncap cur w1 hb1 hnc hf1 hfr1)
  | (refine wpL_copy2 rfl (.tmp 43) (.tmp 44) rfl w.heap.size (i * 2) (n + 1 - i) (ncap - i) ⟨vb, 0, none⟩ 1 1 rfl rfl cur hb1.out [.string (ofL x.1), .string (ofL x.2)] (min1 (by omega)) (World.news_of_block (HV.out.kept hfr1.out (fun h => h))) (by rw [hf1.out.1]; simp; omega) (vcells_one [x]) ?_; intro w2 hb2 hfr2))
 have hl1 : (splice cur (i * 2) [Value.string (ofL x.1), .string (ofL x.2)]).length = ncap * 2 := by
  rw [length_splice _ _ _ (by rw [hf1.out.1]; simp; omega)]; exact hf1.out.1
 have ht1 : (splice cur (i * 2) [Value.string (ofL x.1), .string (ofL x.2)]).take ((i + 1) * 2) = vcells (l.take i ++ [x]) := by
  rw [vcells_append, vcells_take, ← hf1.out.2.2];unfold splice;rw [← List.append_assoc, List.take_append_of_le_length (by simp [hf1.out.1]; omega), List.take_of_length_le (by simp [hf1.out.1]; omega)];rfl
 have HL2 : Hid _ := hl1;have HT2 : Hid _ := ht1;clear hl1 ht1;have HFR : Hid (Fr (fun _ => False) w w2) := hfr1.out.trans hfr2.out (fun b hb e => by omega);have HC2 : Hid (∀ j v, (vcells (l.drop i))[j]? = some v → w2.cell? ((⟨q, i * 2, none⟩ : Addr).add j) = some v) := fun j v hj => by
  rw [vcells_drop, List.getElem?_drop] at hj;have := HC.out _ v hj;rw [Addr.add_mid] at this ⊢;rw [Nat.zero_add] at this;exact (HFR.out.cell (p := ⟨q, i * 2 + j, none⟩) hws (fun h => h)).trans this
 have HL3 : Hid ((vcells (l.drop i)).length = Nat.min (n - i) (n - i) * 2) := by
  show _ = _;rw [vcells_length, List.length_drop, HLL.out, show Nat.min (n - i) (n - i) = n - i from Nat.min_self _]
 have HM : Hid (ncap ≤ maxLen) := hf1.out.2.1;clear hfr1 hfr2 hb1 hf1;generalize splice cur (i * 2) [Value.string (ofL x.1), .string (ofL x.2)] = cur1 at *
 have HB3 : Hid (Blk w2.drew w.heap.size cur1.toArray 170) := hb2.out;have HC3 : Hid (∀ j v, (vcells (l.drop i))[j]? = some v → w2.drew.cell? ((⟨q, i * 2, none⟩ : Addr).add j) = some v) := HC2.out;have HF3 : Hid (Fr (fun _ => False) w w2.drew) := HFR.out.drew;clear HC2 hb2;have hwr : IntKind.i64.wrap ((i : Int) + 1) = (i : Int) + 1 := by rw [IntKind.wrap_i64]; omega
 have htn : ((i : Int) + 1).toNat = i + 1 := by omega
 have h01 : (0 : Int) ≤ (i : Int) + 1 := by omega
 have hin : (i : Int) + 1 ≤ (n : Int) + 1 := by omega
 have hne3 : ¬ (ncap = i + 1) := by omega
 have hne4 : ¬ (n = i) := by omega
 have hnn : n + 1 - (i + 1) = n - i := by omega
 have hile : i ≤ n := by omega
 go_region_law (refine step_copy2 rfl (.tmp 50) (.tmp 53) rfl w.heap.size ((i + 1) * 2) (n - i) (ncap - (i + 1)) ⟨q, i * 2, none⟩ (n - i) (n - i) (by simp [Act.eval, Act.put]) (by simp [Act.eval, Act.put]) cur1 HB3.out (vcells (l.drop i)) HL3.out HC3.out (by rw [HL2.out, HL3.out, show Nat.min (n - i) (n - i) = n - i from Nat.min_self _]; omega) (vcells_one _) ?_; intro w3 hb3 hfr3)
 have HB4 : Hid (VO w3 (.slice (some ⟨w.heap.size, 0, none⟩) (l.take i ++ x :: l.drop i).length ncap) (l.take i ++ x :: l.drop i)) := by
  have hlen : (l.take i ++ x :: l.drop i).length = n + 1 := by simp [HLL.out]; omega
  refine VO.of hb3.out (by rw [hlen]; omega) HM.out (by rw [length_splice _ _ _ (by rw [HL2.out, HL3.out, show Nat.min (n - i) (n - i) = n - i from Nat.min_self _]; omega)]; exact HL2.out) ?_;rw [hlen, show l.take i ++ x :: l.drop i = (l.take i ++ [x]) ++ l.drop i by simp, vcells_append, ← HT2.out];unfold splice;have e1 : (cur1.take ((i + 1) * 2)).length = (i + 1) * 2 := by rw [List.length_take, HL2.out]; omega
  have e2 : (vcells (l.drop i)).length = (n - i) * 2 := by rw [vcells_length, List.length_drop, HLL.out]
  rw [← List.append_assoc, List.take_append_of_le_length (by rw [List.length_append, e1, e2]; omega), List.take_of_length_le (by rw [List.length_append, e1, e2]; omega)]
 have HF4 : Hid (Fr (fun _ => False) w w3) := HF3.out.trans hfr3.out (fun b hb e => by omega);have HN : Hid ((l.take i ++ x :: l.drop i).length = n + 1) := by show _ = _; simp [HLL.out]; omega
 clear hwr htn h01 hin hne3 hne4 hnn hile;go_wp2_with fail;go_ret;refine ⟨_, rfl, ?_, HF4.out.mono (fun _ _ h => h.elim), fun b hb => Or.inr ?_⟩
 ·have := HB4.out;rw [HN.out] at this;exact this
 ·have : some w.heap.size = some b := hb;injection this with this
  omega
theorem ins_room (q cap i : Nat) (l : List (Bs × Bs)) (x : Bs × Bs) (vb : Nat) (w : World) (h : VO w (.slice (some ⟨q, 0, none⟩) l.length cap) l) (hi : i < l.length) (hl : l.length ≤ 1000) (hcap : l.length < cap)
  (hv : Blk w vb #[.string (ofL x.1), .string (ofL x.2)] 170) (hqv : vb ≠ q) :
  Calls Tryz.prog 179 #[.slice (some ⟨q, 0, none⟩) l.length cap, .int .i64 i, .slice (some ⟨vb, 0, none⟩) 1 1] w
   (Ins w (.slice (some ⟨q, 0, none⟩) l.length cap) (l.take i ++ x :: l.drop i)) := by
 have HH : Hid (VO w (.slice (some ⟨q, 0, none⟩) l.length cap) l) := h;have HV : Hid (Blk w vb #[.string (ofL x.1), .string (ofL x.2)] 170) := hv;have HC : Hid (∀ j v, (vcells l)[j]? = some v → w.cell? ((⟨q, 0, none⟩ : Addr).add j) = some v) := World.ownsRow.cells h (g := q) rfl;rcases h.cases with ⟨h1, _⟩ | ⟨q', cap', cur, hs, hb, hn, hm, hc, ht⟩
 ·cases h1
 obtain ⟨rfl, rfl⟩ : q = q' ∧ cap = cap' := by simpa using hs
 have HB : Hid (Blk w q cur.toArray 170) := hb;have HCL : Hid (cur.length = cap * 2 ∧ cap ≤ maxLen ∧ cur.take (l.length * 2) = vcells l) := ⟨hc, hm, ht⟩;have hm2 : cap < 9223372036854775808 := by unfold maxLen at hm; omega
 clear h hv hs hb hc hm ht hn;have hvl := vcells_length l;generalize hll : l.length = n at *
 have HLL : Hid (l.length = n) := hll;have HVL : Hid ((vcells l).length = n * 2) := hvl;clear hll hvl;have hne : ((i : Int) == (n : Int)) = false := beq_eq_false_iff_ne.2 (by omega);have hne2 : ((n : Int) == (i : Int)) = false := beq_eq_false_iff_ne.2 (by omega);have hcl : ¬ ((cap : Int) < (n : Int) + 1) := by omega
 have hov : (Extern.SlicesOverlaps.overlaps #[102, 102] #[4] #[.slice (some ⟨vb, 0, none⟩) 1 1, .slice (some ⟨q, (i + 1) * 2, none⟩) (n - i) (cap - (i + 1))]).run Tryz.prog w = .ok (.bool false) w :=
  Lib.run_overlaps_apart w _ _ 170 Tryz.underlying102 2 Tryz.sizeOf170 ⟨vb, 0, none⟩ ⟨q, (i + 1) * 2, none⟩ 1 1 (n - i) (cap - (i + 1)) hqv 170 170 2 (cap * 2)
   (by unfold World.shape?; rw [show w.heap[vb]? = _ from HV.out]; rfl) (by unfold World.shape?; rw [show w.heap[q]? = _ from HB.out]; simp [HCL.out.1]) (by omega) (Blk.frozen HV.out 0) (Blk.frozen HV.out 2)
 have hcf : (callFunc 194 #[.slice (some ⟨vb, 0, none⟩) 1 1, .slice (some ⟨q, (i + 1) * 2, none⟩) (n - i) (cap - (i + 1))]).run Tryz.prog w = .ok (.value (.bool false)) w := by
  rw [run_callFunc_extern (e := Extern.SlicesOverlaps.overlaps #[102, 102] #[4]) Tryz.func194 (by kernel_rfl) (by kernel_rfl) (by kernel_rfl) (by kernel_rfl), hov]; rfl
 clear hov;go_enter Tryz.func179, Tryz.ntmps179;go_wp2_with fail;have HC3 : Hid (∀ j v, (vcells (l.drop i))[j]? = some v → w.drew.cell? ((⟨q, i * 2, none⟩ : Addr).add j) = some v) := fun j v hj => by
  rw [vcells_drop, List.getElem?_drop] at hj;have := HC.out _ v hj;rw [Addr.add_mid] at this ⊢;rw [Nat.zero_add] at this;exact this
 have hmin : Nat.min (n + 1 - i) (n - i) = n - i := Nat.min_eq_right (by omega);have HMIN : Hid (Nat.min (n + 1 - i) (n - i) = n - i) := hmin;have HL3 : Hid ((vcells (l.drop i)).length = (n - i) * 2) := by show _ = _; rw [vcells_length, List.length_drop, HLL.out]
 have HB3 : Hid (Blk w.drew q cur.toArray 170) := HB.out;have HV3 : Hid (Blk w.drew vb #[.string (ofL x.1), .string (ofL x.2)] 170) := HV.out;have HF3 : Hid (Fr (fun b => b = q) w w.drew) := (Fr.refl (fun b => b = q) w).drew;clear hcf hmin HV HC HB;have hwr : IntKind.i64.wrap ((i : Int) + 1) = (i : Int) + 1 := by rw [IntKind.wrap_i64]; omega
 have htn : ((i : Int) + 1).toNat = i + 1 := by omega
 have h01 : (0 : Int) ≤ (i : Int) + 1 := by omega
 have hin : (i : Int) + 1 ≤ (n : Int) + 1 := by omega
 have hin2 : (i : Int) ≤ (n : Int) + 1 := by omega
 have hne3 : ¬ (cap = i + 1) := by omega
 have hne4 : ¬ (cap = i) := by omega
 have hnn : n + 1 - (i + 1) = n - i := by omega
 have hile : i ≤ n + 1 := by omega
 go_region_law (refine step_copy2 rfl (.tmp 73) (.tmp 76) rfl q ((i + 1) * 2) (n - i) (cap - (i + 1)) ⟨q, i * 2, none⟩ (n + 1 - i) (cap - i) (by simp [Act.eval, Act.put]) (by simp [Act.eval, Act.put]) cur HB3.out (vcells (l.drop i)) (by rw [HL3.out, HMIN.out]) HC3.out (by rw [HCL.out.1, HL3.out]; omega) (vcells_one _) ?_; intro w3 hb3 hfr3)
 have HV4 : Hid (Blk w3 vb #[.string (ofL x.1), .string (ofL x.2)] 170) := HV3.out.kept hfr3.out hqv;have HF4 : Hid (Fr (fun b => b = q) w w3) := HF3.out.trans hfr3.out (fun _ _ h => h);have HL4 : Hid ((splice cur ((i + 1) * 2) (vcells (l.drop i))).length = cap * 2) := by
  show _ = _;rw [length_splice _ _ _ (by rw [HCL.out.1, HL3.out]; omega)]; exact HCL.out.1
 clear hwr htn h01 hin hne3 hnn hfr3 HF3 HV3 HB3 HC3;go_wp2_with (refine wpL_copy2 rfl (.tmp 80) (.tmp 81) rfl q (i * 2) (n + 1 - i) (cap - i) ⟨vb, 0, none⟩ 1 1 rfl rfl _ hb3.out [.string (ofL x.1), .string (ofL x.2)] (min1 (by omega)) (World.news_of_block HV4.out) (by rw [HL4.out]; simp; omega) (vcells_one [x]) ?_; intro w4 hb4 hfr4);go_ret;have hlen : (l.take i ++ x :: l.drop i).length = n + 1 := by simp [HLL.out]; omega
 refine ⟨_, rfl, ?_, (HF4.out.trans hfr4.out (fun _ _ h => h)).mono (fun b _ h => by rw [h]; rfl), fun b hb => Or.inl hb⟩;have hv : VO w4 (.slice (some ⟨q, 0, none⟩) (l.take i ++ x :: l.drop i).length cap) (l.take i ++ x :: l.drop i) := by
  refine VO.of hb4.out (by rw [hlen]; omega) HCL.out.2.1 (by rw [length_splice _ _ _ (by rw [HL4.out]; simp; omega)]; exact HL4.out) ?_;rw [hlen, show l.take i ++ x :: l.drop i = l.take i ++ ([x] ++ l.drop i) by simp, vcells_append, vcells_append, vcells_take, ← HCL.out.2.2];exact splice_two cur (i * 2) n i (vcells [x]) (vcells (l.drop i)) (by omega) rfl (vcells_length [x]) HL3.out (by rw [HCL.out.1]; omega)
 rw [hlen] at hv;exact hv
end Go.Proofs.YtmnajomkfnkmeaaGreatDoor
namespace Go.Proofs.YtmnajomkfnkmeaaGreatDoor
open Go.RowKit
open Op (bytesLess)
attribute [local go_sem] ofL_size
theorem setVal_none {n v : Bs} {l : List (Bs × Bs)} (hr : rising l) (h : (valAt n l).isSome = false) : setVal n v l = l.take (posOf n l) ++ (n, v) :: l.drop (posOf n l) := by
 induction l with
 | nil => rfl
 | cons y l ih =>
  obtain ⟨m, u⟩ := y;have hu : posOf n ((m, u) :: l) = if bytesLess m n = true then posOf n l + 1 else 0 := rfl
  unfold valAt at h;by_cases e : m = n
  ·rw [if_pos e] at h; cases h
  ·rw [if_neg e] at h;unfold setVal;rw [if_neg e, hu];by_cases hm : bytesLess m n = true
   ·rw [if_pos hm, if_pos hm, ih (List.pairwise_cons.1 hr).2 h]; rfl
   ·rw [if_neg hm, if_neg hm]; rfl
theorem setVal_some {n v : Bs} {l : List (Bs × Bs)} (hr : rising l) (h : (valAt n l).isSome = true) : posOf n l < l.length ∧ setVal n v l = l.take (posOf n l) ++ (n, v) :: l.drop (posOf n l + 1) ∧ (∀ hp : posOf n l < l.length, l[posOf n l].1 = n) := by
 induction l with
 | nil => simp [valAt] at h
 | cons y l ih =>
  obtain ⟨m, u⟩ := y;have hu : posOf n ((m, u) :: l) = if bytesLess m n = true then posOf n l + 1 else 0 := rfl
  unfold valAt at h;by_cases e : m = n
  ·have h0 : posOf n ((m, u) :: l) = 0 := by rw [hu, e, bl_irrefl]; rfl
   refine ⟨by rw [h0]; simp, ?_, ?_⟩
   ·unfold setVal; rw [if_pos e, h0]; rfl
   ·have hx : ∀ (i : Nat) (hi : i < ((m, u) :: l).length), i = 0 → (((m, u) :: l)[i]'hi).1 = m := by
     intro i hi h0; subst h0; rfl
    intro hp;exact (hx _ hp h0).trans e
  ·rw [if_neg e] at h;obtain ⟨h1, h2, h3⟩ := ih (List.pairwise_cons.1 hr).2 h;have hm : bytesLess m n = true := by
    have := (List.pairwise_cons.1 hr).1 l[posOf n l] (List.getElem_mem h1);simp only at this
    rwa [h3 h1] at this
   have hp1 : posOf n ((m, u) :: l) = posOf n l + 1 := by rw [hu, if_pos hm]
   refine ⟨by rw [hp1]; simpa using h1, ?_, ?_⟩
   ·unfold setVal; rw [if_neg e, if_pos hm, hp1, h2]; rfl
   ·have hx : ∀ (i : Nat) (hi : i < ((m, u) :: l).length), i = posOf n l + 1 → (((m, u) :: l)[i]'hi).1 = (l[posOf n l]'h1).1 := by
     intro i hi h0; subst h0; rfl
    intro hp;exact (hx _ hp hp1).trans (h3 h1)
theorem insert_any (s : Value) (l : List (Bs × Bs)) (i : Nat) (x : Bs × Bs) (vb : Nat) (w : World) (h : VO w s l) (hi : i ≤ l.length) (hl : l.length ≤ 1000)
  (hv : Blk w vb #[.string (ofL x.1), .string (ofL x.2)] 170) (hn : s.ownBlock ≠ some vb) :
  Calls Tryz.prog 179 #[s, .int .i64 i, .slice (some ⟨vb, 0, none⟩) 1 1] w (Ins w s (l.take i ++ x :: l.drop i)) := by
 by_cases he : i = l.length
 ·subst he;have := ins_end s l x vb _ w h hl hv
  rwa [List.take_length, List.drop_length]
 ·rcases h.cases with ⟨rfl, rfl⟩ | ⟨q, cap, cur, rfl, hb, hc, hm, hlen, ht⟩
  ·simp at hi; exact absurd hi he
  ·have hq : vb ≠ q := fun e => hn (by rw [e]; rfl);by_cases hcap : l.length = cap
   ·subst hcap;exact ins_grow q i l x vb _ w h (by omega) hl hv
   ·exact ins_room q cap i l x vb w h (by omega) hl (by omega) hv hq
theorem clone_any (s : ByteArray) (w : World) (hs : s.size ≤ 281474976710656) :
  Calls Tryz.prog 130 #[.string s] w fun e w' => e = .returned (.string s) ∧ Below w.heap.size w w' := by
 go_enter Tryz.func130, Tryz.ntmps130;go_wp2_with fail;refine (Tryz.stringslite_Clone s _ hs).mono ?_;rintro e w1 ⟨rfl, hb1⟩;go_wp2_with fail;go_ret;exact ⟨rfl, hb1⟩
structure SAt (w : World) (p : Nat) (id : Int) (x : Sess) (sl : Value) : Prop where
 blk : Blk w p #[.int .i64 id, .int .i64 x.user, .int .i64 x.created, .int .i64 x.used, sl] 104
 own : VO w sl x.vals
 apart : sl.ownBlock ≠ some p
theorem SAt.kept {S : Nat → Prop} {w w' : World} {p : Nat} {id : Int} {x : Sess} {sl : Value} (h : SAt w p id x sl) (hf : Fr S w w') (hp : ¬ S p) (hs : ∀ b, sl.ownBlock = some b → ¬ S b) : SAt w' p id x sl :=
 ⟨h.blk.kept hf hp, h.own.kept hf hs, h.apart⟩
def PutTo (w : World) (p : Nat) (id : Int) (x : Sess) (sl : Value) (n v : Bs) (e : Ending) (w' : World) : Prop :=
 e = .returned (.tuple #[]) ∧ ∃ sl', SAt w' p id { x with vals := setVal n v x.vals } sl' ∧ Fr (fun b => b = p ∨ sl.ownBlock = some b) w w' ∧ ∀ b, sl'.ownBlock = some b → sl.ownBlock = some b ∨ w.heap.size ≤ b
def insL (n : Bs) (l : List (Bs × Bs)) : List (Bs × Bs) := l.take (posOf n l) ++ (n, []) :: l.drop (posOf n l)
theorem insL_len (n : Bs) (l : List (Bs × Bs)) : (insL n l).length = l.length + 1 := by
 have := posOf_le n l;simp [insL]; omega
theorem insert_put (s : Value) (l : List (Bs × Bs)) (n : Bs) (vb : Nat) (w : World) (h : VO w s l) (hl : l.length ≤ 1000)
  (hv : Blk w vb #[.string (ofL n), .string (ofL [])] 170) (hn : s.ownBlock ≠ some vb) :
  Calls Tryz.prog 179 #[s, .int .i64 (posOf n l), .slice (some ⟨vb, 0, none⟩) 1 1] w fun e w' =>
   ∃ g cap, e = .returned (.slice (some ⟨g, 0, none⟩) (l.length + 1) cap) ∧ VO w' (.slice (some ⟨g, 0, none⟩) (l.length + 1) cap) (insL n l) ∧ Fr (fun b => s.ownBlock = some b) w w' ∧ (s.ownBlock = some g ∨ w.heap.size ≤ g) := by
 refine (insert_any s l (posOf n l) (n, []) vb w h (posOf_le n l) hl hv hn).mono ?_;rintro e w' ⟨s', rfl, hvo, hfr, hown⟩;have hL := insL_len n l;rcases VO.cases hvo with ⟨_, hx⟩ | ⟨q, cap, cur, rfl, _⟩
 ·simp at hx
 ·have hl2 : (l.take (posOf n l) ++ (n, []) :: l.drop (posOf n l)).length = l.length + 1 := hL;rw [hl2] at hvo;exact ⟨q, cap, by rw [hl2], hvo, hfr, hown q rfl⟩
theorem vcells_set (l : List (Bs × Bs)) (i : Nat) (v : Bs) (hi : i < l.length) : (vcells l).set (i * 2 + 1) (.string (ofL v)) = vcells (l.take i ++ (l[i].1, v) :: l.drop (i + 1)) := by
 induction l generalizing i with
 | nil => simp at hi
 | cons x l ih =>
  have e : vcells (x :: l) = .string (ofL x.1) :: .string (ofL x.2) :: vcells l := by simp [vcells]
  cases i with
  | zero => rw [e]; simp [vcells]
  | succ i =>
   have hi2 : i < l.length := by simpa using hi
   rw [e, show (i + 1) * 2 + 1 = (i * 2 + 1) + 1 + 1 by omega];simp only [List.set_cons_succ, List.take_succ_cons, List.getElem_cons_succ, List.drop_succ_cons, List.cons_append];rw [ih i hi2];simp [vcells]
theorem VO.text {w : World} {g m cap : Nat} {l : List (Bs × Bs)} (h : VO w (.slice (some ⟨g, 0, none⟩) m cap) l) (i : Nat) (v : Bs) (hi : i < l.length) :
  VO (w.setCell ⟨g, i * 2 + 1, none⟩ (.string (ofL v))) (.slice (some ⟨g, 0, none⟩) m cap) (l.take i ++ (l[i].1, v) :: l.drop (i + 1)) ∧ w.cell? ⟨g, i * 2 + 1, none⟩ = some (.string (ofL l[i].2)) ∧ w.frozen? ⟨g, i * 2 + 1, none⟩ = false ∧ m = l.length := by
 rcases h.cases with ⟨h1, _⟩ | ⟨q, cap', cur, hs, hb, hn, hm, hc, ht⟩
 ·cases h1
 ·obtain ⟨rfl, rfl, rfl⟩ : g = q ∧ m = l.length ∧ cap = cap' := by simpa using hs
  have hlen : (l.take i ++ (l[i].1, v) :: l.drop (i + 1)).length = l.length := by simp; omega
  refine ⟨?_, ?_, Blk.frozen hb _, rfl⟩
  ·have := Blk.set hb (i * 2 + 1) (.string (ofL v));have hv : VO (w.setCell ⟨g, i * 2 + 1, none⟩ (.string (ofL v))) (.slice (some ⟨g, 0, none⟩) (l.take i ++ (l[i].1, v) :: l.drop (i + 1)).length cap) (l.take i ++ (l[i].1, v) :: l.drop (i + 1)) := by
    refine VO.of (cur := cur.set (i * 2 + 1) (.string (ofL v))) (by simpa using this) (by rw [hlen]; exact hn) hm (by simpa using hc) ?_;rw [hlen, ← vcells_set l i v hi, ← ht, List.take_set]
   rw [hlen] at hv;exact hv
  ·have h2 := (vcells_get l i hi).2;rw [Blk.cell hb, ← h2, ← ht];simp only [List.getElem?_toArray, List.getElem?_take];rw [if_pos (by omega)]
theorem insL_set {n : Bs} {l : List (Bs × Bs)} (_ : rising l) (h : (valAt n l).isSome = false) (v : Bs) (hp : posOf n l < (insL n l).length) :
  (insL n l).take (posOf n l) ++ ((insL n l)[posOf n l].1, v) :: (insL n l).drop (posOf n l + 1) = setVal n v l := by
 rw [setVal_none ‹_› h];have hle := posOf_le n l;have e1 : (l.take (posOf n l)).length = posOf n l := by rw [List.length_take]; omega
 have e2 : (insL n l)[posOf n l]'hp = (n, []) := by
  have : (insL n l)[posOf n l]? = some (n, []) := by
   unfold insL;rw [List.getElem?_append_right (by omega), e1, Nat.sub_self]; rfl
  rw [List.getElem?_eq_getElem hp] at this;exact Option.some.inj this
 rw [e2];unfold insL;rw [List.take_append_of_le_length (by omega), List.take_take, show min (posOf n l) (posOf n l) = posOf n l by omega];congr 2;rw [show posOf n l + 1 = (l.take (posOf n l)).length + 1 by omega, List.drop_append];simp
theorem put_fr {w1 w2 : World} (hb2 : Below w1.drew.heap.size w1.drew w2) (o : Obj) : Fr (fun _ => False) w1 (w2.alloc o) :=
 ((Fr.refl (fun _ => False) w1).drew.trans (Fr.of_below hb2) (fun _ _ h => h)).alloc _
theorem put_none (p : Nat) (id : Int) (x : Sess) (sl : Value) (n v : Bs) (w : World) (h : SAt w p id x sl) (hr : rising x.vals) (hl : x.vals.length ≤ 900) (hn : n.length ≤ 100000) (hv : v.length ≤ 100000) (hno : (valAt n x.vals).isSome = false) :
  Calls Tryz.prog 151 #[.pointer (some ⟨p, 0, none⟩), .string (ofL n), .string (ofL v)] w (PutTo w p id x sl n v) := by
 have HH : Hid (SAt w p id x sl) := h;have HR : Hid (rising x.vals) := hr;have c0 : w.cell? ⟨p, 0, none⟩ = some (.int .i64 id) := Blk.cell h.blk 0;have c1 : w.cell? ⟨p, 1, none⟩ = some (.int .i64 x.user) := Blk.cell h.blk 1;have c2 : w.cell? ⟨p, 2, none⟩ = some (.int .i64 x.created) := Blk.cell h.blk 2;have c3 : w.cell? ⟨p, 3, none⟩ = some (.int .i64 x.used) := Blk.cell h.blk 3;have c4 : w.cell? ⟨p, 4, none⟩ = some sl := Blk.cell h.blk 4;clear h hr;go_enter Tryz.func151, Tryz.ntmps151;go_wp2_with fail;refine (sfind_any id x.user x.created x.used sl x.vals n _ HH.out.own.read HR.out (by omega)).mono ?_;rintro e w1 ⟨rfl, hb1⟩;rw [hno];have HH1 : Hid (SAt w1 p id x sl) := HH.out.kept (Fr.of_below (S := fun _ => False) hb1) (fun h => h) (fun _ _ h => h);have hp := posOf_le n x.vals;clear c0 c1 c2 c3 c4;go_wp2_with fail;have c4 : w1.cell? ⟨p, 4, none⟩ = some sl := Blk.cell HH1.out.blk 4;have f4 : w1.frozen? ⟨p, 4, none⟩ = false := Blk.frozen HH1.out.blk 4;have hpl : p < w1.heap.size := HH1.out.blk.lt
 go_region_with (first
  | (go_at_call 130; refine (clone_any (ofL n) _ (by rw [ofL_size]; omega)).mono ?_; rintro e w2 ⟨rfl, hb2⟩; have hz2 : w1.heap.size ≤ w2.heap.size := hb2.size; have c6 : w2.cell? ⟨p, 4, none⟩ = some sl := ((bcell hb2).1 p 4 hpl).trans c4; have hz3 : p < w2.heap.size := by omega)
  | (go_at_call 179; refine (insert_put sl x.vals n w2.heap.size _ ?_ (by omega) ?_ ?_).mono ?_; exact VO.kept HH1.out.own (put_fr hb2 _) (fun _ _ h => h); exact Blk.new w2 _ _; exact fun e => absurd (VO.lt HH1.out.own _ e) (by omega); rintro e w3 ⟨g, cap', rfl, hvo, hfr, hown⟩; have hbk := (HH1.out.blk.kept (put_fr hb2 _) (fun h => h)).kept hfr HH1.out.apart; have c5 : w3.cell? ⟨p, 4, none⟩ = some sl := Blk.cell hbk 4; have f5 : w3.frozen? ⟨p, 4, none⟩ = false := Blk.frozen hbk 4))
 all_goals
  have hgp : g ≠ p := by
   rintro rfl;rcases hown with h | h
   ·exact HH1.out.apart h
   ·simp at h; omega
  have HFR : Hid (Fr (fun b => sl.ownBlock = some b) w w3) := (((Fr.of_below (S := fun b => sl.ownBlock = some b) hb1).trans (put_fr hb2 _) (fun _ _ h => h.elim)).trans hfr (fun _ _ h => h));have HG : Hid (sl.ownBlock = some g ∨ w.heap.size ≤ g) := by
   rcases hown with h | h
   ·exact Or.inl h
   ·have := hb1.size;simp at h;exact Or.inr (by omega)
  have HBK : Hid (Blk (w3.setCell ⟨p, 4, none⟩ (.slice (some ⟨g, 0, none⟩) (x.vals.length + 1) cap')) p #[.int .i64 id, .int .i64 x.user, .int .i64 x.created, .int .i64 x.used, .slice (some ⟨g, 0, none⟩) (x.vals.length + 1) cap'] 104) := Blk.set hbk 4 _;have HVO : Hid (VO (w3.setCell ⟨p, 4, none⟩ (.slice (some ⟨g, 0, none⟩) (x.vals.length + 1) cap')) (.slice (some ⟨g, 0, none⟩) (x.vals.length + 1) cap') (insL n x.vals)) := hvo.kept ((Fr.refl (fun b => b = p) w3).setCell _ (fun _ => rfl) _) (fun b hb e => by
   have : some g = some b := hb
   injection this with this
   exact hgp (this.trans e))
  have HFR2 : Hid (Fr (fun b => b = p ∨ sl.ownBlock = some b) w (w3.setCell ⟨p, 4, none⟩ (.slice (some ⟨g, 0, none⟩) (x.vals.length + 1) cap'))) := (HFR.out.mono (S' := fun b => b = p ∨ sl.ownBlock = some b) (fun _ _ h => Or.inr h)).setCell _ (fun _ => Or.inl rfl) _;clear hbk hvo hfr hown c5 f5 c4 f4 c6 hz2 hz3 hb2 hpl HFR HH HH1;generalize w3.setCell ⟨p, 4, none⟩ (.slice (some ⟨g, 0, none⟩) (x.vals.length + 1) cap') = w4 at *
  have c4 : w4.cell? ⟨p, 4, none⟩ = some (.slice (some ⟨g, 0, none⟩) (x.vals.length + 1) cap') := Blk.cell HBK.out 4;have hpi : posOf n x.vals < x.vals.length + 1 := by omega
  have HPI : Hid (posOf n x.vals < (insL n x.vals).length) := by show _ < _; rw [insL_len]; exact hpi
  have hpl : p < w4.heap.size := HBK.out.lt;have hgl : g < w4.heap.size := VO.lt HVO.out g rfl;have HIX : Hid ((insL n x.vals).take (posOf n x.vals) ++ ((insL n x.vals)[posOf n x.vals]'HPI.out |>.1, v) :: (insL n x.vals).drop (posOf n x.vals + 1) = setVal n v x.vals) := insL_set HR.out hno v HPI.out;have HT := HVO.out.text (posOf n x.vals) v HPI.out;have ct : w4.cell? ⟨g, posOf n x.vals * 2 + 1, none⟩ = _ := HT.2.1;have ft := HT.2.2.1;clear HT;have hpi2 : (posOf n x.vals : Int) < (x.vals.length : Int) + 1 := by omega
  go_wp2_with fail
  go_region_with (go_at_call 130; refine (clone_any (ofL v) _ (by rw [ofL_size]; omega)).mono ?_; rintro e w5 ⟨rfl, hb5⟩; have hz5 : w4.heap.size ≤ w5.heap.size := hb5.size; have c7 : w5.cell? ⟨p, 4, none⟩ = some (.slice (some ⟨g, 0, none⟩) (x.vals.length + 1) cap') := ((bcell hb5).1 p 4 hpl).trans c4; have c8 := ((bcell hb5).1 g (posOf n x.vals * 2 + 1) hgl).trans ct; have f8 : w5.frozen? ⟨g, posOf n x.vals * 2 + 1, none⟩ = false := ((bcell hb5).2 g (posOf n x.vals * 2 + 1) hgl).trans ft)
  all_goals
   go_wp2_with fail;go_end0;have hfr5 : Fr (fun _ => False) w4 w5 := (Fr.refl (fun _ => False) w4).drew.trans (Fr.of_below hb5) (fun _ _ h => h);have hvo5 := (HVO.out.kept hfr5 (fun _ _ h => h)).text (posOf n x.vals) v HPI.out;rw [HIX.out] at hvo5;refine ⟨rfl, .slice (some ⟨g, 0, none⟩) (x.vals.length + 1) cap', ⟨?_, hvo5.1, fun e => hgp (by simpa [Value.ownBlock] using e)⟩, ?_, fun b hb => ?_⟩
   ·exact (HBK.out.kept hfr5 (fun h => h)).other (fun e => hgp e.symm) _
   ·refine (HFR2.out.trans (hfr5.mono (S' := fun b => b = p ∨ sl.ownBlock = some b) (fun _ _ h => h.elim)) (fun _ _ h => h)).setCell _ (fun hlt => ?_) _;rcases HG.out with h | h
    ·exact Or.inr h
    ·exact absurd hlt (by simp only; omega)
   ·have hb : some g = some b := hb;injection hb with hb
    subst hb;exact HG.out
theorem put_some (p : Nat) (id : Int) (x : Sess) (sl : Value) (n v : Bs) (w : World) (h : SAt w p id x sl) (hr : rising x.vals) (hl : x.vals.length ≤ 900) (hv : v.length ≤ 100000) (hyes : (valAt n x.vals).isSome = true) :
  Calls Tryz.prog 151 #[.pointer (some ⟨p, 0, none⟩), .string (ofL n), .string (ofL v)] w (PutTo w p id x sl n v) := by
 have HH : Hid (SAt w p id x sl) := h;have HR : Hid (rising x.vals) := hr;have c0 : w.cell? ⟨p, 0, none⟩ = some (.int .i64 id) := Blk.cell h.blk 0;have c1 : w.cell? ⟨p, 1, none⟩ = some (.int .i64 x.user) := Blk.cell h.blk 1;have c2 : w.cell? ⟨p, 2, none⟩ = some (.int .i64 x.created) := Blk.cell h.blk 2;have c3 : w.cell? ⟨p, 3, none⟩ = some (.int .i64 x.used) := Blk.cell h.blk 3;have c4 : w.cell? ⟨p, 4, none⟩ = some sl := Blk.cell h.blk 4;obtain ⟨hpos, hset, hkey⟩ := setVal_some (v := v) hr hyes;have HIX : Hid (x.vals.take (posOf n x.vals) ++ ((x.vals[posOf n x.vals]'hpos).1, v) :: x.vals.drop (posOf n x.vals + 1) = setVal n v x.vals) := by show _ = _; rw [hkey hpos, hset]
 clear h hr hset hkey;go_enter Tryz.func151, Tryz.ntmps151;go_wp2_with fail;refine (sfind_any id x.user x.created x.used sl x.vals n _ HH.out.own.read HR.out (by omega)).mono ?_;rintro e w4 ⟨rfl, hb1⟩;rw [hyes];have HH1 : Hid (SAt w4 p id x sl) := HH.out.kept (Fr.of_below (S := fun _ => False) hb1) (fun h => h) (fun _ _ h => h);rcases HH1.out.own.cases with ⟨_, hx⟩ | ⟨g, cap, cur, rfl, _, _, _, _, _⟩
 ·rw [hx] at hpos; exact absurd hpos (Nat.not_lt_zero _)
 clear c0 c1 c2 c3 c4;have hgp : g ≠ p := fun e => HH1.out.apart (by rw [← e]; rfl);have c4 : w4.cell? ⟨p, 4, none⟩ = some (.slice (some ⟨g, 0, none⟩) x.vals.length cap) := Blk.cell HH1.out.blk 4;have hpl : p < w4.heap.size := HH1.out.blk.lt;have hgl : g < w4.heap.size := VO.lt HH1.out.own g rfl;have HT := HH1.out.own.text (posOf n x.vals) v hpos;have ct : w4.cell? ⟨g, posOf n x.vals * 2 + 1, none⟩ = _ := HT.2.1;have ft := HT.2.2.1;clear HT;have hpi2 : (posOf n x.vals : Int) < (x.vals.length : Int) := by omega
 go_wp2_with fail
 go_region_with (go_at_call 130; refine (clone_any (ofL v) _ (by rw [ofL_size]; omega)).mono ?_; rintro e w5 ⟨rfl, hb5⟩; have hz5 : w4.heap.size ≤ w5.heap.size := hb5.size; have c7 : w5.cell? ⟨p, 4, none⟩ = some (.slice (some ⟨g, 0, none⟩) x.vals.length cap) := ((bcell hb5).1 p 4 hpl).trans c4; have c8 := ((bcell hb5).1 g (posOf n x.vals * 2 + 1) hgl).trans ct; have f8 : w5.frozen? ⟨g, posOf n x.vals * 2 + 1, none⟩ = false := ((bcell hb5).2 g (posOf n x.vals * 2 + 1) hgl).trans ft)
 all_goals
  go_wp2_with fail;go_end0;have hfr5 : Fr (fun _ => False) w4 w5 := (Fr.refl (fun _ => False) w4).drew.trans (Fr.of_below hb5) (fun _ _ h => h);have hvo5 := (HH1.out.own.kept hfr5 (fun _ _ h => h)).text (posOf n x.vals) v hpos;rw [HIX.out] at hvo5;refine ⟨rfl, .slice (some ⟨g, 0, none⟩) x.vals.length cap, ⟨?_, ?_, fun e => hgp (by simpa [Value.ownBlock] using e)⟩, ?_, fun b hb => Or.inl hb⟩
  ·exact (HH1.out.blk.kept hfr5 (fun h => h)).other (fun e => hgp e.symm) _
  ·exact hvo5.1
  ·refine ((Fr.of_below (S := fun b => b = p ∨ (Value.slice (some ⟨g, 0, none⟩) x.vals.length cap).ownBlock = some b) hb1).trans (hfr5.mono (S' := fun b => b = p ∨ (Value.slice (some ⟨g, 0, none⟩) x.vals.length cap).ownBlock = some b) (fun _ _ h => h.elim)) (fun _ _ h => h)).setCell ⟨g, posOf n x.vals * 2 + 1, none⟩ (fun _ => Or.inr rfl) _
theorem put_any (p : Nat) (id : Int) (x : Sess) (sl : Value) (n v : Bs) (w : World) (h : SAt w p id x sl) (hr : rising x.vals) (hl : x.vals.length ≤ 900) (hn : n.length ≤ 100000) (hv : v.length ≤ 100000) :
  Calls Tryz.prog 151 #[.pointer (some ⟨p, 0, none⟩), .string (ofL n), .string (ofL v)] w (PutTo w p id x sl n v) := by
 cases hx : (valAt n x.vals).isSome with
 | true => exact put_some p id x sl n v w h hr hl hv hx
 | false => exact put_none p id x sl n v w h hr hl hn hv hx
end Go.Proofs.YtmnajomkfnkmeaaGreatDoor
