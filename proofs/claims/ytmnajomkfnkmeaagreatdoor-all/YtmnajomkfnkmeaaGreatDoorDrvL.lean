import Derived.Test.YtmnajomkfnkmeaaGreatDoorDrv
import Derived.Test.YtmnajomkfnkmeaaGreatDoorShelf
set_option maxRecDepth 20000
set_option maxHeartbeats 2000000
namespace Go.Proofs.YtmnajomkfnkmeaaGreatDoor
open Go.RowKit Go.Conc
attribute [local go_sem] ofL_size
theorem contains_any (uv : Value) (l : List Nat) (s : Nat) (w : World) (h : WO w uv l) (hl : l.length ≤ 9223372036854775807) :
  Calls Tryz.prog 265 #[uv, .int .i64 s] w fun e w' => e = .returned (.bool (decide (s ∈ l))) ∧ w' = w := by
 rcases h.cases with ⟨rfl, rfl⟩ | ⟨q, cap, cur, rfl, hb, hn, hm, hc, ht⟩
 ·refine (Tryz.slices_Contains_int_empty none 0 s w).mono ?_;rintro e w' ⟨rfl, rfl⟩;exact ⟨by simp, rfl⟩
 ·have hcell := WO.cell h;refine (Tryz.slices_Contains_int q 0 l.length cap (l.map fun (n : Nat) => (n : Int)) s w (by simp) hl (fun j hj => ?_)).mono ?_
  ·rw [List.length_map] at hj;rw [Nat.zero_add, hcell j hj];simp [List.getD, hj]
  ·rintro e w' ⟨rfl, rfl⟩;refine ⟨?_, rfl⟩;congr 2;rw [List.take_of_length_le (by simp), Bool.eq_iff_iff];simp only [List.contains_iff_mem, List.mem_map, decide_eq_true_eq];constructor
   ·rintro ⟨a, ha, e⟩;have : a = s := by omega
    exact this ▸ ha
   ·intro hs; exact ⟨s, hs, rfl⟩
theorem info_int : (Tryz.prog.info? 3).map (fun i => (i.zero, i.size, i.bytes)) = some (some (.int .i64 0), 1, 8) := by kernel_rfl
theorem Fr.grownW {w w' : World} {row : Option Nat} (h : w.grownBy w' row) : Fr (fun b => row = some b) w w' := ⟨h.os, h.tape, h.output, h.size, fun k hk hn => h.block k hk (fun e => hn e.symm)⟩
theorem WO.pushed {w' : World} {g cap n s : Nat} {l : List Nat} (hn : l.length = n) (ho : w'.ownsRow 0 3 1 (.slice (some ⟨g, 0, none⟩) (n + 1) cap) (n + 1) (nums l ++ [.int .i64 (s : Int)])) : WO w' (.slice (some ⟨g, 0, none⟩) (n + 1) cap) (l ++ [s]) := by
 unfold WO;rw [List.length_append, List.length_singleton, hn, show nums (l ++ [s]) = nums l ++ [.int .i64 (s : Int)] by simp [nums]];exact ho
theorem pushed_drv {w w2 : World} {B db cb sb wb : Nat} {uv : Value} {c1 c2 : Nat} {d : Dv} {g cap n s : Nat} (hP : DrvP w B db cb sb wb uv c1 c2 d) (hB : B ≤ w.heap.size) (hn : d.way.length = n) (o : Obj)
  (ho : w2.ownsRow 0 3 1 (.slice (some ⟨g, 0, none⟩) (n + 1) cap) (n + 1) (nums d.way ++ [.int .i64 (s : Int)])) (hgr : (w.alloc o).grownBy w2 uv.ownBlock) (hloc : uv.ownBlock = some g ∨ g = (w.alloc o).heap.size) :
  w2.cell? ⟨db, 4, none⟩ = some uv ∧ w2.frozen? ⟨db, 4, none⟩ = false ∧ DrvTo w B db (dfoot db cb sb wb uv) { d with way := d.way ++ [s] } (w2.setCell ⟨db, 4, none⟩ (.slice (some ⟨g, 0, none⟩) (n + 1) cap)) := by
 have ha : Fr (fun _ => False) w (w.alloc o) := (Fr.refl _ w).alloc o;have hg := Fr.grownW hgr;have hsz : w.heap.size < (w.alloc o).heap.size := by simp
 have hne : ∀ b, b < w.heap.size → ¬ uv.ownBlock = some b → b ≠ g := fun b hb hn e => by
  subst e;rcases hloc with h | h
  ·exact hn h
  ·omega
 have hno : ∀ b, (b = db ∨ b = cb ∨ b = sb ∨ b = wb) → ¬ uv.ownBlock = some b := fun b hb h => by
  have := hP.own b h;rcases hb with rfl | rfl | rfl | rfl
  ·exact this.1 rfl
  ·exact this.2.1 rfl
  ·exact this.2.2.1 rfl
  ·exact this.2.2.2.1 rfl
 have hb2 : Blk w2 db _ _ := (hP.blk.kept ha (fun h => h)).kept hg (hno db (Or.inl rfl));have hc2 := (hP.chan.kept ha (fun h => h)).kept hg (hno cb (Or.inr (Or.inl rfl)));have hs2 := (hP.stable.kept ha (fun h => h)).kept hg (hno sb (Or.inr (Or.inr (Or.inl rfl))));have hw2 := (hP.written.kept ha (fun h => h)).kept hg (hno wb (Or.inr (Or.inr (Or.inr rfl))));have hwo : WO w2 (.slice (some ⟨g, 0, none⟩) (n + 1) cap) (d.way ++ [s]) := WO.pushed hn ho;have hf3 : Fr (· = db) w2 (w2.setCell ⟨db, 4, none⟩ (.slice (some ⟨g, 0, none⟩) (n + 1) cap)) := (Fr.refl (· = db) w2).setCell ⟨db, 4, none⟩ (fun _ => rfl) _;have hgdb : g ≠ db := fun e => hne db hP.blk.lt (hno db (Or.inl rfl)) e.symm;obtain ⟨n1, n2, n3, n4, n5, n6⟩ := hP.ne;refine ⟨Blk.cell hb2 4, Blk.frozen hb2 4, dfoot db cb sb wb (.slice (some ⟨g, 0, none⟩) (n + 1) cap), ⟨cb, sb, wb, _, c1, c2, ⟨?_, hP.caps, hc2.kept hf3 (fun e => n6 e.symm), hs2.kept hf3 (fun e => n4 e.symm), hw2.kept hf3 (fun e => n5 e.symm), hwo.kept hf3 (fun b hb e => ?_), hP.ne, fun b hb => ?_, hP.ge, hP.fuse⟩, fun b => Iff.rfl⟩, ?_, fun b hb => ?_⟩
 ·have := hb2.set 4 (.slice (some ⟨g, 0, none⟩) (n + 1) cap);exact this
 ·have hb : some g = some b := hb;injection hb with hb
  exact hgdb (hb.trans e)
 ·have hb : some g = some b := hb;injection hb with hb
  subst hb;refine ⟨hgdb, fun e => hne cb hP.chan.lt (hno cb (Or.inr (Or.inl rfl))) e.symm, fun e => hne sb hP.stable.lt (hno sb (Or.inr (Or.inr (Or.inl rfl)))) e.symm, fun e => hne wb hP.written.lt (hno wb (Or.inr (Or.inr (Or.inr rfl)))) e.symm, ?_⟩;rcases hloc with h | h
  ·exact (hP.own _ h).2.2.2.2
  ·omega
 ·refine (Fr.trans (S := dfoot db cb sb wb uv) (ha.mono (fun _ _ h => h.elim)) hg (fun b _ h => Or.inr (Or.inr (Or.inr (Or.inr h))))).trans hf3 (fun b _ h => Or.inl h)
 ·rcases hb with rfl | rfl | rfl | rfl | hb
  ·exact Or.inl (Or.inl rfl)
  ·exact Or.inl (Or.inr (Or.inl rfl))
  ·exact Or.inl (Or.inr (Or.inr (Or.inl rfl)))
  ·exact Or.inl (Or.inr (Or.inr (Or.inr (Or.inl rfl))))
  ·have hb : some g = some b := hb;injection hb with hb
   subst hb;rcases hloc with h | h
   ·exact Or.inl (Or.inr (Or.inr (Or.inr (Or.inr h))))
   ·exact Or.inr (by omega)
theorem dwrite_any (db B : Nat) (F : Nat → Prop) (d : Dv) (G : Gl) (s a : Nat) (r : Bs) (w : World) (h : DrvAt w B db F d) (hu : d.down = false) (hr0 : 0 < r.length) (har : a + r.length ≤ d.written.length) (hw : d.way.length ≤ 1000000) (hG : Glob B G w) :
  Calls Tryz.prog 264 #[.pointer (some ⟨db, 0, none⟩), .int .i64 s, .int .i64 a, .string (ofL r)] w fun e w' => e = .returned (downV (errV G.down) (d.write s a r).1) ∧ DrvTo w B db F (d.write s a r).2 w' := by
 obtain ⟨cb, sb, wb, uv, c1, c2, hp, hF⟩ := h;obtain ⟨n1, n2, n3, n4, n5, n6⟩ := hp.ne;have hwr : d.write s a r = (d.wrote s a r).step := by unfold Dv.write; rw [hu]; rfl
 rw [hwr];obtain ⟨w1, hr1, hy1, hf1, hz1⟩ := hp.written.texts har;have hl2 : (laidB d.written a r).length = d.written.length := laidB_length har;have hb1 := hp.blk.kept hf1 n5;have hG1 : Glob B G w1 := hG.fr hf1 (fun b e => by rw [e]; exact hp.ge.2.2.2);have hP1 : ∀ (way : List Nat), DrvP w1 B db cb sb wb uv c1 c2 { d with written := laidB d.written a r } := fun _ => ⟨by rw [show ({ d with written := laidB d.written a r } : Dv).written.length = d.written.length from hl2]; exact hb1, by rw [show ({ d with written := laidB d.written a r } : Dv).written.length = d.written.length from hl2]; exact hp.caps, hp.chan.kept hf1 n3, hp.stable.kept hf1 n1, hy1, hp.way.kept hf1 (fun b hb e => (hp.own b hb).2.2.2.1 e), hp.ne, hp.own, hp.ge, hp.fuse⟩;have HP1 : Hid (DrvP w1 B db cb sb wb uv c1 c2 { d with written := laidB d.written a r }) := hP1 [];have HF1 : Hid (Fr (· = wb) w w1) := hf1;have HG1 : Hid (Glob B G w1) := hG1;have hh0 : w.cell? ⟨db, 0, none⟩ = some (.chan (some cb)) := Blk.cell hp.blk 0;have hch := hp.chan;rw [hu] at hch;have k3 : w.cell? ⟨db, 3, none⟩ = some (byS wb d.written.length c2) := Blk.cell hp.blk 3;have k4 : w1.cell? ⟨db, 4, none⟩ = some uv := Blk.cell hb1 4;have hc := hp.caps;unfold maxLen at hc;have g1 : (a : Int) ≤ d.written.length := by omega
 have g2 : (d.written.length : Int) ≤ c2 := by omega
 have g3 : ¬ c2 = a := by omega
 have hcp := fun ty => hr1 (d.written.length - a) (c2 - a) ty (by omega);unfold byS at k3;have HW : Hid (d.way.length ≤ 1000000) := hw;have HFF : Hid (∀ b, F b ↔ dfoot db cb sb wb uv b) := hF;clear hp hF hf1 hz1 hy1 hb1 hP1 hr1 hc hwr hG hG1 hw;go_enter Tryz.func264, Tryz.ntmps264;go_wp2_with fail;refine (isDown_any db cb false _ hh0 hch).mono ?_;rintro e w' ⟨rfl, rfl⟩;go_wp2_with fail;refine (contains_any uv d.way s _ HP1.out.way (by have := HW.out; omega)).mono ?_;rintro e w' ⟨rfl, rfl⟩;have HU : Hid (d.down = false) := hu;clear hu;by_cases hin : s ∈ d.way
 ·have HWO : Hid (d.wrote s a r = { d with written := laidB d.written a r }) := by
   show _ = _;unfold Dv.wrote; rw [if_pos hin]
  have HA : Hid (DrvAt w' B db F { d with written := laidB d.written a r }) := ⟨cb, sb, wb, uv, c1, c2, HP1.out, HFF.out⟩;have HD : Hid (({ d with written := laidB d.written a r } : Dv).down = false) := HU.out;rw [decide_eq_true hin];clear hr0 har g1 g2 g3 hcp k3 k4 hin HP1 HU hl2;generalize ({ d with written := laidB d.written a r } : Dv) = d1 at *
  go_wp2_with fail;refine (dstep_any db B F d1 G _ HA.out (fun h => by rw [HD.out] at h; cases h) HG1.out).mono ?_;rintro e w2 ⟨rfl, hd2⟩;have HD2 : Hid (DrvTo _ B db F _ w2) := hd2;clear hd2;go_wp2_with fail;go_ret;refine ⟨by rw [HWO.out]; rfl, ?_⟩;rw [HWO.out];exact DrvTo.trans (HF1.out.mono (fun b _ e => (HFF.out b).2 (Or.inr (Or.inr (Or.inr (Or.inl e)))))) (fun b hb => Or.inl hb) HD2.out
 ·have HWO : Hid (d.wrote s a r = { d with written := laidB d.written a r, way := d.way ++ [s] }) := by
   show _ = _;unfold Dv.wrote; rw [if_neg hin]
  rw [decide_eq_false hin];obtain ⟨i0, hi, hzz⟩ := Option.map_eq_some_iff.1 info_int;simp only [Prod.mk.injEq] at hzz;obtain ⟨hz, hs0, hb⟩ := hzz;have HI : Hid (Tryz.prog.info? 3 = some i0) := hi;have HZ : Hid (i0.zero = some (.int .i64 0)) := hz;have HS : Hid (i0.size = 1) := hs0;have HB : Hid (i0.bytes = 8) := hb;have HO : Hid (World.ownsRow (w'.alloc (.cells #[.int .i64 (s : Int)] 3)) 0 3 1 uv d.way.length (nums d.way)) := HP1.out.way.kept (S := fun _ => False) ((Fr.refl _ w').alloc (.cells #[.int .i64 (s : Int)] 3)) (fun _ _ h => h);have HN : Hid (∀ (j : Nat) (u : Value), [Value.int .i64 (s : Int)][j]? = some u → (w'.alloc (.cells #[.int .i64 (s : Int)] 3)).cell? ((⟨w'.heap.size, 0, none⟩ : Addr).add j) = some u) := World.news_of_block (Blk.new w' _ _);clear hr0 har g1 g2 g3 hcp k3 hin hi hz hs0 hb;generalize hwl : d.way.length = n at *
  have HWL : Hid (d.way.length = n) := hwl;clear hwl;have H1 : Hid (∀ u ∈ [Value.int .i64 (s : Int)], u.oneCell' = true) := fun u hu => by rw [List.mem_singleton.1 hu]; rfl
  have H63 : Hid (n + 1 ≤ maxLen) := by show _ ≤ _; have := HW.out; unfold maxLen; omega
  have HBY : Hid ((n + 1) * 8 ≤ 140737488355328) := by show _ ≤ _; have := HW.out; omega
  have hsh : uv = .slice none 0 0 ∨ ∃ q cap, uv = .slice (some ⟨q, 0, none⟩) n cap := by
   rcases HP1.out.way.cases with ⟨h, _⟩ | ⟨q, cap, cur, h, _⟩
   ·exact Or.inl h
   ·exact Or.inr ⟨q, cap, by rw [h]; show Value.slice _ d.way.length cap = _; rw [HWL.out]⟩
  rcases hsh with rfl | ⟨q, cap0, rfl⟩
  ·have hn0 : n = 0 := by
    rcases HP1.out.way.cases with ⟨_, h⟩ | ⟨q, cap, cur, h, _⟩
    ·have : d.way = [] := h;rw [← HWL.out, this]; rfl
    ·cases h
   subst hn0;go_wp2_with (at_builtin; refine wpList_append_lies _ rfl _ _ 52 rfl 0 3 i0 (.int .i64 0) 1 8 Tryz.underlying52 HI.out HZ.out HS.out HB.out rfl (by decide) _ 0 (nums d.way) rfl HO.out ⟨w'.heap.size, 0, none⟩ 1 1 [.int .i64 (s : Int)] rfl rfl HN.out H1.out (by decide) H63.out HBY.out (Nat.zero_le _) _ rfl ?_; intro g cap w2 hown hgr hloc hlt; obtain ⟨q1, q2, q3⟩ := pushed_drv HP1.out HG1.out.le HWL.out _ hown hgr hloc; have Q3 : Hid (DrvTo _ _ _ _ _ _) := q3; clear hown hgr hloc hlt q3);obtain ⟨F2, ha2, hf2, hF2⟩ := Q3.out;have HG2 : Hid (Glob B G _) := HG1.out.fr hf2 (fun b hb => (HP1.out.foot hb).1);refine (dstep_any db B F2 { d with written := laidB d.written a r, way := d.way ++ [s] } G _ ha2 (fun h => by have h : d.down = true := h; rw [HU.out] at h; cases h) HG2.out).mono ?_;rintro e w3 ⟨rfl, hd3⟩;have HD3 : Hid (DrvTo w' B db F (Dv.step { d with written := laidB d.written a r, way := d.way ++ [s] }).2 w3) := by
    have := DrvTo.trans hf2 hF2 hd3;obtain ⟨F3, ha3, hf3, hF3⟩ := this;exact ⟨F3, ha3, hf3.mono (fun b _ h => (HFF.out b).2 h), fun b hb => (hF3 b hb).imp (fun h => (HFF.out b).2 h) id⟩
   clear hd3 ha2 hf2 hF2 HG2 Q3;rw [show ({ stable := d.stable, written := laidB d.written a r, way := d.way ++ [s], fuse := d.fuse, down := d.down } : Dv) = d.wrote s a r from HWO.out.symm] at HD3 ⊢;go_wp2_with fail;go_ret;refine ⟨rfl, DrvTo.trans (HF1.out.mono (fun b _ e => (HFF.out b).2 (Or.inr (Or.inr (Or.inr (Or.inl e)))))) (fun b hb => Or.inl hb) HD3.out⟩
  ·skip
   go_wp2_with (at_builtin; refine wpList_append_lies _ rfl _ _ 52 rfl 0 3 i0 (.int .i64 0) 1 8 Tryz.underlying52 HI.out HZ.out HS.out HB.out rfl (by decide) _ n (nums d.way) rfl HO.out ⟨w'.heap.size, 0, none⟩ 1 1 [.int .i64 (s : Int)] rfl rfl HN.out H1.out (by decide) H63.out HBY.out (Nat.zero_le _) _ rfl ?_; intro g cap w2 hown hgr hloc hlt; obtain ⟨q1, q2, q3⟩ := pushed_drv HP1.out HG1.out.le HWL.out _ hown hgr hloc; have Q3 : Hid (DrvTo _ _ _ _ _ _) := q3; clear hown hgr hloc hlt q3);obtain ⟨F2, ha2, hf2, hF2⟩ := Q3.out;have HG2 : Hid (Glob B G _) := HG1.out.fr hf2 (fun b hb => (HP1.out.foot hb).1);refine (dstep_any db B F2 { d with written := laidB d.written a r, way := d.way ++ [s] } G _ ha2 (fun h => by have h : d.down = true := h; rw [HU.out] at h; cases h) HG2.out).mono ?_;rintro e w3 ⟨rfl, hd3⟩;have HD3 : Hid (DrvTo w' B db F (Dv.step { d with written := laidB d.written a r, way := d.way ++ [s] }).2 w3) := by
    have := DrvTo.trans hf2 hF2 hd3;obtain ⟨F3, ha3, hf3, hF3⟩ := this;exact ⟨F3, ha3, hf3.mono (fun b _ h => (HFF.out b).2 h), fun b hb => (hF3 b hb).imp (fun h => (HFF.out b).2 h) id⟩
   clear hd3 ha2 hf2 hF2 HG2 Q3;rw [show ({ stable := d.stable, written := laidB d.written a r, way := d.way ++ [s], fuse := d.fuse, down := d.down } : Dv) = d.wrote s a r from HWO.out.symm] at HD3 ⊢;go_wp2_with fail;go_ret;refine ⟨rfl, DrvTo.trans (HF1.out.mono (fun b _ e => (HFF.out b).2 (Or.inr (Or.inr (Or.inr (Or.inl e)))))) (fun b hb => Or.inl hb) HD3.out⟩
end Go.Proofs.YtmnajomkfnkmeaaGreatDoor
namespace Go.Proofs.YtmnajomkfnkmeaaGreatDoor
open Go.RowKit Go.Conc
attribute [local go_sem] ofL_size
theorem puts_more {d : Dv} {k a : Nat} {t : Bs} (h : 0 < t.length) (hw : (d.write (a / 32) a (t.take (chunk a t.length))).1 = true) : Dv.puts (k + 1) d a t = Dv.puts k (d.write (a / 32) a (t.take (chunk a t.length))).2 (a + chunk a t.length) (t.drop (chunk a t.length)) := by
 conv => lhs; unfold Dv.puts
 rw [if_neg (by omega), if_pos hw]
theorem puts_broke {d : Dv} {k a : Nat} {t : Bs} (h : 0 < t.length) (hw : (d.write (a / 32) a (t.take (chunk a t.length))).1 = false) : Dv.puts (k + 1) d a t = (false, (d.write (a / 32) a (t.take (chunk a t.length))).2) := by
 conv => lhs; unfold Dv.puts
 rw [if_neg (by omega), if_neg (by rw [hw]; decide)]
theorem puts_none {d : Dv} {k a : Nat} {t : Bs} (h : t.length = 0) : Dv.puts k d a t = (true, d) := by
 cases k with
 | zero => rfl
 | succ k => unfold Dv.puts; rw [if_pos h]
theorem write_up {d : Dv} {s a : Nat} {t : Bs} (hu : d.down = false) (hw : (d.write s a t).1 = true) : (d.write s a t).2.down = false := by
 unfold Dv.write at hw ⊢;rw [hu] at hw ⊢;simp only [Bool.false_eq_true, if_false] at hw ⊢;unfold Dv.step at hw ⊢;have e : (d.wrote s a t).down = false := hu;split at hw
 ·rename_i h; rw [if_pos h]; exact e
 ·rename_i h; rw [if_neg h];simp only [decide_eq_true_eq] at hw;exact decide_eq_false hw
theorem write_way (d : Dv) (s a : Nat) (t : Bs) : (d.write s a t).2.way.length ≤ d.way.length + 1 := by
 unfold Dv.write;split
 ·exact Nat.le_succ _
 ·rw [Dv.step_same];show (if s ∈ d.way then d.way else d.way ++ [s]).length ≤ _;split
  ·omega
  ·simp
structure Putting (B db : Nat) (F : Nat → Prop) (w : World) (R : Bool × Dv) (b n : Nat) (text : Bs) (L : Nat) (wx : World) (k a : Nat) (t : Bs) (d : Dv) : Prop where
 eq : R = Dv.puts k d a t
 drv : DrvTo w B db F d wx
 ok : d.ok
 len : d.stable.length = L
 up : d.down = false
 rest : t = text.drop (a - b)
 ge : b ≤ a
 all : a + t.length = b + n
 fuel : t.length ≤ k
 way : d.way.length ≤ 1000 + (a - b)
theorem Putting.next {B db : Nat} {F : Nat → Prop} {w : World} {R : Bool × Dv} {b n : Nat} {text : Bs} {L : Nat} {wx w2 : World} {k a c : Nat} {t : Bs} {d : Dv} (h : Putting B db F w R b n text L wx (k + 1) a t d) (hL : b + n ≤ L) (htp : 0 < t.length) (hc : chunk a t.length = c)
  (hd : DrvTo w B db F (d.write (a / 32) a (t.take c)).2 w2) (hok : (d.write (a / 32) a (t.take c)).1 = true) : Putting B db F w R b n text L w2 k (a + c) (t.drop c) (d.write (a / 32) a (t.take c)).2 := by
 have hall := h.all;have hf := h.fuel;have hge := h.ge;have hw := h.way;have hcl := chunk_le a t.length;have hcp := chunk_pos (a := a) htp;rw [hc] at hcl hcp;have h32 := h.ok.size.1;have hlen := h.len;refine ⟨?_, hd, ?_, (Dv.write_stable _ _ _ _).symm ▸ h.len, write_up h.up hok, ?_, by omega, ?_, ?_, ?_⟩
 ·rw [h.eq, ← hc]; rw [← hc] at hok; exact puts_more htp hok
 ·refine Dv.write_ok h.ok (by omega) (by rw [List.length_take]; omega)
 ·rw [h.rest, List.drop_drop]; congr 1; omega
 ·rw [List.length_drop]; omega
 ·rw [List.length_drop]; omega
 ·have := write_way d (a / 32) a (t.take c);omega
theorem put_drive (db B : Nat) (F : Nat → Prop) (d : Dv) (G : Gl) (b : Nat) (text : Bs) (w : World) (h : DrvAt w B db F d) (hok : d.ok) (hu : d.down = false) (hb : b + text.length ≤ d.stable.length) (hw : d.way.length ≤ 1000) (hG : Glob B G w) :
  Calls Tryz.prog 260 #[.pointer (some ⟨db, 0, none⟩), .int .i64 b, .string (ofL text)] w fun e w' => e = .returned (downV (errV G.down) (d.put b text).1) ∧ DrvTo w B db F (d.put b text).2 w' := by
 have HS : Hid (d.stable.length ≤ 6400 ∧ b + text.length ≤ d.stable.length) := ⟨hok.size.2.2, hb⟩;have HP : Hid (Putting B db F w (d.put b text) b text.length text d.stable.length w text.length b text d) := ⟨rfl, DrvTo.same h, hok, rfl, hu, by simp, Nat.le_refl _, rfl, Nat.le_refl _, by omega⟩;have HG : Hid (Glob B G w) := hG;have HF : Hid (∀ b, F b → B ≤ b ∧ b < w.heap.size) := fun b hb => h.foot hb;generalize d.put b text = R at *
 generalize d.stable.length = L at *
 clear h hok hu hw hG;generalize htl : text.length = n at *
 have HTL : Hid (text.length = n) := htl;have hsz : (ofL text).size = n := by rw [ofL_size]; exact htl
 have hnb : (b : Int) + n ≤ 6400 := by have := HS.out; omega
 clear htl hb;go_enter Tryz.func260, Tryz.ntmps260;go_wp2_with fail
 go_loopw [7] (fun av wx => ∃ (k a : Nat) (t : Bs) (d1 : Dv), av = .int .i64 a ∧ a ≤ b + n ∧ Hid (Putting B db F w R b n text L wx k a t d1)) (fun av _ => b + n - (intOf av).toNat)
 case atStart => exact ⟨n, b, text, d, rfl, by omega, HP.out⟩
 case round =>
  obtain ⟨k, a, t, d1, rfl, hab, HQ⟩ := hrel;by_cases hlt : a < b + n
  ·have htp : 0 < t.length := by have := HQ.out.all; omega
   obtain ⟨k0, rfl⟩ : ∃ k0, k = k0 + 1 := ⟨k - 1, by have := HQ.out.fuel; omega⟩;have hc := chunk_le a t.length;have hcp := chunk_pos (a := a) htp;have hba := HQ.out.ge;have hall := HQ.out.all;have HC : Hid (chunk a t.length = min (32 - a % 32) t.length) := rfl;generalize hcc : chunk a t.length = c at *
   have HCC : Hid (chunk a t.length = c) := hcc;have hmin : min (((a : Int) / 32 + 1) * 32) ((b : Int) + n) = ((a + c : Nat) : Int) := by
    have := HC.out; omega
   have HEX : Hid ((ofL text).extract (a - b) (a + c - b) = ofL (t.take c)) := by
    show _ = _;rw [extract_ofL, HQ.out.rest, show a + c - b - (a - b) = c by omega]
   clear hcc;go_wp2_with fail;rw [show (a : Int) / 32 = ((a / 32 : Nat) : Int) from rfl, HEX.out];clear hmin;obtain ⟨F1, ha1, hf1, hF1⟩ := HQ.out.drv;have HG1 : Hid (Glob B G wr) := HG.out.fr hf1 (fun b hb => (HF.out b hb).1);refine (dwrite_any db B F1 d1 G (a / 32) a (t.take c) _ ha1 HQ.out.up (by rw [List.length_take]; omega) (by rw [HQ.out.ok.wsize, HQ.out.len, List.length_take]; have := HS.out; omega) (by have := HQ.out.way; have := HS.out; omega) HG1.out).mono ?_;rintro e w2 ⟨rfl, hd2⟩;have HD2 : Hid (DrvTo w B db F (d1.write (a / 32) a (t.take c)).2 w2) := DrvTo.trans hf1 hF1 hd2;clear hd2 ha1 hf1 hF1;by_cases hok : (d1.write (a / 32) a (t.take c)).1 = true
   ·rw [hok];have HOK : Hid ((d1.write (a / 32) a (t.take c)).1 = true) := hok;clear hok;unfold downV;go_wp2_with fail
    go_round
    case rel => exact ⟨k0, a + c, t.drop c, _, by go_num, by omega, HQ.out.next HS.out.2 htp HCC.out HD2.out HOK.out⟩
    case measure => simp [intOf]; omega
   ·rw [Bool.eq_false_iff.2 hok];have HOK : Hid (¬ (d1.write (a / 32) a (t.take c)).1 = true) := hok;clear hok;unfold downV errV;go_wp2_with fail;go_ret;have := HQ.out.eq;rw [puts_broke htp (by rw [HCC.out]; exact Bool.eq_false_iff.2 HOK.out), HCC.out] at this;rw [this];exact ⟨rfl, HD2.out⟩
  ·go_wp2_with fail;go_ret;have e0 : t.length = 0 := by have := HQ.out.all; omega
   have := HQ.out.eq;rw [puts_none e0] at this;rw [this];exact ⟨rfl, HQ.out.drv⟩
end Go.Proofs.YtmnajomkfnkmeaaGreatDoor
namespace Go.Proofs.YtmnajomkfnkmeaaGreatDoor
open Go.RowKit Go.Conc
attribute [local go_sem] ofL_size
theorem flush_no' {d : Dv} (h : d.step.1 = false) : d.flush = (false, d.step.2) := by unfold Dv.flush; rw [if_neg (by rw [h]; decide)]
theorem flush_go {d : Dv} (h : d.step.1 = true) : d.flush = (true, { d.step.2 with stable := syncB d.written d.way d.stable, way := [] }) := by unfold Dv.flush; rw [if_pos h]
structure Flushing (w : World) (B db cb sb wb : Nat) (uv : Value) (c1 c2 : Nat) (d : Dv) (wx : World) (k : Nat) (st : Bs) : Prop where
 drv : DrvP wx B db cb sb wb uv c1 c2 { d with stable := st }
 fr : Fr (dfoot db cb sb wb uv) w wx
 eq : syncB d.written d.way d.stable = syncB d.written (d.way.drop k) st
 len : st.length = d.stable.length
theorem Flushing.next {w : World} {B db cb sb wb : Nat} {uv : Value} {c1 c2 : Nat} {d : Dv} {wx w2 : World} {k : Nat} {st : Bs} (h : Flushing w B db cb sb wb uv c1 c2 d wx k st) (hok : d.ok) (hk : k < d.way.length)
  (hy : By w2 sb (laidB st (32 * d.way[k]) ((d.written.drop (32 * d.way[k])).take 32))) (hf : Fr (· = sb) wx w2) : Flushing w B db cb sb wb uv c1 c2 d w2 (k + 1) (laidB st (32 * d.way[k]) ((d.written.drop (32 * d.way[k])).take 32)) := by
 have hin := hok.way d.way[k] (List.getElem_mem hk);have hx : ((d.written.drop (32 * d.way[k])).take 32).length = 32 := by rw [List.length_take, List.length_drop, hok.wsize]; omega
 have hl : (laidB st (32 * d.way[k]) ((d.written.drop (32 * d.way[k])).take 32)).length = st.length := laidB_length (by rw [hx, h.len]; exact hin);have hp := h.drv;obtain ⟨n1, n2, n3, n4, n5, n6⟩ := hp.ne;refine ⟨⟨?_, ?_, hp.chan.kept hf n2, hy, hp.written.kept hf (fun e => n1 e.symm), hp.way.kept hf (fun b hb e => (hp.own b hb).2.2.1 e), hp.ne, hp.own, hp.ge, hp.fuse⟩, h.fr.trans hf (fun b _ e => Or.inr (Or.inr (Or.inl e))), ?_, hl.trans h.len⟩
 ·show Blk w2 db (drvA cb d.fuse (byS sb (laidB st (32 * d.way[k]) ((d.written.drop (32 * d.way[k])).take 32)).length c1) _ uv) _;rw [hl]; exact hp.blk.kept hf n4
 ·show (laidB st (32 * d.way[k]) ((d.written.drop (32 * d.way[k])).take 32)).length ≤ c1 ∧ _;rw [hl]; exact hp.caps
 ·rw [h.eq, List.drop_eq_getElem_cons hk]; rfl
theorem Flushing.done {w : World} {B db cb sb wb q cap : Nat} {c1 c2 : Nat} {d : Dv} {wx : World} {st : Bs} (h : Flushing w B db cb sb wb (.slice (some ⟨q, 0, none⟩) d.way.length cap) c1 c2 d wx d.way.length st) :
  DrvTo w B db (dfoot db cb sb wb (.slice (some ⟨q, 0, none⟩) d.way.length cap)) { d with stable := syncB d.written d.way d.stable, way := [] } (wx.setCell ⟨db, 4, none⟩ (.slice (some ⟨q, 0, none⟩) 0 cap)) := by
 have hp := h.drv;obtain ⟨n1, n2, n3, n4, n5, n6⟩ := hp.ne;have hs : syncB d.written d.way d.stable = st := by rw [h.eq, List.drop_of_length_le (Nat.le_refl _)]; rfl
 have hf : Fr (· = db) wx (wx.setCell ⟨db, 4, none⟩ (.slice (some ⟨q, 0, none⟩) 0 cap)) := (Fr.refl (· = db) wx).setCell ⟨db, 4, none⟩ (fun _ => rfl) _;rw [hs];refine ⟨dfoot db cb sb wb (.slice (some ⟨q, 0, none⟩) 0 cap), ⟨cb, sb, wb, .slice (some ⟨q, 0, none⟩) 0 cap, c1, c2, ⟨?_, hp.caps, hp.chan.kept hf (fun e => n6 e.symm), hp.stable.kept hf (fun e => n4 e.symm), hp.written.kept hf (fun e => n5 e.symm), ?_, hp.ne, fun b hb => hp.own b hb, hp.ge, hp.fuse⟩, fun b => Iff.rfl⟩, h.fr.trans hf (fun b _ e => Or.inl e), fun b hb => Or.inl hb⟩
 ·have := hp.blk.set 4 (.slice (some ⟨q, 0, none⟩) 0 cap);exact this
 ·have hw : WO wx (.slice (some ⟨q, 0, none⟩) d.way.length cap) d.way := hp.way;exact hw.emptied.kept hf (fun b hb e => (hp.own b hb).1 e)
theorem flushed_nil {w : World} {B db cb sb wb : Nat} {c1 c2 : Nat} {d : Dv} (hp : DrvP w B db cb sb wb (.slice none 0 0) c1 c2 d) (hw : d.way = []) :
  DrvTo w B db (dfoot db cb sb wb (.slice none 0 0)) { d with stable := syncB d.written d.way d.stable, way := [] } (w.setCell ⟨db, 4, none⟩ (.slice none 0 0)) := by
 obtain ⟨n1, n2, n3, n4, n5, n6⟩ := hp.ne;have hs : syncB d.written d.way d.stable = d.stable := by rw [hw]; rfl
 have hf : Fr (· = db) w (w.setCell ⟨db, 4, none⟩ (.slice none 0 0)) := (Fr.refl (· = db) w).setCell ⟨db, 4, none⟩ (fun _ => rfl) _;rw [hs];refine ⟨dfoot db cb sb wb (.slice none 0 0), ⟨cb, sb, wb, .slice none 0 0, c1, c2, ⟨?_, hp.caps, hp.chan.kept hf (fun e => n6 e.symm), hp.stable.kept hf (fun e => n4 e.symm), hp.written.kept hf (fun e => n5 e.symm), WO.nil _, hp.ne, fun b hb => hp.own b hb, hp.ge, hp.fuse⟩, fun b => Iff.rfl⟩, hf.mono (fun b _ e => Or.inl e), fun b hb => Or.inl hb⟩;have := hp.blk.set 4 (.slice none 0 0);exact this
theorem DrvTo.onto {w w1 w2 : World} {B db cb sb wb : Nat} {uv : Value} {F : Nat → Prop} {d : Dv} (hf : Fr F w w1) (hn : ∀ b, dfoot db cb sb wb uv b → F b ∨ w.heap.size ≤ b) (h2 : DrvTo w1 B db (dfoot db cb sb wb uv) d w2) : DrvTo w B db F d w2 := DrvTo.trans hf hn h2
theorem flush_any (db B : Nat) (F : Nat → Prop) (d : Dv) (G : Gl) (w : World) (h : DrvAt w B db F d) (hok : d.ok) (hG : Glob B G w) :
  Calls Tryz.prog 259 #[.pointer (some ⟨db, 0, none⟩)] w fun e w' => e = .returned (downV (errV G.down) d.flush.1) ∧ DrvTo w B db F d.flush.2 w' := by
 have HH : Hid (DrvAt w B db F d) := h;have HOK : Hid d.ok := hok;have HS : Hid d.step.2.ok := Dv.step_ok hok;by_cases hst : d.step.1 = true
 ·have hfl := flush_go hst;have hss := Dv.step_same d;have e1 : d.step.2.written = d.written := by rw [hss]
  have e2 : d.step.2.way = d.way := by rw [hss]
  have e3 : d.step.2.stable = d.stable := by rw [hss]
  have HR : Hid (d.flush = (true, { d.step.2 with stable := syncB d.step.2.written d.step.2.way d.step.2.stable, way := [] })) := by
   show _ = _;rw [hfl, e1, e2, e3]
  clear hfl e1 e2 e3 hss h;go_enter Tryz.func259, Tryz.ntmps259;go_wp2_with fail;refine (dstep_any db B F d G _ HH.out hok.fuse hG).mono ?_;rintro e w1 ⟨rfl, hd1⟩;rw [hst];have HD1 : Hid (DrvTo w B db F d.step.2 w1) := hd1;clear hd1 hst HH hok hG HOK;generalize d.step.2 = d1 at *
  obtain ⟨F1, ⟨cb, sb, wb, uv, c1, c2, hp, hF1⟩, hf1, hn1⟩ := HD1.out;have k4 : w1.cell? ⟨db, 4, none⟩ = some uv := Blk.cell hp.blk 4;have f4 : w1.frozen? ⟨db, 4, none⟩ = false := Blk.frozen hp.blk 4;have HP : Hid (DrvP w1 B db cb sb wb uv c1 c2 d1) := hp;have HF1 : Hid (∀ b, F1 b ↔ dfoot db cb sb wb uv b) := hF1;have HF : Hid (Fr F w w1) := hf1;have HN : Hid (∀ b, F1 b → F b ∨ w.heap.size ≤ b) := hn1;clear hp hF1 hf1 hn1 HD1;unfold downV;rcases HP.out.way.cases with ⟨rfl, hw0⟩ | ⟨q, cap, cur, rfl, hb, hn, hm, hc, ht⟩
  ·go_wp2_with fail;refine wp_loop_rounds 1 ?_;rw [rounds_succ];go_wp2_with fail;go_ret;have hw0 : d1.way = [] := hw0;rw [HR.out];exact ⟨rfl, DrvTo.onto HF.out (fun b hb => HN.out b ((HF1.out b).2 hb)) (flushed_nil HP.out hw0)⟩
  ·have HM : Hid (d1.way.length ≤ cap ∧ cap ≤ maxLen) := ⟨hn, hm⟩;clear hb hn hm hc ht cur;have HFL : Hid (Flushing w1 B db cb sb wb (.slice (some ⟨q, 0, none⟩) d1.way.length cap) c1 c2 d1 w1 0 d1.stable) := ⟨HP.out, Fr.refl _ _, rfl, rfl⟩;generalize hn : d1.way.length = n at *
   have HNN : Hid (d1.way.length = n) := hn;have HSZ : Hid (d1.stable.length ≤ 6400) := HS.out.size.2.2;have hnm : n ≤ 9223372036854775807 := by have := HM.out; unfold maxLen at this; omega
   have HNM : Hid (n ≤ 9223372036854775807) := hnm;clear hn hnm;go_wp2_with fail
   go_loopw [19] (fun iv wx => ∃ (k : Nat) (st : Bs), iv = .int .i64 k ∧ k ≤ n ∧ Hid (Flushing w1 B db cb sb wb (.slice (some ⟨q, 0, none⟩) n cap) c1 c2 d1 wx k st)) (fun iv _ => n - (intOf iv).toNat)
   case atStart => exact ⟨0, d1.stable, rfl, Nat.zero_le _, HFL.out⟩
   case round =>
    obtain ⟨k, st, rfl, hk, HK⟩ := hrel;by_cases hlt : k < n
    ·have hkn : k < d1.way.length := by rw [HNN.out]; exact hlt
     have kq : wr.cell? ⟨q, k, none⟩ = some (.int .i64 (d1.way[k] : Int)) := by
      have hwo : WO wr (.slice (some ⟨q, 0, none⟩) n cap) d1.way := HK.out.drv.way;exact hwo.cell k hkn
     have hin := HS.out.way d1.way[k] (List.getElem_mem hkn);have hok := HS.out;have hp := HK.out.drv;obtain ⟨w2, hr2, hy2, hf2, hz2⟩ := (hp.stable.drew).bytes (k := 32) (p := 32 * d1.way[k]) (q := 32 * d1.way[k]) hp.written.drew (by have := HK.out.len; show 32 * d1.way[k] + 32 ≤ st.length; omega) (by show _ ≤ d1.written.length; rw [hok.wsize]; exact hin);have c2' : wr.cell? ⟨db, 2, none⟩ = some (byS sb st.length c1) := Blk.cell hp.blk 2;have c3' : wr.cell? ⟨db, 3, none⟩ = some (byS wb d1.written.length c2) := Blk.cell hp.blk 3;have HNX : Hid (Flushing w1 B db cb sb wb (.slice (some ⟨q, 0, none⟩) d1.way.length cap) c1 c2 d1 w2 (k + 1) (laidB st (32 * d1.way[k]) ((d1.written.drop (32 * d1.way[k])).take 32))) := by
      have HK' := HK.out;rw [← HNN.out] at HK';exact HK'.next HS.out hkn hy2 ((Fr.refl (· = sb) wr).drew.trans hf2 (fun _ _ h => h))
     have HIN : Hid (32 * d1.way[k] + 32 ≤ d1.stable.length) := hin;have HLN : Hid (st.length = d1.stable.length ∧ d1.written.length = d1.stable.length) := ⟨HK.out.len, hok.wsize⟩;have HCP : Hid (st.length ≤ c1 ∧ c1 ≤ maxLen ∧ d1.written.length ≤ c2 ∧ c2 ≤ maxLen) := hp.caps;have hsb : (d1.way[k] : Int) ≤ 200 := by have := HIN.out; have := HSZ.out; omega
     clear hin hok hp hy2 hf2 hz2 HK;generalize d1.way[k] = s at *
     go_wp2_with fail;have e6 : (s : Int) * 32 = ((32 * s : Nat) : Int) := by omega
     rw [e6];clear e6 kq hsb;generalize 32 * s = o at *
     have hcp := fun ty => hr2 (d1.written.length - o) 32 (c1 - o) (c2 - o) ty (by have := HIN.out; have := HLN.out; exact Nat.min_eq_right (by omega));clear hr2;have hb := HCP.out;have hl := HLN.out;have hi := HIN.out;have hz := HSZ.out;have g1 : (o : Int) + 32 ≤ c1 := by omega
     have g2 : (o : Int) ≤ d1.written.length := by omega
     have g3 : (d1.written.length : Int) ≤ c2 := by omega
     have g4 : ¬ c1 = o := by omega
     have g5 : ¬ c2 = o := by omega
     have g6 : (0 : Int) ≤ o := by omega
     have g7 : (o : Int) ≤ o + 32 := by omega
     have e1 : IntKind.i64.wrap ((o : Int) + 32) = (o : Int) + 32 := by rw [IntKind.wrap_i64]; omega
     have n1 : ((o : Int) + 32).toNat = o + 32 := by omega
     have n2 : o + 32 - o = 32 := by omega
     unfold byS at c2' c3';clear hb hl hi hz;have hnk : (n : Int) ≤ 9223372036854775807 := by have := HNM.out; omega
     go_region
     go_wp2_with fail
     go_round
     case rel =>
      have HX := HNX.out;rw [HNN.out] at HX;exact ⟨k + 1, _, by go_num, by omega, HX⟩
     case measure => simp [intOf]; omega
    ·have hk2 : k = n := by omega
     subst hk2;have hp := HK.out.drv;have k4 : wr.cell? ⟨db, 4, none⟩ = some (.slice (some ⟨q, 0, none⟩) k cap) := Blk.cell hp.blk 4;have f4 : wr.frozen? ⟨db, 4, none⟩ = false := Blk.frozen hp.blk 4;clear hp;go_wp2_with fail
     all_goals
      go_ret;rw [HR.out];refine ⟨rfl, DrvTo.onto HF.out (fun b hb => HN.out b ((HF1.out b).2 hb)) ?_⟩;have HK2 := HK.out;have hnn := HNN.out;subst hnn;exact HK2.done
 ·have hfl := flush_no' (Bool.eq_false_iff.2 hst);have HFL : Hid (d.flush = (false, d.step.2)) := hfl;clear hfl h;go_enter Tryz.func259, Tryz.ntmps259;go_wp2_with fail;refine (dstep_any db B F d G _ HH.out hok.fuse hG).mono ?_;rintro e w1 ⟨rfl, hd1⟩;rw [Bool.eq_false_iff.2 hst];have HD1 : Hid (DrvTo w B db F d.step.2 w1) := hd1;clear hd1 hst HH hok hG HOK;unfold downV errV;go_wp2_with fail;go_ret;rw [HFL.out];exact ⟨rfl, HD1.out⟩
end Go.Proofs.YtmnajomkfnkmeaaGreatDoor
namespace Go.Proofs.YtmnajomkfnkmeaaGreatDoor
open Go.RowKit Go.Conc
attribute [local go_sem] ofL_size
theorem info_u8 : (Tryz.prog.info? 5).map (fun i => (i.zero, i.size, i.bytes)) = some (some (.int .u8 0), 1, 1) := by kernel_rfl
theorem By.of_row {w : World} {g cap n : Nat} {l : Bs} (hn : n = l.length) (h : w.ownsRow 0 5 1 (.slice (some ⟨g, 0, none⟩) n cap) n (u8s l)) : By w g l := by
 rcases h.2 with ⟨h1, _⟩ | ⟨g', cap', cur, h1, _, h3, h4, h5, h6, h7⟩
 ·cases h1
 ·simp only [Value.slice.injEq, Option.some.injEq, Addr.mk.injEq, and_true] at h1;obtain ⟨rfl, _, rfl⟩ := h1;have hb : Blk w g cur 5 := h3;refine ⟨hb.lt, fun i hi => ?_, fun i hi => Blk.frozen hb i⟩;rw [Blk.cell hb];have hg : (u8s l)[i]? = some (u8V l[i]) := by unfold u8s; rw [List.getElem?_map, List.getElem?_eq_getElem hi]; rfl
  rw [← h7, List.getElem?_take, if_pos (by omega)] at hg;simpa using hg
theorem clone_bytes (b c : Nat) (l : Bs) (w : World) (h : By w b l) (hl : 0 < l.length) (hm : l.length ≤ 1000000) :
  Calls Tryz.prog 112 #[.slice (some ⟨b, 0, none⟩) l.length c] w fun e w' => ∃ g cap, e = .returned (.slice (some ⟨g, 0, none⟩) l.length cap) ∧ By w' g l ∧ w.heap.size ≤ g ∧ l.length ≤ cap ∧ cap ≤ maxLen ∧ Below w.heap.size w w' := by
 obtain ⟨i0, hi, hzz⟩ := Option.map_eq_some_iff.1 info_u8;simp only [Prod.mk.injEq] at hzz;obtain ⟨hz, hs0, hb⟩ := hzz;have HI : Hid (Tryz.prog.info? 5 = some i0) := hi;have HZ : Hid (i0.zero = some (.int .u8 0)) := hz;have HS : Hid (i0.size = 1) := hs0;have HB : Hid (i0.bytes = 1) := hb;have HY : Hid (By w b l) := h;have HLM : Hid (0 < l.length ∧ l.length ≤ 1000000) := ⟨hl, hm⟩;have qT : ∀ (w : World) (a : Option Addr) (n c n' c' : Nat), (binOp .eql 39 (.slice a n c) (.slice none n' c')).run Tryz.prog w = .ok (.bool a.isNone) w := fun w a n c n' c' => Lib.run_eql_slice_nil w _ _ a n c n' c' Tryz.underlying39;have HO : Hid (World.ownsRow (w.alloc (.cells #[] 5)) 0 5 1 (.slice (some ⟨w.heap.size, 0, none⟩) 0 0) 0 []) := ⟨rfl, Or.inr ⟨w.heap.size, 0, #[], rfl, Nat.zero_le _, Blk.new w #[] _, Nat.le_refl _, by unfold maxLen; omega, rfl, rfl⟩⟩;have HN : Hid (∀ (j : Nat) (u : Value), (u8s l)[j]? = some u → (w.alloc (.cells #[] 5)).cell? ((⟨b, 0, none⟩ : Addr).add j) = some u) := fun j u hu => by
  have hj : j < l.length := by
   have := (List.getElem?_eq_some_iff.1 hu).1
   rwa [u8s_length] at this
  have hadd : (⟨b, 0, none⟩ : Addr).add j = ⟨b, j, none⟩ := by unfold Addr.add; split <;> simp_all
  rw [hadd, (h.kept (S := fun _ => False) ((Fr.refl _ w).alloc _) (fun h => h)).cell j hj, ← hu];unfold u8s;rw [List.getElem?_map, List.getElem?_eq_getElem hj]; rfl
 have H1 : Hid (∀ u ∈ u8s l, u.oneCell' = true) := fun u hu => by obtain ⟨x, _, rfl⟩ := List.mem_map.1 hu; rfl
 have HL1 : Hid ((u8s l).length = l.length * 1) := by show _ = _; rw [u8s_length]; omega
 have H63 : Hid (0 + l.length ≤ maxLen) := by show _ ≤ _; unfold maxLen; omega
 have HBY : Hid ((0 + l.length) * 1 ≤ 140737488355328) := by show _ ≤ _; omega
 have HPB : Hid (Below w.heap.size w (w.alloc (.cells #[] 5))) := bA;clear hi hz hs0 hb h hl hm;generalize hn : l.length = n at *
 have HNL : Hid (l.length = n) := hn;clear hn;go_enter Tryz.func112, Tryz.ntmps112;go_wp2_with (at_builtin; refine wpList_append_lies _ rfl _ _ 39 rfl 0 5 i0 (.int .u8 0) 1 1 Tryz.underlying39 HI.out HZ.out HS.out HB.out rfl (by decide) _ 0 [] rfl HO.out ⟨b, 0, none⟩ n c (u8s l) rfl HL1.out HN.out H1.out HLM.out.1 H63.out HBY.out (Nat.zero_le _) _ rfl ?_; intro g cap w2 hown hgr hloc hlt);rw [Nat.zero_add, List.nil_append] at hown;have hgr : (w.alloc (.cells #[] 5)).grownBy w2 (some w.heap.size) := hgr;have hloc : some w.heap.size = some g ∨ g = (w.alloc (.cells #[] 5)).heap.size := hloc;have hsz : (w.alloc (.cells #[] 5)).heap.size = w.heap.size + 1 := by simp
 have hge : w.heap.size ≤ g := by
  rcases hloc with h | h
  ·injection h with h; omega
  ·omega
 have hcap : n ≤ cap ∧ cap ≤ maxLen := by
  rcases hown.2 with ⟨h1, _⟩ | ⟨g', cap', cur, h1, _, h3, h4, h5, h6, h7⟩
  ·cases h1
  ·simp only [Value.slice.injEq, Option.some.injEq, Addr.mk.injEq, and_true] at h1;obtain ⟨_, _, rfl⟩ := h1;exact ⟨h4, h5⟩
 refine bodyPost_ret (v := .slice (some ⟨g, 0, none⟩) n cap) (by simp [results, Tryz.results112, go_sem]) rfl ⟨g, cap, rfl, By.of_row HNL.out.symm hown, hge, hcap.1, hcap.2, ?_⟩;have hf := Fr.grownW hgr;exact HPB.out.trans (hf.below_of w.heap.size (by omega) (fun i hi e => by injection e with e; omega))
theorem i64_and1 (x : Int) : bits .and .i64 x 1 = x % 2 := by
 have h15 : (BitVec.ofInt 64 1).toNat = 2 ^ 1 - 1 := by decide
 have key : (BitVec.ofInt 64 x &&& BitVec.ofInt 64 1).toNat = (x % ((2 ^ 64 : Nat) : Int)).toNat % 2 ^ 1 := by
  rw [BitVec.toNat_and, BitVec.toNat_ofInt, h15, Nat.and_two_pow_sub_one_eq_mod]
 show IntKind.i64.wrap ((BitVec.ofInt 64 x &&& BitVec.ofInt 64 1).toNat : Nat) = x % 2;rw [key, IntKind.wrap_i64];omega
theorem hasBit_any (n : Int) (i : Nat) (w : World) :
  Calls Tryz.prog 113 #[.int .i64 n, .int .i64 i] w fun e w' => e = .returned (.bool (decide ((n / (2 ^ (min i 62) : Nat)) % 2 ≠ 0))) ∧ w' = w := by
 go_enter Tryz.func113, Tryz.ntmps113;go_wp2_with fail;go_ret;rw [i64_and1, show (min (i : Int) 62).toNat = min i 62 by omega];have key : (n / (2 : Int) ^ min i 62 % 2 == 1) = decide ((n / (2 ^ (min i 62) : Nat)) % 2 ≠ 0) := by
  rw [Bool.eq_iff_iff];simp only [beq_iff_eq, decide_eq_true_eq, ne_eq, Int.natCast_pow];show n / (2 : Int) ^ min i 62 % 2 = 1 ↔ ¬ n / (2 : Int) ^ min i 62 % 2 = 0;have := Int.emod_two_eq (n / (2 : Int) ^ min i 62);omega
 exact ⟨congrArg (fun b => Ending.returned (.bool b)) key, rfl⟩
structure Lefting (w : World) (d : Dv) (keep torn part : Int) (wx : World) (g k : Nat) (st : Bs) : Prop where
 by_ : By wx g st
 below : Below w.heap.size w wx
 eq : d.left keep torn part = leftAux keep torn part k st ((d.way.drop k).map fun s => slice d.written (32 * s))
 len : st.length = d.stable.length
theorem Lefting.next {w : World} {d : Dv} {keep torn part : Int} {wx w2 : World} {g k m : Nat} {st : Bs} (h : Lefting w d keep torn part wx g k st) (hg : w.heap.size ≤ g) (hok : d.ok) (hk : k < d.way.length)
  (hy : By w2 g (laidB st (32 * d.way[k]) ((d.written.drop (32 * d.way[k])).take m))) (hf : Fr (· = g) wx w2) (hm : m ≤ 32)
  (he : m = if (k : Int) = torn then clampP part else if (keep / (2 ^ (min k 62) : Nat)) % 2 ≠ 0 then 32 else 0) :
  Lefting w d keep torn part w2 g (k + 1) (laidB st (32 * d.way[k]) ((d.written.drop (32 * d.way[k])).take m)) := by
 have hin := hok.way d.way[k] (List.getElem_mem hk);have hx : ((d.written.drop (32 * d.way[k])).take m).length = m := by rw [List.length_take, List.length_drop, hok.wsize]; omega
 refine ⟨hy, h.below.trans (hf.below_of _ h.below.size (fun i hi e => by omega)), ?_, ?_⟩
 ·rw [h.eq, List.drop_eq_getElem_cons hk, List.map_cons, leftAux_cons];congr 1;show (if (k : Int) = torn then laidB st (32 * d.way[k]) (((d.written.drop (32 * d.way[k])).take 32).take (clampP part)) else if (keep / (2 ^ (min k 62) : Nat)) % 2 ≠ 0 then laidB st (32 * d.way[k]) ((d.written.drop (32 * d.way[k])).take 32) else st) = _;rw [he];split
  ·rw [List.take_take, show min (clampP part) 32 = clampP part by unfold clampP; omega]
  ·split
   ·rfl
   ·rw [List.take_zero, laidB_nil]
 ·rw [laidB_length (by rw [hx, h.len]; omega), h.len]
theorem left_any (db B : Nat) (F : Nat → Prop) (d : Dv) (keep torn part : Int) (w : World) (h : DrvAt w B db F d) (hok : d.ok) (h0 : -9223372036854775808 ≤ keep ∧ keep ≤ 9223372036854775807) (h2 : -9223372036854775808 ≤ part ∧ part ≤ 9223372036854775807) :
  Calls Tryz.prog 61 #[.pointer (some ⟨db, 0, none⟩), .int .i64 keep, .int .i64 torn, .int .i64 part] w fun e w' => e = .returned (.string (ofL (d.left keep torn part))) ∧ Below w.heap.size w w' := by
 obtain ⟨cb, sb, wb, uv, c1, c2, hp, hF⟩ := h;have hsz := hok.size;have k2 : w.cell? ⟨db, 2, none⟩ = some (byS sb d.stable.length c1) := Blk.cell hp.blk 2;have HP : Hid (DrvP w B db cb sb wb uv c1 c2 d) := hp;have HOK : Hid d.ok := hok;have HKB : Hid (-9223372036854775808 ≤ keep ∧ keep ≤ 9223372036854775807) := h0;unfold byS at k2;clear hp hok hF h0;go_enter Tryz.func61, Tryz.ntmps61;go_wp2_with fail;refine (clone_bytes sb c1 d.stable _ HP.out.stable (by have := hsz.2.1; omega) (by have := hsz.2.2; omega)).mono ?_;rintro e w1 ⟨g, cap, rfl, hy, hg, hc1, hc2, hb1⟩;have HL : Hid (Lefting w d keep torn part w1 g 0 d.stable) := ⟨hy, hb1, rfl, rfl⟩;have HG : Hid (w.heap.size ≤ g ∧ d.stable.length ≤ cap ∧ cap ≤ maxLen) := ⟨hg, hc1, hc2⟩;have k4 : w1.cell? ⟨db, 4, none⟩ = some uv := Blk.cell (HP.out.blk.below hb1) 4;clear hy hg hc1 hc2 hb1 k2;rcases HP.out.way.cases with ⟨rfl, hw0⟩ | ⟨q, cap0, cur, rfl, hb, hn, hm, hc, ht⟩
 ·have ht := By.text (cap := cap) HL.out.by_;have HE : Hid (d.left keep torn part = d.stable) := by
   have := HL.out.eq;rw [show d.way = [] from hw0] at this;exact this
  go_wp2_with fail;refine wp_loop_rounds 1 ?_;rw [rounds_succ];go_wp2_with fail;go_ret;rw [HE.out];exact ⟨rfl, HL.out.below⟩
 ·have HM : Hid (d.way.length ≤ cap0 ∧ cap0 ≤ maxLen) := ⟨hn, hm⟩;clear hb hn hm hc ht cur;have HWC : Hid (∀ i (hi : i < d.way.length), w.cell? ⟨q, i, none⟩ = some (.int .i64 (d.way[i] : Int))) := WO.cell HP.out.way;have hq : q < w.heap.size := HP.out.way.lt q rfl;have hdw : db < w.heap.size := HP.out.blk.lt;have HHD : Hid (w.cell? ⟨db, 3, none⟩ = some (byS wb d.written.length c2)) := Blk.cell HP.out.blk 3;have HWY : Hid (By w wb d.written) := HP.out.written;have HCC : Hid (d.written.length ≤ c2) := HP.out.caps.2.2.1;clear HP;obtain ⟨n, hn⟩ : ∃ n, n = d.way.length := ⟨_, rfl⟩;rw [← hn] at k4;have HNN : Hid (d.way.length = n) := hn.symm;have hnm : n ≤ 9223372036854775807 := by have := HM.out; unfold maxLen at this; omega
  have HNM : Hid (n ≤ 9223372036854775807) := hnm;clear hn hnm;go_wp2_with fail
  go_loopw [24] (fun iv wx => ∃ (k : Nat) (st : Bs), iv = .int .i64 k ∧ k ≤ n ∧ Hid (Lefting w d keep torn part wx g k st)) (fun iv _ => n - (intOf iv).toNat)
  case atStart => exact ⟨0, d.stable, rfl, Nat.zero_le _, HL.out⟩
  case round =>
   obtain ⟨k, st, rfl, hk, HK⟩ := hrel;by_cases hlt : k < n
   ·have hkn : k < d.way.length := by rw [HNN.out]; exact hlt
    have kq : wr.cell? ⟨q, k, none⟩ = some (.int .i64 (d.way[k] : Int)) := (below_cell HK.out.below hq).trans (HWC.out k hkn);have c3 : wr.cell? ⟨db, 3, none⟩ = some (byS wb d.written.length c2) := (below_cell HK.out.below hdw).trans HHD.out;unfold byS at c3;have HIN : Hid (32 * d.way[k] + 32 ≤ d.stable.length) := HOK.out.way d.way[k] (List.getElem_mem hkn);have HCP : Hid (st.length = d.stable.length ∧ d.stable.length ≤ cap ∧ d.written.length ≤ c2) := ⟨HK.out.len, HG.out.2.1, HCC.out⟩;have HWS : Hid (d.written.length = d.stable.length) := HOK.out.wsize;have hsb : (d.way[k] : Int) ≤ 200 := by have := HIN.out; have := hsz.2.2; omega
    by_cases htn : (k : Int) = torn
    ·obtain ⟨m, hmm⟩ : ∃ m, m = clampP part := ⟨_, rfl⟩;have hm32 : m ≤ 32 := by rw [hmm]; unfold clampP; omega
     obtain ⟨w2, hr2, hy2, hf2, hz2⟩ := (HK.out.by_.drew).bytes (k := m) (p := 32 * d.way[k]) (q := 32 * d.way[k]) (((HWY.out.kept (S := fun _ => False) ((HK.out.below.mono (Nat.le_refl _)) |> Fr.of_below) (fun h => h))).drew) (by have := HIN.out; have := HCP.out; omega) (by have := HIN.out; have := HWS.out; omega);have HNX : Hid (Lefting w d keep torn part w2 g (k + 1) (laidB st (32 * d.way[k]) ((d.written.drop (32 * d.way[k])).take m))) := HK.out.next HG.out.1 HOK.out hkn hy2 ((Fr.refl (· = g) wr).drew.trans hf2 (fun _ _ h => h)) hm32 (by rw [if_pos htn]; exact hmm);clear hy2 hf2 hz2;generalize d.way[k] = s at *
     have hmx : min (max part 0) 32 = (m : Int) := by rw [hmm]; unfold clampP; omega
     clear hmm;subst htn;go_wp2_with fail;have e6 : (s : Int) * 32 = ((32 * s : Nat) : Int) := by omega
     rw [e6];clear e6 kq hsb;generalize 32 * s = o at *
     have hcp := fun ty => hr2 (d.written.length - o) m (cap - o) (c2 - o) ty (by have := HIN.out; have := HWS.out; exact Nat.min_eq_right (by omega));clear hr2;have hi := HIN.out;have hb := HCP.out;have hws := HWS.out;have g1 : (o : Int) + m ≤ cap := by omega
     have g2 : (o : Int) ≤ d.written.length := by omega
     have g3 : (d.written.length : Int) ≤ c2 := by omega
     have g4 : ¬ cap = o := by omega
     have g5 : ¬ c2 = o := by omega
     have g6 : (0 : Int) ≤ o := by omega
     have g7 : (o : Int) ≤ o + m := by omega
     have e1 : IntKind.i64.wrap ((o : Int) + m) = (o : Int) + m := by have := hsz.2.2; rw [IntKind.wrap_i64]; omega
     have n1 : ((o : Int) + m).toNat = o + m := by omega
     have n2 : o + m - o = m := by omega
     have hnk : (n : Int) ≤ 9223372036854775807 := by have := HNM.out; omega
     clear hb hi hws
     go_region
     go_wp2_with fail
     go_round
     case rel => exact ⟨k + 1, _, by go_num, by omega, HNX.out⟩
     case measure => simp [intOf]; omega
    ·have hne : ((k : Int) == torn) = false := by rw [Bool.eq_false_iff]; intro h; rw [beq_iff_eq] at h; exact htn h
     by_cases hbt : (keep / (2 ^ (min k 62) : Nat)) % 2 ≠ 0
     ·obtain ⟨m, hmm⟩ : ∃ m, m = 32 := ⟨_, rfl⟩;have hm32 : m ≤ 32 := by omega
      obtain ⟨w2, hr2, hy2, hf2, hz2⟩ := (HK.out.by_.drew).bytes (k := m) (p := 32 * d.way[k]) (q := 32 * d.way[k]) (((HWY.out.kept (S := fun _ => False) ((HK.out.below.mono (Nat.le_refl _)) |> Fr.of_below) (fun h => h))).drew) (by have := HIN.out; have := HCP.out; omega) (by have := HIN.out; have := HWS.out; omega);have HNX : Hid (Lefting w d keep torn part w2 g (k + 1) (laidB st (32 * d.way[k]) ((d.written.drop (32 * d.way[k])).take m))) := HK.out.next HG.out.1 HOK.out hkn hy2 ((Fr.refl (· = g) wr).drew.trans hf2 (fun _ _ h => h)) hm32 (by rw [if_neg htn, if_pos hbt]; exact hmm);clear hy2 hf2 hz2;generalize d.way[k] = s at *
      have HBT : Hid (decide ((keep / (2 ^ (min k 62) : Nat)) % 2 ≠ 0) = true) := decide_eq_true hbt;clear hbt;subst hmm;go_wp2_with fail;refine (hasBit_any keep k _).mono ?_;rintro e w3 ⟨rfl, rfl⟩;rw [HBT.out];go_wp2_with fail;have e6 : (s : Int) * 32 = ((32 * s : Nat) : Int) := by omega
      rw [e6];clear e6 kq hsb;generalize 32 * s = o at *
      have hcp := fun ty => hr2 (d.written.length - o) 32 (cap - o) (c2 - o) ty (by have := HIN.out; have := HWS.out; exact Nat.min_eq_right (by omega));clear hr2;have hi := HIN.out;have hb := HCP.out;have hws := HWS.out;have g1 : (o : Int) + 32 ≤ cap := by omega
      have g2 : (o : Int) ≤ d.written.length := by omega
      have g3 : (d.written.length : Int) ≤ c2 := by omega
      have g4 : ¬ cap = o := by omega
      have g5 : ¬ c2 = o := by omega
      have g6 : (0 : Int) ≤ o := by omega
      have g7 : (o : Int) ≤ o + 32 := by omega
      have e1 : IntKind.i64.wrap ((o : Int) + 32) = (o : Int) + 32 := by have := hsz.2.2; rw [IntKind.wrap_i64]; omega
      have n1 : ((o : Int) + 32).toNat = o + 32 := by omega
      have n2 : o + 32 - o = 32 := by omega
      have hnk : (n : Int) ≤ 9223372036854775807 := by have := HNM.out; omega
      clear hb hi hws
      go_region
      go_wp2_with fail
      go_round
      case rel => exact ⟨k + 1, _, by go_num, by omega, HNX.out⟩
      case measure => simp [intOf]; omega
     ·skip
      obtain ⟨m, hmm⟩ : ∃ m, m = 0 := ⟨_, rfl⟩;have hm32 : m ≤ 32 := by omega
      obtain ⟨w2, hr2, hy2, hf2, hz2⟩ := (HK.out.by_.drew).bytes (k := m) (p := 32 * d.way[k]) (q := 32 * d.way[k]) (((HWY.out.kept (S := fun _ => False) ((HK.out.below.mono (Nat.le_refl _)) |> Fr.of_below) (fun h => h))).drew) (by have := HIN.out; have := HCP.out; omega) (by have := HIN.out; have := HWS.out; omega);have HNX : Hid (Lefting w d keep torn part w2 g (k + 1) (laidB st (32 * d.way[k]) ((d.written.drop (32 * d.way[k])).take m))) := HK.out.next HG.out.1 HOK.out hkn hy2 ((Fr.refl (· = g) wr).drew.trans hf2 (fun _ _ h => h)) hm32 (by rw [if_neg htn, if_neg hbt]; exact hmm);clear hy2 hf2 hz2;generalize d.way[k] = s at *
      have HBT : Hid (decide ((keep / (2 ^ (min k 62) : Nat)) % 2 ≠ 0) = false) := decide_eq_false hbt;clear hbt;subst hmm;go_wp2_with fail;refine (hasBit_any keep k _).mono ?_;rintro e w3 ⟨rfl, rfl⟩;rw [HBT.out];go_wp2_with fail;have e6 : (s : Int) * 32 = ((32 * s : Nat) : Int) := by omega
      rw [e6];clear e6 kq hsb;generalize 32 * s = o at *
      have hcp := fun ty => hr2 (d.written.length - o) 0 (cap - o) (c2 - o) ty (by have := HIN.out; have := HWS.out; exact Nat.min_eq_right (by omega));clear hr2;have hi := HIN.out;have hb := HCP.out;have hws := HWS.out;have g1 : (o : Int) ≤ cap := by omega
      have g2 : (o : Int) ≤ d.written.length := by omega
      have g3 : (d.written.length : Int) ≤ c2 := by omega
      have g4 : ¬ cap = o := by omega
      have g5 : ¬ c2 = o := by omega
      have g6 : (0 : Int) ≤ o := by omega
      have e1 : IntKind.i64.wrap (o : Int) = (o : Int) := by have := hsz.2.2; rw [IntKind.wrap_i64]; omega
      have hnk : (n : Int) ≤ 9223372036854775807 := by have := HNM.out; omega
      clear hb hi hws
      go_region
      go_wp2_with fail
      go_round
      case rel => exact ⟨k + 1, _, by go_num, by omega, HNX.out⟩
      case measure => simp [intOf]; omega
   ·have hk2 : k = n := by omega
    subst hk2;have ht := By.text (cap := cap) HK.out.by_;have HE : Hid (d.left keep torn part = st) := by
     have := HK.out.eq;rw [← HNN.out, List.drop_of_length_le (Nat.le_refl _)] at this;exact this
    have hln : st.length = d.stable.length := HK.out.len;rw [hln] at ht;go_wp2_with fail;go_ret;rw [HE.out];exact ⟨rfl, HK.out.below⟩
end Go.Proofs.YtmnajomkfnkmeaaGreatDoor
