import Derived.Test.YtmnajomkfnkmeaaGreatDoorRefK
import Derived.Deep.DeepCutAuto
import Derived.Deep.RegionLaw
import Derived.Deep.AppendLies
set_option maxRecDepth 100000
set_option maxHeartbeats 8000000
namespace Go.Proofs.YtmnajomkfnkmeaaGreatDoor
open Go.RowKit
attribute [local go_sem] ofL_size
theorem info_write : (Tryz.prog.info? 145).map (fun i => (i.zero, i.size, i.bytes)) = some (some (.agg #[.int .i64 0, .string ⟨#[]⟩]), 2, 24) := by kernel_rfl
theorem wo_slice {w : World} {s : Value} {l : List (Nat × Bs)} (h : WYO w s l) : ∃ a c, s = .slice a l.length c := by
 rcases h.cases with ⟨h1, h2⟩ | ⟨q, cap, h1, _⟩
 ·exact ⟨none, 0, by rw [h1, h2]; rfl⟩
 ·exact ⟨_, cap, h1⟩
theorem wr_push {w : World} {sv : Value} {l : List (Nat × Bs)} {n : Nat} (h : WYO w sv l) (hn : l.length = n) (hle : n ≤ 1000) (x : Nat × Bs) :
  ∃ i0, Tryz.prog.info? 145 = some i0 ∧ i0.zero = some (.agg #[.int .i64 0, .string ⟨#[]⟩]) ∧ i0.size = 2 ∧ i0.bytes = 24 ∧ ((w.alloc (.cells #[.int .i64 x.1, .string (ofL x.2)] 145)).drew).ownsRow 0 145 2 sv n (flatV wrV l) ∧
   (∀ (j : Nat) (u : Value), (wrV x)[j]? = some u → ((w.alloc (.cells #[.int .i64 x.1, .string (ofL x.2)] 145)).drew).cell? ((⟨w.heap.size, 0, none⟩ : Addr).add j) = some u) ∧ (∀ u ∈ wrV x, u.oneCell' = true) ∧ n + 1 ≤ maxLen ∧ (n + 1) * 24 ≤ 140737488355328 := by
 obtain ⟨i0, hi, hzz⟩ := Option.map_eq_some_iff.1 info_write;simp only [Prod.mk.injEq] at hzz;obtain ⟨hz, hs0, hb⟩ := hzz;have ho : WYO (w.alloc (.cells #[.int .i64 x.1, .string (ofL x.2)] 145)) sv l := h.below (bA);unfold WYO Own at ho;rw [hn] at ho;refine ⟨i0, hi, hz, hs0, hb, ho, World.news_of_block (Blk.new w #[.int .i64 x.1, .string (ofL x.2)] 145), fun u hu => ?_, by unfold maxLen; omega, by omega⟩;simp only [wrV, List.mem_cons, List.not_mem_nil, or_false] at hu;rcases hu with rfl | rfl <;> rfl
theorem Bnd.with_way {m : Kp} (h : Bnd m) (l : List (Nat × Bs)) (hn : l.length ≤ 1000) : Bnd { m with way := l } := ⟨h.wf, h.secret, h.idle, h.abs, h.now, h.drawn, h.size, h.gen, h.reg, h.slot, h.endp, h.next, h.fuse, hn⟩
theorem Bnd.with_disk {m : Kp} (h : Bnd m) (d : Bs) (hd : okSize d.length) : Bnd { m with disk := d, way := [] } := ⟨h.wf, h.secret, h.idle, h.abs, h.now, h.drawn, hd, h.gen, h.reg, h.slot, h.endp, h.next, h.fuse, Nat.zero_le _⟩
theorem DKP.pushW {w w2 : World} {kb : Nat} {seed cn : Int} {wv : Value} {tb : Nat} {f : RF} {m : Kp} {o : Obj} {x : Nat × Bs} {k g cap : Nat} (h : DKP w kb seed cn wv tb f m) (hn : m.way.length = k) (hk : k + 1 ≤ 1000)
  (hown : w2.ownsRow 0 145 2 (.slice (some ⟨g, 0, none⟩) (k + 1) cap) (k + 1) (flatV wrV m.way ++ wrV x)) (hgr : (w.alloc o).grownBy w2 wv.ownBlock) (hloc : wv.ownBlock = some g ∨ g = (w.alloc o).heap.size) :
  w2.cell? ⟨kb, 8, none⟩ = some wv ∧ w2.frozen? ⟨kb, 8, none⟩ = false ∧ DKP (w2.setCell ⟨kb, 8, none⟩ (.slice (some ⟨g, 0, none⟩) (k + 1) cap)) kb seed cn (.slice (some ⟨g, 0, none⟩) (k + 1) cap) tb f { m with way := m.way ++ [x] } ∧
   Fr (fun b => b = kb ∨ wv.ownBlock = some b) w (w2.setCell ⟨kb, 8, none⟩ (.slice (some ⟨g, 0, none⟩) (k + 1) cap)) ∧ (wv.ownBlock = some g ∨ w.heap.size ≤ g) := by
 have hf1 : Fr (fun c => wv.ownBlock = some c) w (w.alloc o) := Fr.of_below (bA);have hf : Fr (fun c => wv.ownBlock = some c) w w2 := hf1.grown hgr (fun k hk _ => hk);have hs : (w.alloc o).heap.size = w.heap.size + 1 := by simp
 have nk : ¬ wv.ownBlock = some kb := fun e => (h.wk kb e).1 rfl;have hb2 := h.blk.kept hf nk;have hset := hb2.set 8 (.slice (some ⟨g, 0, none⟩) (k + 1) cap);have hfs := fr_cell (w := w2) (kb := kb) 8 (.slice (some ⟨g, 0, none⟩) (k + 1) cap);have hgk : g ≠ kb := by
  rcases hloc with e | e
  ·exact (h.wk g e).1
  ·have := h.blk.lt; omega
 have hgf : ¬ rfoot tb f g := by
  rcases hloc with e | e
  ·exact (h.wk g e).2
  ·intro e2; have := h.tab.foot e2; omega
 refine ⟨hb2.cell 8, hb2.frozen 8, ⟨hset, (h.tab.kept hf (fun b hb e => (h.wk b e).2 hb)).kept hfs (fun b hb e => h.kt (e ▸ hb)), (Own.pushed hn hown).kept hfs (fun c hc e => ?_), h.kt, fun c hc => ?_, h.bnd.with_way _ (by rw [List.length_append, hn]; simpa using hk)⟩, ?_, ?_⟩
 ·have e2 : some g = some c := hc;injection e2 with e2; exact hgk (e2.trans e)
 ·have e2 : some g = some c := hc;injection e2 with e2
  rw [← e2]; exact ⟨hgk, hgf⟩
 ·exact (hf.mono (fun b _ e => Or.inr e)).trans hfs (fun b _ e => Or.inl e)
 ·rcases hloc with e | e
  ·exact Or.inl e
  ·exact Or.inr (by omega)
theorem DKP.pushTo {w w' : World} {kb : Nat} {seed cn : Int} {wv wv' : Value} {tb : Nat} {f : RF} {m' : Kp} {F : Nat → Prop} {g : Nat} (hF : ∀ b, F b ↔ rkfoot kb tb f wv b) (hp : DKP w' kb seed cn wv' tb f m') (hf : Fr (fun b => b = kb ∨ wv.ownBlock = some b) w w') (hg : wv.ownBlock = some g ∨ w.heap.size ≤ g) (hw : wv'.ownBlock = some g) : DKTo w kb F m' w' := by
 refine ⟨_, ⟨seed, cn, wv', tb, f, hp, fun _ => Iff.rfl⟩, hf.mono (fun b _ e => (hF b).2 ?_), fun b hb => ?_⟩
 ·rcases e with e | e
  ·exact Or.inl e
  ·exact Or.inr (Or.inr e)
 ·rcases hb with e | e | e
  ·exact Or.inl ((hF b).2 (Or.inl e))
  ·exact Or.inl ((hF b).2 (Or.inr (Or.inl e)))
  ·rw [hw] at e;injection e with e
   subst e;rcases hg with e2 | e2
   ·exact Or.inl ((hF g).2 (Or.inr (Or.inr e2)))
   ·exact Or.inr e2
theorem DKP.flushed {w : World} {kb : Nat} {seed cn : Int} {wv : Value} {tb : Nat} {f : RF} {m : Kp} (h : DKP w kb seed cn wv tb f m) (S : Bs) (hl : S.length = m.disk.length) :
  DKP ((w.setCell ⟨kb, 7, none⟩ (.string (ofL S))).setCell ⟨kb, 8, none⟩ (.slice none 0 0)) kb seed cn (.slice none 0 0) tb f { m with disk := S, way := [] } := by
 have hb := (h.blk.set 7 (.string (ofL S))).set 8 (.slice none 0 0);have hfr := (fr_cell (w := w) (kb := kb) 7 (.string (ofL S))).setCell ⟨kb, 8, none⟩ (fun _ => rfl) (.slice none 0 0);refine ⟨?_, h.tab.kept hfr (fun b hb e => h.kt (e ▸ hb)), Own.nil _ _ _ _, h.kt, (fun b hb => by cases hb), h.bnd.with_disk S (by rw [hl]; exact h.bnd.size)⟩;unfold rkA at hb ⊢;simp only [hl];exact hb
theorem DKP.flushTo {w : World} {kb : Nat} {seed cn : Int} {wv : Value} {tb : Nat} {f : RF} {m : Kp} {F : Nat → Prop} (hF : ∀ b, F b ↔ rkfoot kb tb f wv b) (h : DKP w kb seed cn wv tb f m) (S : Bs) (hl : S.length = m.disk.length) :
  DKTo w kb F { m with disk := S, way := [] } ((w.setCell ⟨kb, 7, none⟩ (.string (ofL S))).setCell ⟨kb, 8, none⟩ (.slice none 0 0)) := by
 refine ⟨_, ⟨seed, cn, _, tb, f, h.flushed S hl, fun _ => Iff.rfl⟩, ?_, fun b hb => Or.inl ?_⟩
 ·exact ((fr_cell (w := w) (kb := kb) 7 (.string (ofL S))).setCell ⟨kb, 8, none⟩ (fun _ => rfl) (.slice none 0 0)).mono (fun b _ e => (hF b).2 (Or.inl e))
 ·rcases hb with e | e | e
  ·exact (hF b).2 (Or.inl e)
  ·exact (hF b).2 (Or.inr (Or.inl e))
  ·cases e
theorem puts_cons (s : Bs) (o : Nat) (os : List Nat) (m : Kp) : Kp.puts s (o :: os) m = if ({ m with way := m.way ++ [(o, (s.drop o).take 32)] } : Kp).step.1 then Kp.puts s os ({ m with way := m.way ++ [(o, (s.drop o).take 32)] } : Kp).step.2 else (false, ({ m with way := m.way ++ [(o, (s.drop o).take 32)] } : Kp).step.2) := rfl
theorem step_way (m : Kp) : m.step.2.way = m.way ∧ m.step.2.disk = m.disk := by unfold Kp.step; split <;> exact ⟨rfl, rfl⟩
theorem dkwrites_any (kb : Nat) (F : Nat → Prop) (m : Kp) (p : Nat) (r : Bs) (w : World) (h : DK w kb F m) (hw : m.way = []) (hr : 0 < r.length) (hpr : p + r.length ≤ m.disk.length) :
  Calls Tryz.prog 92 #[.pointer (some ⟨kb, 0, none⟩), .int .i64 (p : Int), .string (ofL r)] w fun e w' => e = .returned (.bool (m.writes p r).1) ∧ DKTo w kb F (m.writes p r).2 w' := by
 have HA : Hid (DK w kb F m) := h;obtain ⟨seed, cn, wv, tb, f, hp, hF⟩ := h;have c7 := hp.blk.cell 7;simp only [rkA, gT, gZ, gS] at c7;have hsz := hp.bnd.size;unfold okSize at hsz;have HSZ : Hid (okSize m.disk.length) := hp.bnd.size;obtain ⟨N, hN⟩ : ∃ N, m.disk.length = 32 * N := ⟨m.disk.length / 32, by omega⟩;have HLD : Hid (Calls _ _ _ _ _) := dlaid_any m.disk r p w hpr (by omega);have hSl : (laidB m.disk p r).length = 32 * N := by rw [laidB_length hpr, hN]
 have HSL : Hid ((laidB m.disk p r).length = m.disk.length) := laidB_length hpr;obtain ⟨V, hV⟩ : ∃ V, V = m.writes p r := ⟨_, rfl⟩;have HV : Hid (V = if (Kp.puts (laidB m.disk p r) (offsR p r.length 0 N) m).1 then Kp.flush (laidB m.disk p r) (Kp.puts (laidB m.disk p r) (offsR p r.length 0 N) m).2 else (false, (Kp.puts (laidB m.disk p r) (offsR p r.length 0 N) m).2)) := by
  rw [hV, offsR_all hr (by omega)]; exact rfl
 rw [← hV];clear hp hF hV;obtain ⟨n, hn⟩ : ∃ n, n = r.length := ⟨_, rfl⟩;rw [← hn] at hr hpr HV;have hN200 : N ≤ 200 := by omega
 have hpn : p + n ≤ 6400 := by omega
 have hrl : r.length = n := hn.symm;clear hsz hpr hN hn;generalize laidB m.disk p r = S at *
 obtain ⟨P0, hP0⟩ : ∃ P0, P0 = Kp.puts S (offsR p n 0 N) m := ⟨_, rfl⟩;rw [← hP0] at HV;have HP0 : Hid (Kp.puts S (offsR p n 0 (N - 0)) m = P0) := by rw [hP0]; exact rfl
 clear hP0;go_enter Tryz.func92, Tryz.ntmps92;go_wp2_with fail;refine HLD.out.mono ?_;rintro e w1 ⟨rfl, hb1⟩;have HD1 : Hid (DKTo w kb F m w1) := DKTo.of_below HA.out hb1;clear hb1 HLD c7;go_wp2_with fail
 go_loopw [8] (fun iv wx => ∃ (j : Nat) (mm : Kp), j ≤ N ∧ iv = .int .i64 ((32 * j : Nat) : Int) ∧ Hid (Kp.puts S (offsR p n j (N - j)) mm = P0) ∧ Hid (mm.way.length ≤ j ∧ mm.disk = m.disk) ∧ Hid (DKTo w kb F mm wx)) (fun iv _ => 32 * N - (intOf iv).toNat)
 case atStart => exact ⟨0, m, Nat.zero_le _, rfl, HP0, ⟨by rw [hw]; exact Nat.le_refl _, rfl⟩, HD1.out⟩
 case round =>
  obtain ⟨j, mm, hj, rfl, HR, HWL, HD⟩ := hrel;clear HD1 HP0;by_cases hlt : j < N
  ·have hst := HR.out;rw [show N - j = (N - (j + 1)) + 1 by omega, offsR_succ] at hst;by_cases ht : p < 32 * j + 32 ∧ 32 * j < p + n
   ·have htt : touched p n j = true := by unfold touched; rw [decide_eq_true ht.1, decide_eq_true ht.2]; rfl
    rw [if_pos htt, puts_cons] at hst;obtain ⟨x, hx⟩ : ∃ x : Nat × Bs, x = (32 * j, (S.drop (32 * j)).take 32) := ⟨_, rfl⟩;rw [← hx] at hst;obtain ⟨mm1, hmm1⟩ : ∃ mm1 : Kp, mm1 = { mm with way := mm.way ++ [x] } := ⟨_, rfl⟩;rw [← hmm1] at hst;have HST : Hid ((if mm1.step.1 = true then Kp.puts S (offsR p n (j + 1) (N - (j + 1))) mm1.step.2 else (false, mm1.step.2)) = P0) := hst;have HW1 : Hid (mm1.step.2.way.length ≤ j + 1 ∧ mm1.step.2.disk = m.disk) := by
     obtain ⟨a1, a2⟩ := step_way mm1;rw [a1, a2, hmm1];refine ⟨?_, HWL.out.2⟩;show (mm.way ++ [x]).length ≤ _;rw [List.length_append];have := HWL.out.1;simp; omega
    have HX : Hid (x = (32 * j, (S.drop (32 * j)).take 32)) := hx;have HM1 : Hid (mm1 = { mm with way := mm.way ++ [x] }) := hmm1;have t1 : (p : Int) < 32 * (j : Int) + 32 := by omega
    have t2 : 32 * (j : Int) < (p : Int) + (n : Int) := by omega
    clear hst htt ht hx hmm1;go_upto_region 6 with fail
    clear t1 t2
    go_cut [] (fun wx => Hid (DKTo w kb F mm1 wx))
    case first =>
     obtain ⟨F1, ⟨seed, cn, wv, tb, f, hp, hF⟩, hf1, hn1⟩ := HD.out;obtain ⟨wa, wcp, hwv⟩ := wo_slice hp.way;obtain ⟨kl, hkl⟩ : ∃ kl, mm.way.length = kl := ⟨_, rfl⟩;have hk1 : kl + 1 ≤ 1000 := by have := HWL.out.1; omega
     rw [hkl] at hwv;obtain ⟨x1, x2⟩ := x;obtain ⟨hx1, hx2⟩ : x1 = 32 * j ∧ x2 = (S.drop (32 * j)).take 32 := by have := HX.out; injection this with a b; exact ⟨a, b⟩
     have hxt : (ofL S).extract (32 * j) (32 * j + 32) = ofL x2 := by rw [extract_ofL, hx2, show 32 * j + 32 - 32 * j = 32 by omega]
     subst hx1;obtain ⟨i0, hfacts⟩ := wr_push hp.way hkl (by omega) (32 * j, x2);rw [hwv] at hfacts;have HF6 : Hid (Tryz.prog.info? 145 = some i0 ∧ i0.zero = some (.agg #[.int .i64 0, .string ⟨#[]⟩]) ∧ i0.size = 2 ∧ i0.bytes = 24 ∧ ((wr.alloc (.cells #[.int .i64 (32 * (j : Int)), .string (ofL x2)] 145)).drew).ownsRow 0 145 2 (.slice wa kl wcp) kl (flatV wrV mm.way) ∧
      (∀ (i : Nat) (u : Value), [Value.int .i64 (32 * (j : Int)), .string (ofL x2)][i]? = some u → ((wr.alloc (.cells #[.int .i64 (32 * (j : Int)), .string (ofL x2)] 145)).drew).cell? ((⟨wr.heap.size, 0, none⟩ : Addr).add i) = some u) ∧ (∀ u ∈ [Value.int .i64 (32 * (j : Int)), .string (ofL x2)], u.oneCell' = true) ∧ kl + 1 ≤ maxLen ∧ (kl + 1) * 24 ≤ 140737488355328) := hfacts
     have c8 := hp.blk.cell 8;have a8 : ∀ o, (wr.alloc o).cell? ⟨kb, 8, none⟩ = some wv := fun o => (hp.blk.below ((Below.refl _ _).alloc (Nat.le_refl _) o)).cell 8;simp only [rkA, gT, gZ, gS] at c8;have HPP : Hid (DKP wr.drew kb seed cn wv tb f mm) := hp.kept ((Fr.refl (fun _ => False) wr).drew) (fun _ _ h => h);have HKL : Hid (mm.way.length = kl ∧ kl + 1 ≤ 1000) := ⟨hkl, hk1⟩;have HFF : Hid (∀ b, F1 b ↔ rkfoot kb tb f wv b) := hF;have HF1 : Hid (Fr F w wr.drew ∧ ∀ b, F1 b → F b ∨ w.heap.size ≤ b) := ⟨hf1.drew, hn1⟩;rw [hwv] at c8 a8 HPP HFF;clear hfacts hp hkl hF hf1 hn1 hx2 hwv;have b1 : (0 : Int) ≤ 32 * (j : Int) := by omega
     have b2 : 32 * (j : Int) ≤ 32 * (j : Int) + 32 := by omega
     have b3 : 32 * (j : Int) + 32 ≤ 32 * (N : Int) := by omega
     have b4 : (0 : Int) ≤ 32 * (j : Int) + 32 := by omega
     have e1 : IntKind.i64.wrap (32 * (j : Int) + 32) = 32 * (j : Int) + 32 := by rw [IntKind.wrap_i64]; omega
     have n1 : (32 * (j : Int) + 32).toNat = 32 * j + 32 := by omega
     have n2 : (32 * (j : Int)).toNat = 32 * j := by omega
     go_region_law (refine step_append_lies _ rfl _ _ 125 rfl 0 145 i0 (.agg #[.int .i64 0, .string ⟨#[]⟩]) 2 24 Tryz.underlying125 HF6.out.1 HF6.out.2.1 HF6.out.2.2.1 HF6.out.2.2.2.1 rfl (by decide) (.slice wa kl wcp) kl (flatV wrV mm.way) rfl HF6.out.2.2.2.2.1 ⟨wr.heap.size, 0, none⟩ 1 1 [Value.int .i64 (32 * (j : Int)), .string (ofL x2)] rfl rfl HF6.out.2.2.2.2.2.1 HF6.out.2.2.2.2.2.2.1 (by decide) HF6.out.2.2.2.2.2.2.2.1 HF6.out.2.2.2.2.2.2.2.2 (Nat.zero_le _) _ rfl ?_; intro g cap2 w5 hown hgr hloc hlt5; obtain ⟨p1, p2, p3, p4, p5⟩ := DKP.pushW (x := (32 * j, x2)) HPP.out HKL.out.1 HKL.out.2 hown hgr hloc; have HQ : Hid (DKTo w kb F mm1 _) := (by rw [HM1.out]; exact DKTo.trans HF1.out.1 HF1.out.2 (DKP.pushTo HFF.out p3 p4 p5 rfl)); clear hown hgr hloc hlt5 p3 p4 p5)
     all_goals
      go_wp2_with fail;go_meet
      case rel => exact HQ
    case rest =>
    obtain ⟨F2, ha2, hf2, hn2⟩ := hcut.out;have HSP : Hid (Calls Tryz.prog 142 #[.pointer (some ⟨kb, 0, none⟩)] wc fun e w' => e = .returned (.bool mm1.step.1) ∧ DKTo w kb F mm1.step.2 w') := (dkstep_any kb F2 mm1 wc ha2).mono fun e w' hh => ⟨hh.1, DKTo.trans hf2 hn2 hh.2⟩;clear ha2 hf2 hn2 hcut HD HX HM1;generalize hms : mm1.step = M at *
    obtain ⟨ok, m3⟩ := M;have HST := HST;cases ok with
    | true =>
     have HST2 : Hid (Kp.puts S (offsR p n (j + 1) (N - (j + 1))) m3 = P0) := HST.out;have HW2 : Hid (m3.way.length ≤ j + 1 ∧ m3.disk = m.disk) := HW1.out;clear hms HST HW1;go_wp2_with fail;refine HSP.out.mono ?_;rintro e w' ⟨rfl, hd⟩;have HD3 : Hid (DKTo w kb F m3 w') := hd;clear hd HSP;go_wp2_with fail;go_roundw
     case rel => exact ⟨j + 1, m3, hlt, by go_num, HST2, HW2, HD3⟩
     case measure => simp [intOf]; omega
    | false =>
     have hst2 : (false, m3) = P0 := HST.out;have HVV : Hid (V = (false, m3)) := by rw [HV.out, ← hst2]; exact rfl
     clear hms HST HW1 hst2;go_wp2_with fail;refine HSP.out.mono ?_;rintro e w' ⟨rfl, hd⟩;have HD3 : Hid (DKTo w kb F m3 w') := hd;clear hd HSP;go_wp2_with fail;go_ret;exact ⟨by rw [HVV.out]; rfl, by rw [HVV.out]; exact HD3.out⟩
   ·have htt : touched p n j = false := by
     unfold touched;rw [Bool.eq_false_iff];intro e;rw [Bool.and_eq_true, decide_eq_true_iff, decide_eq_true_iff] at e;exact ht e
    rw [htt, if_neg (by decide)] at hst;have HST2 : Hid (Kp.puts S (offsR p n (j + 1) (N - (j + 1))) mm = P0) := hst;have HW2 : Hid (mm.way.length ≤ j + 1 ∧ mm.disk = m.disk) := ⟨Nat.le_succ_of_le HWL.out.1, HWL.out.2⟩;clear hst htt HR;by_cases t1 : p < 32 * j + 32
    ·have t1i : (p : Int) < 32 * (j : Int) + 32 := by omega
     have t2i : ¬ 32 * (j : Int) < (p : Int) + (n : Int) := by omega
     clear ht;go_wp2_with fail;go_roundw
     case rel => exact ⟨j + 1, mm, hlt, by go_num, HST2, HW2, HD⟩
     case measure => simp [intOf]; omega
    ·have t1i : ¬ (p : Int) < 32 * (j : Int) + 32 := by omega
     clear ht;go_wp2_with fail;go_roundw
     case rel => exact ⟨j + 1, mm, hlt, by go_num, HST2, HW2, HD⟩
     case measure => simp [intOf]; omega
  ·have hje : j = N := by omega
   have hst := HR.out;rw [hje, Nat.sub_self, offsR_zero] at hst;have hst : (true, mm) = P0 := hst;have HVV : Hid (V = Kp.flush S mm) := by rw [HV.out, ← hst]; exact rfl
   obtain ⟨F2, ha2, hf2, hn2⟩ := HD.out;have HSP : Hid (Calls Tryz.prog 142 #[.pointer (some ⟨kb, 0, none⟩)] wr fun e w' => e = .returned (.bool mm.step.1) ∧ DKTo w kb F mm.step.2 w') := (dkstep_any kb F2 mm wr ha2).mono fun e w' hh => ⟨hh.1, DKTo.trans hf2 hn2 hh.2⟩;have HFL : Hid (Kp.flush S mm = if mm.step.1 then (true, { mm.step.2 with disk := S, way := [] }) else (false, mm.step.2)) := rfl;clear ha2 hf2 hn2 hst HR HD;have HDK : Hid (mm.step.2.disk = m.disk) := by rw [(step_way mm).2]; exact HWL.out.2
   generalize hms : mm.step = M at *
   obtain ⟨ok, m3⟩ := M;cases ok with
   | true =>
    have HV2 : Hid (V = (true, { m3 with disk := S, way := [] })) := by rw [HVV.out, HFL.out]; exact rfl
    clear hms HFL HVV;go_wp2_with fail;refine HSP.out.mono ?_;rintro e w' ⟨rfl, hd⟩;obtain ⟨F3, ⟨seed, cn, wv3, tb, f, hp, hF⟩, hf3, hn3⟩ := hd;have c7 := hp.blk.cell 7;have c8 := hp.blk.cell 8;have f7 := hp.blk.frozen 7;have f8 := hp.blk.frozen 8;simp only [rkA, gT, gZ, gS] at c7 c8;have HE : Hid (DKTo w kb F { m3 with disk := S, way := [] } ((w'.setCell ⟨kb, 7, none⟩ (.string (ofL S))).setCell ⟨kb, 8, none⟩ (.slice none 0 0))) := DKTo.trans hf3 hn3 (DKP.flushTo hF hp S (by rw [HSL.out]; exact congrArg List.length HDK.out.symm));clear hp hF hf3 hn3 HSP;go_wp2_with fail;go_ret;exact ⟨by rw [HV2.out]; rfl, by rw [HV2.out]; exact HE.out⟩
   | false =>
    have HV2 : Hid (V = (false, m3)) := by rw [HVV.out, HFL.out]; exact rfl
    clear hms HFL HVV;go_wp2_with fail;refine HSP.out.mono ?_;rintro e w' ⟨rfl, hd⟩;have HE : Hid (DKTo w kb F m3 w') := hd;clear hd HSP;go_wp2_with fail;go_ret;exact ⟨by rw [HV2.out]; rfl, by rw [HV2.out]; exact HE.out⟩
end Go.Proofs.YtmnajomkfnkmeaaGreatDoor
