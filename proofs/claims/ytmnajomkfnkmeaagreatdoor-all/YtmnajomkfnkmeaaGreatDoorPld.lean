import Derived.Test.YtmnajomkfnkmeaaGreatDoorPag
import Derived.Deep.DeepCutAuto
set_option maxRecDepth 100000
set_option maxHeartbeats 16000000
set_option linter.unusedSimpArgs false
namespace Go.Proofs.YtmnajomkfnkmeaaGreatDoor
open Go.RowKit
attribute [local go_sem] ofL_size
structure OpsAt (w : World) (a : Addr) (os : List OpD) : Prop where
 lt : 0 < os.length → a.block < w.heap.size
 cell : ∀ (i : Nat) (hi : i < os.length) (j : Nat), j < 14 → w.cell? (a.add (i * 14 + j)) = (opC os[i])[j]?
def OpsV (w : World) (v : Value) (os : List OpD) : Prop := (v = .slice none 0 0 ∧ os = []) ∨ ∃ a cap, v = .slice (some a) os.length cap ∧ OpsAt w a os
theorem OpsV.below {w w' : World} {v : Value} {os : List OpD} (h : OpsV w v os) (hb : Below w.heap.size w w') : OpsV w' v os := by
 rcases h with h | ⟨a, cap, h1, h2⟩
 ·exact Or.inl h
 ·refine Or.inr ⟨a, cap, h1, fun h0 => Nat.lt_of_lt_of_le (h2.lt h0) hb.size, fun i hi j hj => ?_⟩;rw [← h2.cell i hi j hj];refine hb.cell (p := a.add (i * 14 + j)) ?_;have := h2.lt (by omega);unfold Addr.add; split <;> exact this
theorem PL.one {w : World} {B pb : Nat} {P : Nat → Prop} {n : Nat} (hB : B ≤ w.heap.size) (h : PE w B pb P n) : PL (w.alloc (.cells #[.pointer (some ⟨pb, 0, none⟩)] 24)) B (.slice (some ⟨w.heap.size, 0, none⟩) 1 1) [(pb, P)] n := by
 have h1 : ∀ (j : Nat) (y : Nat × (Nat → Prop)), [(pb, P)][j]? = some y → j = 0 ∧ y = (pb, P) := fun j y hy => by
  cases j with
  | zero => simp at hy; exact ⟨rfl, hy.symm⟩
  | succ j => simp at hy
 refine ⟨Own.lit ptrV_length (by unfold maxLen; decide) rfl rfl, fun j y hy => ?_, fun i j x y hx hy hne b hb hc => ?_, fun b hb => ?_⟩
 ·obtain ⟨-, rfl⟩ := h1 j y hy;exact h.kept (S := fun _ => False) (Fr.of_below (bA)) (fun _ _ e => e)
 ·exact hne ((h1 i x hx).1.trans (h1 j y hy).1.symm)
 ·have e2 : some w.heap.size = some b := hb;injection e2 with e2
  refine ⟨by omega, fun x hx hxb => ?_⟩;rw [List.mem_singleton.1 hx] at hxb;have := (h.foot hxb).2; omega
theorem op_cells {w : World} {X : Addr} {o : OpD} (g : ∀ j : Nat, j < 14 → w.cell? (X.add j) = (opC o)[j]?) :
  w.cell? X = some (.int .i64 o.kind) ∧ w.cell? ⟨X.block, X.off + 1, none⟩ = some (.int .i64 o.keeper) ∧ w.cell? ⟨X.block, X.off + 2, none⟩ = some (.int .i64 o.pass) ∧ w.cell? ⟨X.block, X.off + 3, none⟩ = some (.int .i64 o.a) ∧ w.cell? ⟨X.block, X.off + 4, none⟩ = some (.int .i64 o.b) ∧ w.cell? ⟨X.block, X.off + 5, none⟩ = some (.int .i64 o.c) ∧ w.cell? ⟨X.block, X.off + 6, none⟩ = some (.string (ofL o.s)) ∧ w.cell? ⟨X.block, X.off + 7, none⟩ = some (.string (ofL o.name)) ∧ w.cell? ⟨X.block, X.off + 8, none⟩ = some (.string (ofL o.value)) ∧ w.cell? ⟨X.block, X.off + 9, none⟩ = some (.string (ofL o.cfg.secret)) ∧ w.cell? ⟨X.block, X.off + 10, none⟩ = some (.int .i64 o.cfg.seed) ∧ w.cell? ⟨X.block, X.off + 11, none⟩ = some (.int .i64 o.cfg.idle) ∧ w.cell? ⟨X.block, X.off + 12, none⟩ = some (.int .i64 o.cfg.abs) ∧ w.cell? ⟨X.block, X.off + 13, none⟩ = some (.int .i64 o.cfg.now) :=
 ⟨g 0 (by decide), g 1 (by decide), g 2 (by decide), g 3 (by decide), g 4 (by decide), g 5 (by decide), g 6 (by decide), g 7 (by decide), g 8 (by decide), g 9 (by decide), g 10 (by decide), g 11 (by decide), g 12 (by decide), g 13 (by decide)⟩
theorem QO.some {w : World} {s : Value} {l : List (Nat × (Nat → Prop))} (h : QO w s l) (hl : 0 < l.length) : ∃ q c, s = .slice (some ⟨q, 0, none⟩) l.length c := by
 rcases h.cases with ⟨-, h2⟩ | ⟨q, c, h1, -⟩
 ·rw [h2] at hl; exact absurd hl (Nat.lt_irrefl 0)
 ·exact ⟨q, c, h1⟩
theorem PL.news {w w' : World} {B : Nat} {sv : Value} {l : List (Nat × (Nat → Prop))} {n : Nat} {e : Ending} (h : PL w B sv l n) (hn : NewP w B n e w') :
  PL w' B sv l (n + 1) ∧ Fr (fun _ => False) w w' ∧ (e = .returned (.tuple #[.pointer none, .bool true]) ∨ ∃ pb P, e = .returned (.tuple #[.pointer (some ⟨pb, 0, none⟩), .bool true]) ∧ PE w' B pb P (n + 1) ∧ ∀ b, P b → (∀ x ∈ l, ¬ x.2 b) ∧ sv.ownBlock ≠ some b) := by
 obtain ⟨hf, hn⟩ := hn;refine ⟨(h.kept hf).up, hf, ?_⟩;rcases hn with hn | ⟨pb, P, h1, h2, h3⟩
 ·exact Or.inl hn
 ·refine Or.inr ⟨pb, P, h1, h2.up, fun b hb => ⟨fun x hx hxb => ?_, fun e => ?_⟩⟩
  ·obtain ⟨j, hj⟩ := List.mem_iff_getElem?.1 hx;have := ((h.each j x hj).foot hxb).2;have := h3 b hb;omega
  ·have := h.row.lt e;have := h3 b hb;omega
theorem pld_meas {k k1 n : Nat} (h : k < n) (e : k1 = k + 1) : n - (intOf (.int .i64 (k1 : Int))).toNat < n - (intOf (.int .i64 (k : Int))).toNat := by
 subst e;simp [intOf];omega
theorem pld_meas2 {k k1 n : Nat} (h : k < n) (e : k1 = k + 1) (hw : wrap64 ((k : Int) + 1) = (k1 : Int)) : n - (intOf (.int .i64 (wrap64 ((k : Int) + 1)))).toNat < n - (intOf (.int .i64 (k : Int))).toNat := by
 rw [hw];exact pld_meas h e
theorem pld_val {k k1 : Nat} (hw : wrap64 ((k : Int) + 1) = (k1 : Int)) : Value.int .i64 (wrap64 ((k : Int) + 1)) = .int .i64 (k1 : Int) := by rw [hw]
theorem info_pair : (Tryz.prog.info? 24).map (fun i => (i.zero, i.size, i.bytes)) = some (some (.pointer none), 1, 8) := by kernel_rfl
theorem ptr_pushL {w : World} {B pb n k : Nat} {sv : Value} {l : List (Nat × (Nat → Prop))} (h : PL w B sv l n) (hk : l.length = k) (hle : k ≤ 1000000000000) :
  ∃ i0, Tryz.prog.info? 24 = some i0 ∧ i0.zero = some (.pointer none) ∧ i0.size = 1 ∧ i0.bytes = 8 ∧ (w.alloc (.cells #[.pointer (some ⟨pb, 0, none⟩)] 24)).ownsRow 0 24 1 sv k (flatV ptrV l) ∧
   (∀ (j : Nat) (u : Value), [Value.pointer (some ⟨pb, 0, none⟩)][j]? = some u → (w.alloc (.cells #[.pointer (some ⟨pb, 0, none⟩)] 24)).cell? ((⟨w.heap.size, 0, none⟩ : Addr).add j) = some u) ∧ (∀ u ∈ [Value.pointer (some ⟨pb, 0, none⟩)], u.oneCell' = true) ∧ k + 1 ≤ maxLen ∧ (k + 1) * 8 ≤ 140737488355328 := by
 obtain ⟨i0, hi, hzz⟩ := Option.map_eq_some_iff.1 info_pair;simp only [Prod.mk.injEq] at hzz;obtain ⟨hz, hs0, hb⟩ := hzz;have ho : QO (w.alloc (.cells #[.pointer (some ⟨pb, 0, none⟩)] 24)) sv l := h.row.below (bA);unfold QO Own at ho;rw [hk] at ho;exact ⟨i0, hi, hz, hs0, hb, ho, World.news_of_block (Blk.new w _ _), fun u hu => by rw [List.mem_singleton.1 hu]; rfl, by unfold maxLen; omega, by omega⟩
theorem PL.pushed {w0 w w5 : World} {g cap k pb n : Nat} {sv : Value} {P : Nat → Prop} {l : List (Nat × (Nat → Prop))} {ob : Obj} (h : PL w w0.heap.size sv l n) (hb : Below w0.heap.size w0 w) (hk : l.length = k) (hp : PE w w0.heap.size pb P n ∧ ∀ b, P b → (∀ x ∈ l, ¬ x.2 b) ∧ sv.ownBlock ≠ some b)
  (hown : w5.ownsRow 0 24 1 (.slice (some ⟨g, 0, none⟩) (k + 1) cap) (k + 1) (flatV ptrV l ++ [.pointer (some ⟨pb, 0, none⟩)])) (hgr : (w.alloc ob).grownBy w5 sv.ownBlock) (hloc : sv.ownBlock = some g ∨ g = (w.alloc ob).heap.size) :
  PL w5 w0.heap.size (.slice (some ⟨g, 0, none⟩) (k + 1) cap) (l ++ [(pb, P)]) n ∧ Below w0.heap.size w0 w5 := by
 have hal : Below w.heap.size w (w.alloc ob) := bA;have hf : Fr (fun _ => False) w (w.alloc ob) := Fr.of_below hal;have hB : Below w0.heap.size w0 (w.alloc ob) := bstep hb hal;obtain ⟨h1, h2⟩ := PL.push (P := P) (h.kept hf) hB.size hk (hp.1.kept hf (fun _ _ e => e)) hp.2 hown hgr hloc;exact ⟨h1, hB.trans (h2.belowB hB.size (fun b e => (h.own b e).1))⟩
theorem PL.news2 {w w' : World} {B : Nat} {sv : Value} {l : List (Nat × (Nat → Prop))} {n : Nat} {e : Ending} (h : PL w B sv l n) (hn : NewP w B n e w') :
  ∃ qv, e = .returned (.tuple #[qv, .bool true]) ∧ PL w' B sv l (n + 1) ∧ Fr (fun _ => False) w w' ∧ (qv = .pointer none ∨ ∃ nb NP, qv = .pointer (some ⟨nb, 0, none⟩) ∧ Hid (PE w' B nb NP (n + 1) ∧ ∀ b, NP b → (∀ x ∈ l, ¬ x.2 b) ∧ sv.ownBlock ≠ some b)) := by
 obtain ⟨h1, h2, h3⟩ := PL.news h hn;rcases h3 with rfl | ⟨pb, P, rfl, h4, h5⟩
 ·exact ⟨_, rfl, h1, h2, Or.inl rfl⟩
 ·exact ⟨_, rfl, h1, h2, Or.inr ⟨pb, P, rfl, ⟨h4, h5⟩⟩⟩
theorem qo_cell {w : World} {q L c j : Nat} {l : List (Nat × (Nat → Prop))} {x : Nat × (Nat → Prop)} (h : QO w (.slice (some ⟨q, 0, none⟩) L c) l) (hx : l[j]? = some x) : w.cell? ⟨q, j, none⟩ = some (.pointer (some ⟨x.1, 0, none⟩)) := by
 obtain ⟨hj, hx⟩ := List.getElem?_eq_some_iff.1 hx;have := Own.cell ptrV_length h j hj 0 (by decide);rw [Nat.mul_one, Nat.add_zero] at this;rw [this, hx]; rfl
theorem cell_fr {S : Nat → Prop} {w w' : World} {p : Addr} {v : Value} (hf : Fr S w w') (hn : ¬ S p.block) (h : w.cell? p = some v) : w'.cell? p = some v :=
 (World.cell?_of_block (w := w) (hf.block p.block (World.block_lt_of_cell? _ _ h) hn)).trans h
theorem s15 {S : Nat → Prop} {w w' : World} {q j ob : Nat} {u v0 v1 v2 v3 v4 v5 v6 v7 v8 v9 va vb vc vd : Value} (h : w.cell? ⟨q, j, none⟩ = some u ∧ w.cell? ⟨ob, 0, none⟩ = some v0 ∧ w.cell? ⟨ob, 1, none⟩ = some v1 ∧ w.cell? ⟨ob, 2, none⟩ = some v2 ∧ w.cell? ⟨ob, 3, none⟩ = some v3 ∧ w.cell? ⟨ob, 4, none⟩ = some v4 ∧ w.cell? ⟨ob, 5, none⟩ = some v5 ∧ w.cell? ⟨ob, 6, none⟩ = some v6 ∧ w.cell? ⟨ob, 7, none⟩ = some v7 ∧ w.cell? ⟨ob, 8, none⟩ = some v8 ∧ w.cell? ⟨ob, 9, none⟩ = some v9 ∧ w.cell? ⟨ob, 10, none⟩ = some va ∧ w.cell? ⟨ob, 11, none⟩ = some vb ∧ w.cell? ⟨ob, 12, none⟩ = some vc ∧ w.cell? ⟨ob, 13, none⟩ = some vd) (hf : Fr S w w') (hn : Hid (¬ S q ∧ ¬ S ob)) :
  w'.cell? ⟨q, j, none⟩ = some u ∧ w'.cell? ⟨ob, 0, none⟩ = some v0 ∧ w'.cell? ⟨ob, 1, none⟩ = some v1 ∧ w'.cell? ⟨ob, 2, none⟩ = some v2 ∧ w'.cell? ⟨ob, 3, none⟩ = some v3 ∧ w'.cell? ⟨ob, 4, none⟩ = some v4 ∧ w'.cell? ⟨ob, 5, none⟩ = some v5 ∧ w'.cell? ⟨ob, 6, none⟩ = some v6 ∧ w'.cell? ⟨ob, 7, none⟩ = some v7 ∧ w'.cell? ⟨ob, 8, none⟩ = some v8 ∧ w'.cell? ⟨ob, 9, none⟩ = some v9 ∧ w'.cell? ⟨ob, 10, none⟩ = some va ∧ w'.cell? ⟨ob, 11, none⟩ = some vb ∧ w'.cell? ⟨ob, 12, none⟩ = some vc ∧ w'.cell? ⟨ob, 13, none⟩ = some vd := by
 obtain ⟨h0, h1, h2, h3, h4, h5, h6, h7, h8, h9, h10, h11, h12, h13, h14⟩ := h;have a := hn.out.1;have b := hn.out.2;exact ⟨cell_fr hf a h0, cell_fr hf b h1, cell_fr hf b h2, cell_fr hf b h3, cell_fr hf b h4, cell_fr hf b h5, cell_fr hf b h6, cell_fr hf b h7, cell_fr hf b h8, cell_fr hf b h9, cell_fr hf b h10, cell_fr hf b h11, cell_fr hf b h12, cell_fr hf b h13, cell_fr hf b h14⟩
def opL : OpD := ⟨3, 0, 0, 5, 0, 0, [], [], [], ⟨[], 0, 0, 0, 0⟩⟩
theorem opL_ok : OpOk opL := by
 refine ⟨?_, ?_, ?_, ?_, ?_, ?_, ?_, ?_, ?_⟩ <;> first | (unfold i64 opL; decide) | (show 0 ≤ _; decide)
theorem PAt.passes {w : World} {B pb : Nat} {P : Nat → Prop} {m : Kp} {ps : List Bs} (h : PAt w B pb P m ps) : ∃ a c, w.cell? ⟨pb, 2, none⟩ = some (.slice a ps.length c) := by
 obtain ⟨kb, rb, sv, Fk, Fq, hp, hP⟩ := h;obtain ⟨a, c, hsv, -⟩ := so_slice hp.ps;subst hsv;exact ⟨a, c, hp.blk.cell 2⟩
theorem played_any (v0 : Value) (sev : Bool) (os : List OpD) (G : Gl) (w : World) (hv : OpsV w v0 os) (hos : ∀ o ∈ os, OpOk o) (hlen : os.length + 1 ≤ 1000000000000) (hG : Glob w.heap.size G w) :
  Calls Tryz.prog 14 #[v0, .bool sev] w fun e w' => e = .returned (.bool true) ∧ Below w.heap.size w w' := by
 have HG : Hid (Glob w.heap.size G w) := hG;have HV : Hid (OpsV w v0 os) := hv;have HOS : Hid (∀ o ∈ os, OpOk o) := hos;have HLEN : Hid (os.length + 1 ≤ 1000000000000) := hlen;have lz : ∀ w', Sem.run Tryz.prog (Builtin.len_ #[31] 3 #[v0]) w' = .ok (.int .i64 (os.length : Int)) w' := by
  rcases hv with ⟨rfl, rfl⟩ | ⟨a, cap, rfl, _⟩
  ·intro w'; simp [go_sem]
  ·intro w'; simp [go_sem]
 have hfm := format_ok 12 w (by decide) (by decide);rw [blank_same] at hfm;obtain ⟨m, hop, hem⟩ := start_login;have hdl : (blankB 12).length ≤ 9223372036854775807 := by rw [blankB_length 12 (by decide)]; decide
 have HPO : Hid (∀ w', Glob w.heap.size G w' → Calls Tryz.prog 12 #[.string (ofL (blankB 12)), cfgV cfgL] w' fun e w'' => ∃ pb P, e = .returned (.tuple #[.pointer (some ⟨pb, 0, none⟩), .bool true]) ∧ PAt w'' w.heap.size pb P m [] ∧ Fr (fun _ => False) w' w'') := fun w' h => by
  have := popen_any (blankB 12) cfgL w.heap.size G w' hdl (by decide) h;rw [hop] at this;refine this.mono ?_;rintro e w'' ⟨pb, P, h1, h2, h3, h4⟩;exact ⟨pb, P, h1, h2, h4⟩
 have HLG : Hid (∀ pb P w', PAt w' w.heap.size pb P m [] → Glob w.heap.size G w' → Calls Tryz.prog 13 #[.pointer (some ⟨pb, 0, none⟩), .agg #[.int .i64 3, .int .i64 0, .int .i64 0, .int .i64 5, .int .i64 0, .int .i64 0, .string ⟨#[]⟩, .string ⟨#[]⟩, .string ⟨#[]⟩, .string ⟨#[]⟩, .int .i64 0, .int .i64 0, .int .i64 0, .int .i64 0]] w' fun e w'' => e = .returned (.bool true) ∧ ∃ P', PE w'' w.heap.size pb P' 1 ∧ (∃ a c, w''.cell? ⟨pb, 2, none⟩ = some (.slice a 1 c)) ∧ Below w.heap.size w' w'') := fun pb P w' h hg => by
  have := does_login w.heap.size pb P m [] G opL w' h hg opL_ok rfl (by decide);refine this.mono ?_;rintro e w'' ⟨h1, P', h2, h3, h4⟩;have hq : (if (m.login opL.a).1.isEmpty = true then ([] : List Bs) else [] ++ [(m.login opL.a).1]) = [(m.login 5).1] := by
   show (if (m.login 5).1.isEmpty = true then ([] : List Bs) else [] ++ [(m.login 5).1]) = _;rw [hem]; rfl
  rw [hq] at h2;refine ⟨h1, P', ⟨_, _, h2, Nat.le_refl _, fun s hs => ?_⟩, h2.passes, h3.belowB hg.le (fun b hb => (h.foot hb).1)⟩;rw [List.mem_singleton.1 hs];exact login_len m 5
 obtain ⟨D, hD⟩ : ∃ D, D = blankB 12 := ⟨_, rfl⟩;rw [← hD] at hfm HPO;have HFM : Hid (Calls Tryz.prog 17 #[.int .i64 12] w fun e w'' => e = .returned (.tuple #[.string (ofL D), .int .i64 0]) ∧ Below w.heap.size w w'') := hfm;have HCF : Hid (∀ w', Calls Tryz.prog 49 #[] w' fun e w'' => e = .returned (cfgV cfgL) ∧ Below w'.heap.size w' w'') := fun w' => lconfig_any w';clear hG hv hos hlen hfm hop hem hdl hD;generalize cfgL = cc at *
 go_enter Tryz.func14, Tryz.ntmps14;go_wp2_with fail;refine HFM.out.mono ?_;rintro e w1 ⟨rfl, hb1⟩;have HB1 : Hid (Below w.heap.size w w1) := hb1;clear hb1 HFM;go_wp2_with fail;refine (HCF.out _).mono ?_;rintro e w2 ⟨rfl, hb2⟩;have HB2 : Hid (Below w.heap.size w w2) := bstep HB1.out hb2;clear hb2 HCF;unfold cfgV at HPO ⊢;go_wp2_with fail;refine (HPO.out _ (DigitsBelow HG.out HB2.out)).mono ?_;rintro e w3 ⟨pb, P, rfl, hp3, hf3⟩;have HP3 : Hid (PAt w3 w.heap.size pb P m []) := hp3;have HF3 : Hid (Fr (fun _ => False) w w3) := (Fr.of_below HB2.out).trans hf3 (fun _ _ h => h);clear hp3 hf3 HPO;go_wp2_with fail;refine (HLG.out pb P _ HP3.out (HG.out.fr HF3.out (fun _ h => h.elim))).mono ?_;rintro e w4 ⟨rfl, P4, hp4, ⟨pa, pc, hc4⟩, hb4⟩;have HP4 : Hid (PE w4 w.heap.size pb P4 1) := hp4;have HB4 : Hid (Below w.heap.size w w4) := (HF3.out.belowB (Nat.le_refl _) (fun _ h => h.elim)).trans hb4;clear hp4 hb4 HLG HP3;go_wp2_with fail;have HPL : Hid (PL (w4.alloc (.cells #[.pointer (some ⟨pb, 0, none⟩)] 24)) w.heap.size (.slice (some ⟨w4.heap.size, 0, none⟩) 1 1) [(pb, P4)] 1) := PL.one HB4.out.size HP4.out;have HB5 : Hid (Below w.heap.size w (w4.alloc (.cells #[.pointer (some ⟨pb, 0, none⟩)] 24))) := HB4.out.alloc HB4.out.size _;clear hc4 HP4 HF3
 go_loopw [9, 10] (fun sv iv wx => ∃ (l : List (Nat × (Nat → Prop))) (k : Nat), iv = .int .i64 k ∧ k ≤ os.length ∧ Hid (0 < l.length ∧ l.length ≤ k + 1) ∧ Hid (PL wx w.heap.size sv l (k + 1)) ∧ Hid (Below w.heap.size w wx)) (fun _ iv _ => os.length - (intOf iv).toNat)
 case atStart => exact ⟨[(pb, P4)], 0, rfl, Nat.zero_le _, ⟨Nat.one_pos, Nat.le_refl 1⟩, HPL.out, HB5.out⟩
 case round =>
  obtain ⟨l, k, rfl, hk, HLL, HPLr, HBr⟩ := hrel;clear HPL HB5;by_cases hlt : k < os.length
  ·obtain ⟨a, cap, hv0, hoa⟩ : ∃ a cap, v0 = .slice (some a) os.length cap ∧ OpsAt wr a os := by
    rcases HV.out.below HBr.out with ⟨-, h⟩ | h
    ·rw [h] at hlt; exact absurd hlt (Nat.not_lt_zero _)
    ·exact h
   obtain ⟨o, ho⟩ : ∃ o, o = os[k] := ⟨_, rfl⟩;have HO : Hid (OpOk o) := by rw [ho]; exact HOS.out _ (List.getElem_mem hlt)
   have HOC : Hid (∀ j, j < 14 → wr.cell? (a.add (k * 14 + j)) = (opC o)[j]?) := fun j hj => by rw [ho]; exact hoa.cell k hlt j hj
   subst hv0;go_upto_region 12 with fail
   obtain ⟨x0, x1, x2, x3, x4, x5, x6, x7, x8, x9, xa, xb, xc, xd⟩ := op_cells (X := a.add (k * 14)) (o := o) (fun j hj => by rw [Addr.add_add]; exact HOC.out j hj);obtain ⟨q, qc, hsv⟩ := QO.some HPLr.out.row HLL.out.1;obtain ⟨L, hL⟩ : ∃ L, L = l.length := ⟨_, rfl⟩;have HL : Hid (L = l.length) := hL;rw [← hL] at hsv;subst hsv;obtain ⟨w0, hw0⟩ : ∃ w0, w0 = wr.alloc (.cells (opC o) 29) := ⟨_, rfl⟩;have HB0 : Hid (Below wr.heap.size wr w0) := by rw [hw0]; exact bA
   have HO0 : Hid (Blk w0 wr.heap.size (opC o) 29) := by rw [hw0]; exact Blk.new wr _ _
   have HK : Hid (k < os.length) := hlt;have hLb : L ≤ 1000000000000 := by rw [hL]; exact Nat.le_trans HLL.out.2 (by have := HLEN.out; omega)
   have hL0 : 0 < L := by rw [hL]; exact HLL.out.1
   have HLB : Hid (L ≤ 1000000000000 ∧ 0 < L) := ⟨hLb, hL0⟩;have hwr1 : IntKind.i64.wrap ((L : Int) - 1) = (L : Int) - 1 := by rw [IntKind.wrap_i64]; omega
   have o1 := HO0.out.cell 1;simp only [opC, gT, gZ, gS] at o1;have HPK : Hid (∀ w', Calls Tryz.prog 50 #[.int .i64 o.keeper, .int .i64 L] w' fun e w'' => e = .returned (.int .i64 (pickN o.keeper L)) ∧ w'' = w') := fun w' => lpick_any o.keeper L w' HO.out.keeper.1 HO.out.keeper.2 HLB.out.2;clear hoa ho hL hLb;unfold opC at hw0;go_upto_region 13 with fail
   rw [← hw0];clear hw0 x0 x1 x2 x3 x4 x5 x6 x7 x8 x9 xa xb xc xd;go_upto_if 64 with fail
   go_cut [12] (fun nv wx => (∃ j : Nat, nv = .int .i64 j ∧ Hid (j < L)) ∧ wx = w0)
   case first =>
    cases sev
    ·have hc : ((L : Int) - 1) = ((L - 1 : Nat) : Int) := by omega
     have HC : Hid (((L : Int) - 1) = ((L - 1 : Nat) : Int)) := hc;clear hc HPK;go_wp2_with fail;go_meet
     case rel => exact ⟨⟨L - 1, by rw [HC.out], Nat.sub_lt HLB.out.2 Nat.one_pos⟩, rfl⟩
    ·go_wp2_with fail;refine (HPK.out _).mono ?_;rintro e w9 ⟨rfl, hw9⟩;subst hw9;go_wp2_with fail;go_meet
     case rel => exact ⟨⟨pickN o.keeper L, rfl, pickN_lt o.keeper HLB.out.2⟩, rfl⟩
   case rest =>
   obtain ⟨⟨j, rfl, HJ⟩, hwc⟩ := hcut;replace hwc := hwc.symm;subst hwc;clear o1 HPK hwr1 hL0;go_upto_block 2 with fail
   go_cut [13, 8] (fun qv bv wx => bv = .bool true ∧ ∃ l', Hid (l'.length = L ∧ PL wx w.heap.size (.slice (some ⟨q, 0, none⟩) L qc) l' (k + 2) ∧ Below w.heap.size w wx) ∧ (qv = .pointer none ∨ ∃ nb NP, qv = .pointer (some ⟨nb, 0, none⟩) ∧ Hid (PE wx w.heap.size nb NP (k + 2) ∧ ∀ b, NP b → (∀ x ∈ l', ¬ x.2 b) ∧ (Value.slice (some ⟨q, 0, none⟩) L qc).ownBlock ≠ some b)))
   case first =>
    have HPL0 : Hid (PL w0 w.heap.size (.slice (some ⟨q, 0, none⟩) L qc) l (k + 1)) := HPLr.out.kept (Fr.of_below (S := fun _ => False) HB0.out);have HBW : Hid (Below w.heap.size w w0) := bstep HBr.out HB0.out;have HGW : Hid (Glob w.heap.size G w0) := DigitsBelow HG.out HBW.out;have HKN : Hid (k + 1 ≤ 1000000000000) := Nat.le_trans (Nat.succ_le_succ (Nat.le_of_lt HK.out)) HLEN.out;have o0 := HO0.out.cell 0;have o3 := HO0.out.cell 3;have o6 := HO0.out.cell 6;have o9 := HO0.out.cell 9;have oa := HO0.out.cell 10;have ob := HO0.out.cell 11;have oc := HO0.out.cell 12;have od := HO0.out.cell 13;simp only [opC, gT, gZ, gS] at o0 o3 o6 o9 oa ob oc od;have HOP : Hid (∀ (d : Bs) w', d.length ≤ 9223372036854775807 → Below w.heap.size w w' → Calls Tryz.prog 12 #[.string (ofL d), cfgV o.cfg] w' (NewP w' w.heap.size (k + 1))) := fun d w' hd hb => open_new d o.cfg w.heap.size (k + 1) G w' hd (Nat.le_trans HO.out.secret (by decide)) (DigitsBelow HG.out hb);unfold cfgV at HOP;clear hlt;by_cases k1 : o.kind = 1
    ·as_aux_lemma =>
      rw [k1] at o0;have HK1 : Hid (o.kind = 1) := k1;clear k1;go_wp2_with fail;refine (HOP.out o.s w0 (Nat.le_trans HO.out.s (by decide)) HBW.out).mono ?_;intro e w5 hn;obtain ⟨hp5, hf5, hcs⟩ := PL.news HPL0.out hn;have HP5 : Hid (PL w5 w.heap.size (.slice (some ⟨q, 0, none⟩) L qc) l (k + 2)) := hp5;have HB5 : Hid (Below w.heap.size w w5) := HBW.out.trans (hf5.belowB HBW.out.size (fun _ h => h.elim));clear hn hp5 hf5 HOP o0 o3 o6 o9 oa ob oc od;rcases hcs with rfl | ⟨nb, NP, rfl, h1, h2⟩
      ·go_wp2_with fail;go_meet
       case rel => exact ⟨rfl, l, ⟨HL.out.symm, HP5.out, HB5.out⟩, Or.inl rfl⟩
      ·have HN : Hid (_ ∧ _) := ⟨h1, h2⟩;clear h1 h2;go_wp2_with fail;go_meet
       case rel => exact ⟨rfl, l, ⟨HL.out.symm, HP5.out, HB5.out⟩, Or.inr ⟨nb, NP, rfl, HN.out⟩⟩
    have e1 := neq_b k1;by_cases k2 : o.kind = 2
    ·as_aux_lemma =>
      rw [k2] at o0;clear k1 e1 k2;go_wp2_with fail;refine (format_any o.a w.heap.size G w0 HGW.out).mono ?_;rintro e w5 ⟨⟨d, f, rfl, hf, hdl⟩, hb5⟩;have HB5 : Hid (Below w.heap.size w w5) := bstep HBW.out hb5;have HDL : Hid (d.length ≤ 6400) := hdl;have HPL5 : Hid (PL w5 w.heap.size (.slice (some ⟨q, 0, none⟩) L qc) l (k + 1)) := HPL0.out.kept (Fr.of_below (S := fun _ => False) hb5);have HO5 : Hid (Blk w5 wr.heap.size (opC o) 29) := HO0.out.below hb5;clear o0 o3 o6 o9 oa ob oc od hb5 hdl;rcases hf with rfl | rfl
      ·have o9 := HO5.out.cell 9;have oa := HO5.out.cell 10;have ob := HO5.out.cell 11;have oc := HO5.out.cell 12;have od := HO5.out.cell 13;simp only [opC, gT, gZ, gS] at o9 oa ob oc od;go_wp2_with fail;refine (HOP.out d w5 (Nat.le_trans HDL.out (by decide)) HB5.out).mono ?_;intro e w6 hn;obtain ⟨hp6, hf6, hcs⟩ := PL.news HPL5.out hn;have HP6 : Hid (PL w6 w.heap.size (.slice (some ⟨q, 0, none⟩) L qc) l (k + 2)) := hp6;have HB6 : Hid (Below w.heap.size w w6) := HB5.out.trans (hf6.belowB HB5.out.size (fun _ h => h.elim));clear hn hp6 hf6 HOP o9 oa ob oc od;rcases hcs with rfl | ⟨nb, NP, rfl, h1, h2⟩
       ·go_wp2_with fail;go_meet
        case rel => exact ⟨rfl, l, ⟨HL.out.symm, HP6.out, HB6.out⟩, Or.inl rfl⟩
       ·have HN : Hid (_ ∧ _) := ⟨h1, h2⟩;clear h1 h2;go_wp2_with fail;go_meet
        case rel => exact ⟨rfl, l, ⟨HL.out.symm, HP6.out, HB6.out⟩, Or.inr ⟨nb, NP, rfl, HN.out⟩⟩
      ·go_wp2_with fail;go_meet
       case rel => exact ⟨rfl, l, ⟨HL.out.symm, HPL5.out.up, HB5.out⟩, Or.inl rfl⟩
    have e2 := neq_b k2;by_cases k15 : o.kind = 15
    ·as_aux_lemma =>
      obtain ⟨⟨xb, XP⟩, hx⟩ : ∃ x, l[j]? = some x := ⟨_, List.getElem?_eq_getElem (by have := HJ.out; rw [HL.out] at this; exact this)⟩;have HX : Hid (l[j]? = some (xb, XP)) := hx;have cq : w0.cell? ⟨q, j, none⟩ = some (.pointer (some ⟨xb, 0, none⟩)) := qo_cell HPL0.out.row hx;have hjl := HJ.out;have z1 : (0 : Int) ≤ (j : Int) := by omega
      have z2 : (j : Int) < (L : Int) := by omega
      have hfd : Fr (fun _ => False) w0 w0.drew := Fr.of_below (Below.refl _ _).drew;have HPLd : Hid (PL w0.drew w.heap.size (.slice (some ⟨q, 0, none⟩) L qc) l (k + 1)) := HPL0.out.kept hfd;have HBd : Hid (Below w.heap.size w w0.drew) := HBW.out.drew;have o1 := HO0.out.cell 1;have o2 := HO0.out.cell 2;have o4 := HO0.out.cell 4;have o5 := HO0.out.cell 5;have o7 := HO0.out.cell 7;have o8 := HO0.out.cell 8;simp only [opC, gT, gZ, gS] at o1 o2 o4 o5 o7 o8;have HNF : Hid (¬ (fun _ : Nat => False) q ∧ ¬ (fun _ : Nat => False) wr.heap.size) := ⟨fun h => h, fun h => h⟩;have HAG : Hid (Calls Tryz.prog 51 #[.pointer (some ⟨xb, 0, none⟩), opV o] w0.drew (NewP w0.drew w.heap.size (k + 1))) := again_new w.heap.size xb XP G o (k + 1) w0.drew (HPLd.out.each j _ hx) (DigitsBelow HG.out HBd.out) HO.out HKN.out;have HK15 : Hid (o.kind = 15) := k15;have b15 : ((o.kind : Int) == 15) = true := by rw [k15]; rfl
      unfold opV opC at HAG;clear hx hjl hfd HOP k15;go_upto_region 25 with fail
      go_region_held3 (fun w' => w'.cell? ⟨q, j, none⟩ = some (.pointer (some ⟨xb, 0, none⟩)) ∧ w'.cell? ⟨wr.heap.size, 0, none⟩ = some (.int .i64 o.kind) ∧ w'.cell? ⟨wr.heap.size, 1, none⟩ = some (.int .i64 o.keeper) ∧ w'.cell? ⟨wr.heap.size, 2, none⟩ = some (.int .i64 o.pass) ∧ w'.cell? ⟨wr.heap.size, 3, none⟩ = some (.int .i64 o.a) ∧ w'.cell? ⟨wr.heap.size, 4, none⟩ = some (.int .i64 o.b) ∧ w'.cell? ⟨wr.heap.size, 5, none⟩ = some (.int .i64 o.c) ∧ w'.cell? ⟨wr.heap.size, 6, none⟩ = some (.string (ofL o.s)) ∧ w'.cell? ⟨wr.heap.size, 7, none⟩ = some (.string (ofL o.name)) ∧ w'.cell? ⟨wr.heap.size, 8, none⟩ = some (.string (ofL o.value)) ∧ w'.cell? ⟨wr.heap.size, 9, none⟩ = some (.string (ofL o.cfg.secret)) ∧ w'.cell? ⟨wr.heap.size, 10, none⟩ = some (.int .i64 o.cfg.seed) ∧ w'.cell? ⟨wr.heap.size, 11, none⟩ = some (.int .i64 o.cfg.idle) ∧ w'.cell? ⟨wr.heap.size, 12, none⟩ = some (.int .i64 o.cfg.abs) ∧ w'.cell? ⟨wr.heap.size, 13, none⟩ = some (.int .i64 o.cfg.now))
       (first
        | exact s15 (by assumption) (by assumption) HNF
        | assumption
        | exact ⟨cq, o0, o1, o2, o3, o4, o5, o6, o7, o8, o9, oa, ob, oc, od⟩)
       (first
        | (go_at_call 51; refine HAG.out.mono ?_; intro e w' hn; obtain ⟨qv, rfl, hp5, hf5, hcs⟩ := PL.news2 HPLd.out hn))
      have HP5 : Hid (PL w' w.heap.size (.slice (some ⟨q, 0, none⟩) L qc) l (k + 2)) := hp5;have HB5 : Hid (Below w.heap.size w w') := HBd.out.trans (hf5.belowB HBd.out.size (fun _ h => h.elim));clear hp5 hf5 o0 o1 o2 o3 o4 o5 o6 o7 o8 o9 oa ob oc od cq;go_wp2_with fail;go_meet
      case rel => exact ⟨rfl, l, ⟨HL.out.symm, HP5.out, HB5.out⟩, hcs⟩
    have e15 := neq_b k15;by_cases kr : 3 ≤ o.kind ∧ o.kind ≤ 14
    ·as_aux_lemma =>
      obtain ⟨⟨xb, XP⟩, hx⟩ : ∃ x, l[j]? = some x := ⟨_, List.getElem?_eq_getElem (by have := HJ.out; rw [HL.out] at this; exact this)⟩;have HX : Hid (l[j]? = some (xb, XP)) := hx;have cq : w0.cell? ⟨q, j, none⟩ = some (.pointer (some ⟨xb, 0, none⟩)) := qo_cell HPL0.out.row hx;have hjl := HJ.out;have z1 : (0 : Int) ≤ (j : Int) := by omega
      have z2 : (j : Int) < (L : Int) := by omega
      have hfd : Fr (fun _ => False) w0 w0.drew := Fr.of_below (Below.refl _ _).drew;have HPLd : Hid (PL w0.drew w.heap.size (.slice (some ⟨q, 0, none⟩) L qc) l (k + 1)) := HPL0.out.kept hfd;have HBd : Hid (Below w.heap.size w w0.drew) := HBW.out.drew;have o1 := HO0.out.cell 1;have o2 := HO0.out.cell 2;have o4 := HO0.out.cell 4;have o5 := HO0.out.cell 5;have o7 := HO0.out.cell 7;have o8 := HO0.out.cell 8;simp only [opC, gT, gZ, gS] at o1 o2 o4 o5 o7 o8;have HNF : Hid (¬ XP q ∧ ¬ XP wr.heap.size) := ⟨(HPLr.out.own q rfl).2 _ (List.mem_of_getElem? hx), fun h => by have := ((HPLr.out.each j _ hx).foot h).2; omega⟩;have HDO : Hid (Calls Tryz.prog 13 #[.pointer (some ⟨xb, 0, none⟩), opV o] w0.drew fun e w' => e = .returned (.bool true) ∧ StepP w0.drew w.heap.size xb XP (k + 1) w') := does_step w.heap.size xb XP G o (k + 1) w0.drew (HPLd.out.each j _ hx) (DigitsBelow HG.out HBd.out) HO.out HKN.out;have HFT : Hid (∀ b, XP b → w.heap.size ≤ b) := fun b hb => ((HPLd.out.each j _ hx).foot hb).1;obtain ⟨h3, h14⟩ := kr;unfold opV opC at HDO;clear hx hjl hfd HOP k1 k2 k15;go_upto_region 27 with fail
      go_region_held3 (fun w' => w'.cell? ⟨q, j, none⟩ = some (.pointer (some ⟨xb, 0, none⟩)) ∧ w'.cell? ⟨wr.heap.size, 0, none⟩ = some (.int .i64 o.kind) ∧ w'.cell? ⟨wr.heap.size, 1, none⟩ = some (.int .i64 o.keeper) ∧ w'.cell? ⟨wr.heap.size, 2, none⟩ = some (.int .i64 o.pass) ∧ w'.cell? ⟨wr.heap.size, 3, none⟩ = some (.int .i64 o.a) ∧ w'.cell? ⟨wr.heap.size, 4, none⟩ = some (.int .i64 o.b) ∧ w'.cell? ⟨wr.heap.size, 5, none⟩ = some (.int .i64 o.c) ∧ w'.cell? ⟨wr.heap.size, 6, none⟩ = some (.string (ofL o.s)) ∧ w'.cell? ⟨wr.heap.size, 7, none⟩ = some (.string (ofL o.name)) ∧ w'.cell? ⟨wr.heap.size, 8, none⟩ = some (.string (ofL o.value)) ∧ w'.cell? ⟨wr.heap.size, 9, none⟩ = some (.string (ofL o.cfg.secret)) ∧ w'.cell? ⟨wr.heap.size, 10, none⟩ = some (.int .i64 o.cfg.seed) ∧ w'.cell? ⟨wr.heap.size, 11, none⟩ = some (.int .i64 o.cfg.idle) ∧ w'.cell? ⟨wr.heap.size, 12, none⟩ = some (.int .i64 o.cfg.abs) ∧ w'.cell? ⟨wr.heap.size, 13, none⟩ = some (.int .i64 o.cfg.now))
       (first
        | exact s15 (by assumption) (by assumption) HNF
        | assumption
        | exact ⟨cq, o0, o1, o2, o3, o4, o5, o6, o7, o8, o9, oa, ob, oc, od⟩)
       (first
        | (go_at_call 13; refine HDO.out.mono ?_; rintro e w' ⟨rfl, hst⟩; obtain ⟨l', hl', hp5, hf5⟩ := PL.step HPLd.out HX.out hst))
      have HP5 : Hid (l'.length = L ∧ PL w' w.heap.size (.slice (some ⟨q, 0, none⟩) L qc) l' (k + 2) ∧ Below w.heap.size w w') := ⟨hl'.trans HL.out.symm, hp5, HBd.out.trans (hf5.belowB HBd.out.size HFT.out)⟩;clear hp5 hf5 hl' hst o0 o1 o2 o3 o4 o5 o6 o7 o8 o9 oa ob oc od cq;go_wp2_with fail;go_meet
      case rel => exact ⟨rfl, l', HP5.out, Or.inl rfl⟩
    ·as_aux_lemma =>
      have HKR : Hid (¬ (3 ≤ o.kind ∧ o.kind ≤ 14)) := kr;clear k1 k2 k15 kr HOP o3 o6 o9 oa ob oc od;by_cases h3 : 3 ≤ o.kind
      ·have h14 : ¬ o.kind ≤ 14 := fun h => HKR.out ⟨h3, h⟩;go_wp2_with fail;go_meet
       case rel => exact ⟨rfl, l, ⟨HL.out.symm, HPL0.out.up, HBW.out⟩, Or.inl rfl⟩
      ·go_wp2_with fail;go_meet
       case rel => exact ⟨rfl, l, ⟨HL.out.symm, HPL0.out.up, HBW.out⟩, Or.inl rfl⟩
   case rest =>
   obtain ⟨rfl, l', HS, hq⟩ := hcut;clear HJ;have HW : Hid (wrap64 ((k : Int) + 1) = ((k + 1 : Nat) : Int)) := by have := HLEN.out; have := HK.out; show wrap64 _ = _; unfold wrap64; omega
   obtain ⟨k1, hk1⟩ : ∃ k1, k1 = k + 1 := ⟨_, rfl⟩;have HK1 : Hid (k1 = k + 1) := hk1;rw [← hk1] at HW;have HS1 : Hid (PL wc w.heap.size (.slice (some ⟨q, 0, none⟩) L qc) l' (k1 + 1)) := by rw [hk1]; exact HS.out.2.1
   have HLK : Hid (l'.length = L ∧ L ≤ k1 ∧ k1 ≤ os.length) := by
    refine ⟨HS.out.1, ?_, ?_⟩
    ·rw [HL.out, hk1]; exact HLL.out.2
    ·rw [hk1]; exact HK.out
   clear hk1;rcases hq with rfl | ⟨nb, NP, rfl, HN⟩
   ·as_aux_lemma =>
     go_wp2_with fail;go_roundw
     case rel => exact ⟨l', k1, pld_val HW.out, HLK.out.2.2, ⟨by rw [HLK.out.1]; exact HLB.out.2, by rw [HLK.out.1]; exact Nat.le_succ_of_le HLK.out.2.1⟩, HS1.out, HS.out.2.2⟩
     case measure => exact pld_meas2 HK.out HK1.out HW.out
   ·as_aux_lemma =>
     have HNP : Hid (PE wc w.heap.size nb NP (k1 + 1) ∧ ∀ b, NP b → (∀ x ∈ l', ¬ x.2 b) ∧ (Value.slice (some ⟨q, 0, none⟩) L qc).ownBlock ≠ some b) := by rw [HK1.out]; exact HN.out
     obtain ⟨i0, hfacts⟩ := ptr_pushL (pb := nb) HS1.out HLK.out.1 HLB.out.1;have HF : Hid (_ ∧ _ ∧ _ ∧ _ ∧ _ ∧ _ ∧ _ ∧ _ ∧ _) := hfacts;have HBX : Hid (Below w.heap.size w wc) := HS.out.2.2;clear hfacts HN HS;go_wp2_with (at_builtin; refine wpList_append_lies _ rfl _ _ 77 rfl 0 24 i0 (.pointer none) 1 8 Tryz.underlying77 HF.out.1 HF.out.2.1 HF.out.2.2.1 HF.out.2.2.2.1 rfl (by decide) (.slice (some ⟨q, 0, none⟩) L qc) L (flatV ptrV l') rfl HF.out.2.2.2.2.1 ⟨wc.heap.size, 0, none⟩ 1 1 [.pointer (some ⟨nb, 0, none⟩)] rfl rfl HF.out.2.2.2.2.2.1 HF.out.2.2.2.2.2.2.1 (by decide) HF.out.2.2.2.2.2.2.2.1 HF.out.2.2.2.2.2.2.2.2 (Nat.zero_le _) _ rfl ?_; intro g cap2 w5 hown hgr hloc hlt; have HQ : Hid (PL w5 w.heap.size (.slice (some ⟨g, 0, none⟩) (L + 1) cap2) (l' ++ [(nb, NP)]) (k1 + 1) ∧ Below w.heap.size w w5) := PL.pushed HS1.out HBX.out HLK.out.1 HNP.out hown hgr hloc; clear hown hgr hloc hlt);go_roundw
     case rel => exact ⟨l' ++ [(nb, NP)], k1, pld_val HW.out, HLK.out.2.2, ⟨by simp, by rw [List.length_append, HLK.out.1]; exact Nat.succ_le_succ HLK.out.2.1⟩, HQ.out.1, HQ.out.2⟩
     case measure => exact pld_meas2 HK.out HK1.out HW.out
  ·as_aux_lemma =>
    have hke : k = os.length := by omega
    go_wp2_with fail;go_ret;exact ⟨rfl, HBr.out⟩
end Go.Proofs.YtmnajomkfnkmeaaGreatDoor
