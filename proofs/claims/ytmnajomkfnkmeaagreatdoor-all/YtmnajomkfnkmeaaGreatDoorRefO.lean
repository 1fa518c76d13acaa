import Derived.Test.YtmnajomkfnkmeaaGreatDoorRefJ
import Derived.Test.YtmnajomkfnkmeaaGreatDoorRefU
import Derived.Deep.CutBlock
set_option maxRecDepth 100000
set_option maxHeartbeats 8000000
set_option linter.unusedSimpArgs false
namespace Go.Proofs.YtmnajomkfnkmeaaGreatDoor
open Go.RowKit
attribute [local go_sem] ofL_size
theorem headOf_pos {s : Bs} {h : Nat × Nat} (e : headOf s = some h) : 1 ≤ h.1 := by
 unfold headOf at e;split at e
 ·rename_i c; cases e; exact c.1
 ·cases e
def bestH (a b : Nat × Nat) : Nat × Nat × Nat := if a.1 < b.1 then (b.1, b.2, 1) else (a.1, a.2, 0)
theorem theHead_I (d : Bs) : theHead d = if (bestH (headI (d.take 32)) (headI ((d.drop 32).take 32))).1 = 0 then none else some (bestH (headI (d.take 32)) (headI ((d.drop 32).take 32))) := by
 unfold theHead headI bestH;cases ha : headOf (d.take 32) with
 | none =>
  cases hb : headOf ((d.drop 32).take 32) with
  | none => rfl
  | some b =>
   have h1 := headOf_pos hb;simp only;rw [if_pos (show 0 < b.1 by omega), if_neg (show ¬ b.1 = 0 by omega)]
 | some a =>
  have h1 := headOf_pos ha;cases hb : headOf ((d.drop 32).take 32) with
  | none =>
   simp only;rw [if_neg (show ¬ a.1 < 0 by omega), if_neg (show ¬ a.1 = 0 by omega)]
  | some b =>
   simp only;by_cases h : a.1 < b.1
   ·rw [if_pos h, if_pos h, if_neg (show ¬ b.1 = 0 by omega)]
   ·rw [if_neg h, if_neg h, if_neg (show ¬ a.1 = 0 by omega)]
theorem firstB_len {g k : Nat} {s p : Bs} (h : firstB g k s = some p) : p.length + 10 ≤ s.length := by
 unfold firstB at h;split at h
 ·rename_i c;cases h;rw [List.length_take, List.length_drop];omega
 ·cases h
structure OI (l : Bs) (g e0 : Nat) (R : Tab × Nat × Nat) (e k : Nat) (T : Tab) : Prop where
 ex : ∃ f x, replay f g k T (l.drop e) = (R.1, x, R.2.2) ∧ e + x = e0 + R.2.1 ∧ l.length - e < f
 le : e ≤ l.length
 wf : T.wf
 k1 : k ≤ e
theorem OI.stop {l : Bs} {g e0 : Nat} {R : Tab × Nat × Nat} {e k : Nat} {T : Tab} (h : OI l g e0 R e k T) (hf : firstB g k (l.drop e) = none) : R.1 = T ∧ e0 + R.2.1 = e ∧ R.2.2 = k := by
 obtain ⟨f, x, h1, h2, h3⟩ := h.ex;obtain ⟨f, rfl⟩ : ∃ f', f = f' + 1 := ⟨f - 1, by omega⟩;rw [replay_none hf] at h1;injection h1 with h1 h4
 injection h4 with h4 h5
 exact ⟨h1.symm, by omega, h5.symm⟩
theorem OI.unfit {l : Bs} {g e0 : Nat} {R : Tab × Nat × Nat} {e k : Nat} {T : Tab} {p : Bs} (h : OI l g e0 R e k T) (hf : firstB g k (l.drop e) = some p) (ht : T.takes p = none) : R.1 = T ∧ e0 + R.2.1 = e ∧ R.2.2 = k := by
 obtain ⟨f, x, h1, h2, h3⟩ := h.ex;obtain ⟨f, rfl⟩ : ∃ f', f = f' + 1 := ⟨f - 1, by omega⟩;rw [replay_unfit hf ht] at h1;injection h1 with h1 h4
 injection h4 with h4 h5
 exact ⟨h1.symm, by omega, h5.symm⟩
theorem OI.fit {l : Bs} {g e0 : Nat} {R : Tab × Nat × Nat} {e k : Nat} {T T' : Tab} {p : Bs} (h : OI l g e0 R e k T) (hf : firstB g k (l.drop e) = some p) (ht : T.takes p = some T') : OI l g e0 R (e + p.length + 10) (k + 1) T' := by
 obtain ⟨f, x, h1, h2, h3⟩ := h.ex;obtain ⟨f, rfl⟩ : ∃ f', f = f' + 1 := ⟨f - 1, by omega⟩;have hl := firstB_len hf;rw [List.length_drop] at hl;rw [replay_fit hf ht, List.drop_drop] at h1;injection h1 with h1 h4
 injection h4 with h4 h5
 rw [show e + (p.length + 10) = e + p.length + 10 by omega] at h1 h4 h5;refine ⟨⟨f, (replay f g (k + 1) T' (l.drop (e + p.length + 10))).2.1, ?_, by omega, by omega⟩, by omega, takes_wf h.wf ht, by have := h.k1; omega⟩;exact Prod.ext h1 (Prod.ext rfl h5)
theorem OI.start {l p : Bs} {g : Nat} {T : Tab} (hf : firstB g 0 l = some p) (hw : T.wf) : OI l g (p.length + 10) (replay l.length g 1 T (l.drop (p.length + 10))) (p.length + 10) 1 T := by
 have hl := firstB_len hf;exact ⟨⟨l.length, _, rfl, rfl, by omega⟩, by omega, hw, by omega⟩
def kA0 (c : Cfg) (d : Bs) (g r s e k : Nat) (tv : Value) : Array Value :=
 #[.string (ofL c.secret), .int .i64 c.seed, .int .i64 c.idle, .int .i64 c.abs, .int .i64 c.now, .int .i64 c.now, .int .i64 c.seed, .string (ofL d), .slice none 0 0, .int .i64 0, .bool false, .int .i64 (halfS d.length), .int .i64 g, .int .i64 r, .int .i64 s, .int .i64 e, .int .i64 k, tv]
def preK (c : Cfg) (d : Bs) (g r s e k : Nat) (T : Tab) : Kp := ⟨c.secret, c.idle.toNat, c.abs.toNat, c.now.toNat, c.seed.toNat, d, [], 0, false, ⟨g, r, s, e, k, T⟩⟩
theorem kA0_rkA {c : Cfg} (hok : c.ok = true) (d : Bs) (g r s e k : Nat) (T : Tab) (tb : Nat) : kA0 c d g r s e k (.slice (some ⟨tb, 0, none⟩) 4096 4096) = rkA (preK c d g r s e k T) c.seed c.now (.slice none 0 0) tb := by
 have hb := Cfg.ok.bounds hok;unfold kA0 rkA preK;rw [Int.toNat_of_nonneg (show 0 ≤ c.idle by omega), Int.toNat_of_nonneg (show 0 ≤ c.abs by omega), Int.toNat_of_nonneg (show 0 ≤ c.now by omega), Int.toNat_of_nonneg (show 0 ≤ c.seed by omega)];rfl
theorem preK_bnd {c : Cfg} (hok : c.ok = true) {d : Bs} (hd : okSize d.length) {g r s e k : Nat} {T : Tab} (hT : T.wf) (hg : g < 4294967296) (hr : r ≤ 1) (hs : s ≤ 1) (he : e ≤ 6400) (hk : k ≤ 100000) : Bnd (preK c d g r s e k T) := by
 have hb := Cfg.ok.bounds hok;refine ⟨hT, ?_, ?_, ?_, ?_, ?_, hd, hg, hr, hs, he, hk, ?_, Nat.zero_le _⟩
 ·show c.secret.length ≤ 1000; omega
 ·show c.idle.toNat ≤ 1000000000; omega
 ·show c.abs.toNat ≤ 1000000000; omega
 ·show c.now.toNat ≤ 1000000000; omega
 ·show c.seed.toNat < 65537; omega
 ·show ((0 : Nat) : Int) ≤ 9223372036854775807; decide
theorem dstart_c (kb hf r : Nat) (w : World) (c11 : w.cell? ⟨kb, 11, none⟩ = some (.int .i64 (hf : Int))) (hh : hf ≤ 100) (hr : r ≤ 1) :
  Calls Tryz.prog 79 #[.pointer (some ⟨kb, 0, none⟩), .int .i64 (r : Int)] w fun e w' => e = .returned (.int .i64 ((64 + 32 * hf * r : Nat) : Int)) ∧ w' = w := by
 obtain rfl | rfl : r = 0 ∨ r = 1 := by omega
 ·go_enter Tryz.func79, Tryz.ntmps79;go_wp2_with fail;go_ret;exact ⟨rfl, rfl⟩
 ·go_enter Tryz.func79, Tryz.ntmps79;go_wp2_with fail;go_ret;refine ⟨?_, rfl⟩;rw [Nat.mul_one];show _ = Ending.returned (.int .i64 ((64 + 32 * hf : Nat) : Int));rw [show ((64 + 32 * hf : Nat) : Int) = 64 + 32 * (hf : Int) by omega]; rfl
theorem kstep3 {w0 w1 w2 : World} {b i j k : Nat} {u v x : Value} (h : w1.cell? ⟨b, i, none⟩ = some u ∧ w1.cell? ⟨b, j, none⟩ = some v ∧ w1.cell? ⟨b, k, none⟩ = some x ∧ b < w1.heap.size ∧ Below w0.heap.size w0 w1) (hb : Below w1.heap.size w1 w2) :
  w2.cell? ⟨b, i, none⟩ = some u ∧ w2.cell? ⟨b, j, none⟩ = some v ∧ w2.cell? ⟨b, k, none⟩ = some x ∧ b < w2.heap.size ∧ Below w0.heap.size w0 w2 := by
 obtain ⟨h1, h2, h3, h4, h5⟩ := h;exact ⟨(hb.cell (p := ⟨b, i, none⟩) h4).trans h1, (hb.cell (p := ⟨b, j, none⟩) h4).trans h2, (hb.cell (p := ⟨b, k, none⟩) h4).trans h3, Nat.lt_of_lt_of_le h4 hb.size, bstep h5 hb⟩
def eleft (w : World) (kb : Nat) : Nat :=
 match w.cell? ⟨kb, 15, none⟩ with
 | some (.int _ x) => 7000 - x.toNat
 | _ => 0
theorem eleft_eq {w : World} {kb : Nat} {seed cn : Int} {wv : Value} {tb : Nat} {f : RF} {m : Kp} (h : DKP w kb seed cn wv tb f m) : eleft w kb = 7000 - m.st.endp := by
 unfold eleft;rw [show w.cell? ⟨kb, 15, none⟩ = some (.int .i64 m.st.endp) from Blk.cell h.blk 15];rfl
def cellAt (w : World) (kb : Nat) : Value := (w.cell? ⟨kb, 7, none⟩).getD undef
theorem dsk {w : World} {kb : Nat} {seed cn : Int} {wv : Value} {tb : Nat} {f : RF} {c : Cfg} {d : Bs} {g r s E K : Nat} {T : Tab} {hf : Nat} (h : DKP w kb seed cn wv tb f (preK c d g r s E K T)) (hh : halfS d.length = hf) :
  w.cell? ⟨kb, 15, none⟩ = some (.int .i64 (E : Int)) ∧ w.cell? ⟨kb, 11, none⟩ = some (.int .i64 (hf : Int)) ∧ w.cell? ⟨kb, 7, none⟩ = some (cellAt w kb) ∧ w.frozen? ⟨kb, 7, none⟩ = false ∧ kb < w.heap.size := by
 have c7 : w.cell? ⟨kb, 7, none⟩ = some (.string (ofL d)) := h.blk.cell 7;refine ⟨h.blk.cell 15, by rw [← hh]; exact h.blk.cell 11, ?_, h.blk.frozen 7, h.blk.lt⟩;unfold cellAt;rw [c7]; rfl
theorem dsk_set {w : World} {kb : Nat} {seed cn : Int} {wv : Value} {tb : Nat} {f : RF} {c : Cfg} {d : Bs} {g r s E K : Nat} {T : Tab} {hf : Nat} (h : DKP w kb seed cn wv tb f (preK c d g r s E K T)) (hh : halfS d.length = hf) (v : Value) :
  (w.setCell ⟨kb, 7, none⟩ v).cell? ⟨kb, 15, none⟩ = some (.int .i64 (E : Int)) ∧ (w.setCell ⟨kb, 7, none⟩ v).cell? ⟨kb, 11, none⟩ = some (.int .i64 (hf : Int)) ∧ (w.setCell ⟨kb, 7, none⟩ v).cell? ⟨kb, 7, none⟩ = some (cellAt (w.setCell ⟨kb, 7, none⟩ v) kb) ∧ (w.setCell ⟨kb, 7, none⟩ v).frozen? ⟨kb, 7, none⟩ = false ∧ kb < (w.setCell ⟨kb, 7, none⟩ v).heap.size := by
 have hb := h.blk.set 7 v;have c7 : (w.setCell ⟨kb, 7, none⟩ v).cell? ⟨kb, 7, none⟩ = some v := hb.cell 7;refine ⟨hb.cell 15, by rw [← hh]; exact hb.cell 11, ?_, hb.frozen 7, hb.lt⟩;unfold cellAt;rw [c7]; rfl
def roTo (w : World) (o : Nat × Option Kp) (e : Ending) (w' : World) : Prop :=
 match o.2 with
 | none => e = .returned (.tuple #[.pointer none, .int .i64 o.1]) ∧ Fr (fun _ => False) w w'
 | some m => ∃ kb F, e = .returned (.tuple #[.pointer (some ⟨kb, 0, none⟩), .int .i64 o.1]) ∧ DK w' kb F m ∧ (∀ b, F b → w.heap.size ≤ b) ∧ Fr (fun _ => False) w w'
theorem ropen_any (c : Cfg) (d : Bs) (w : World) (hc : c.secret.length ≤ 9223372036854775000) (hdl : d.length ≤ 9223372036854775807) :
  Calls Tryz.prog 39 #[.string (ofL d), cfgV c] w (roTo w (openK d c)) := by
 obtain ⟨O, hO⟩ : ∃ O, O = openK d c := ⟨_, rfl⟩;rw [← hO];have HCF : Hid (∀ w', Calls Tryz.prog 76 #[cfgV c] w' fun e w'' => e = .returned (.bool c.ok) ∧ Below w'.heap.size w' w'') := fun w' => dconf_any c w' hc;have HB0 : Hid (∀ o, Below w.heap.size w (w.alloc o)) := fun o => (Below.refl _ _).alloc (Nat.le_refl _) o;unfold cfgV at HCF ⊢;cases hok : c.ok with
 | false =>
  have HO : Hid (O = (2, none)) := by rw [hO]; unfold openK; rw [if_pos hok]; exact rfl
  rw [hok] at HCF;clear hO hok;go_enter Tryz.func39, Tryz.ntmps39;go_wp2_with fail;refine (HCF.out _).mono ?_;rintro e w1 ⟨rfl, hb1⟩;have HB1 : Hid (Below w.heap.size w w1) := bstep (HB0.out _) hb1;clear hb1 HCF;go_wp2_with fail;go_ret2;rw [HO.out];exact ⟨rfl, Fr.of_below HB1.out⟩
 | true =>
  rw [hok] at HCF;have HOK : Hid (c.ok = true) := hok;have HIN : Hid (∀ w', Calls Tryz.prog 77 #[.int .i64 (d.length : Int), .int .i64 384, .int .i64 6400] w' fun e w'' => e = .returned (.bool (decide (384 ≤ (d.length : Int) ∧ (d.length : Int) ≤ 6400))) ∧ w'' = w') := fun w' => din_any _ _ _ w';by_cases hsz : okSize d.length
  ·have HSZ : Hid (okSize d.length) := hsz;have hs := hsz;unfold okSize at hs;rw [decide_eq_true (by omega)] at HIN;have hmod : ((d.length : Int) % 32 != 0) = false := by rw [Bool.eq_false_iff]; intro e; rw [bne_iff_ne] at e; omega
   have HO : Hid (O = openK d c) := hO;have x1 : (ofL d).extract 0 32 = ofL (d.take 32) := by rw [extract_ofL]; simp
   have x2 : (ofL d).extract 32 64 = ofL ((d.drop 32).take 32) := by rw [extract_ofL]
   have HH1 : Hid (∀ w', Calls Tryz.prog 78 #[.string (ofL (d.take 32))] w' fun e w'' => e = .returned (.agg #[.int .i64 (headI (d.take 32)).1, .int .i64 (headI (d.take 32)).2]) ∧ Below w'.heap.size w' w'') := fun w' => headof_any _ w' (by rw [List.length_take]; omega);have HH2 : Hid (∀ w', Calls Tryz.prog 78 #[.string (ofL ((d.drop 32).take 32))] w' fun e w'' => e = .returned (.agg #[.int .i64 (headI ((d.drop 32).take 32)).1, .int .i64 (headI ((d.drop 32).take 32)).2]) ∧ Below w'.heap.size w' w'') := fun w' => headof_any _ w' (by rw [List.length_take, List.length_drop]; omega);have HTH : Hid (theHead d = if (bestH (headI (d.take 32)) (headI ((d.drop 32).take 32))).1 = 0 then none else some (bestH (headI (d.take 32)) (headI ((d.drop 32).take 32)))) := theHead_I d;have hhalf : (((d.length : Int) / 32) - 2) / 2 = (halfS d.length : Int) := by unfold halfS; omega
   have hl6 : d.length ≤ 6400 := by omega
   have hl3 : 384 ≤ d.length := by omega
   generalize headI (d.take 32) = h1 at *
   generalize headI ((d.drop 32).take 32) = h2 at *
   generalize d.take 32 = d1 at *
   generalize (d.drop 32).take 32 = d2 at *
   clear hO hok hsz hs;go_enter Tryz.func39, Tryz.ntmps39;go_wp2_with fail;refine (HCF.out _).mono ?_;rintro e w1 ⟨rfl, hb1⟩;have HC1 : Hid (Blk w1 w.heap.size #[.string (ofL c.secret), .int .i64 c.seed, .int .i64 c.idle, .int .i64 c.abs, .int .i64 c.now] 23) := (Blk.new w _ _).below hb1;have HB1 : Hid (Below w.heap.size w w1) := bstep (HB0.out _) hb1;clear hb1 HCF;go_wp2_with fail;refine (HIN.out _).mono ?_;rintro e w' ⟨rfl, hw'⟩;subst w';have q0 := HC1.out.cell 0;have q1 := HC1.out.cell 1;have q2 := HC1.out.cell 2;have q3 := HC1.out.cell 3;have q4 := HC1.out.cell 4;simp only [gT, gZ, gS] at q0 q1 q2 q3 q4;clear HIN;go_upto_region 8 with fail
   obtain ⟨w2, hw2⟩ : ∃ w2, w2 = w1.alloc (.cells #[.string (ofL c.secret), .int .i64 c.seed, .int .i64 c.idle, .int .i64 c.abs, .int .i64 c.now, .int .i64 c.now, .int .i64 c.seed, .string (ofL d), .slice none 0 0, .int .i64 0, .bool false, .int .i64 (halfS d.length : Int), .int .i64 0, .int .i64 0, .int .i64 0, .int .i64 0, .int .i64 0, .slice none 0 0] 131) := ⟨_, rfl⟩;rw [← hw2];have HK2 : Hid (Blk w2 w1.heap.size (kA0 c d 0 0 0 0 0 (.slice none 0 0)) 131) := by rw [hw2]; exact Blk.new w1 _ _
   have HB2 : Hid (Below w.heap.size w w2) := by rw [hw2]; exact HB1.out.alloc HB1.out.size _
   have hkw : w.heap.size < w1.heap.size := HC1.out.lt;obtain ⟨kb, hkb⟩ : ∃ kb, kb = w1.heap.size := ⟨_, rfl⟩;rw [← hkb] at HK2 hkw ⊢;clear hw2 hkb q0 q1 q2 q3 q4 HC1 hhalf hmod;go_wp2_with fail;refine (HH1.out _).mono ?_;rintro e w3 ⟨rfl, hb3⟩;have HK3 : Hid (Blk w3 kb (kA0 c d 0 0 0 0 0 (.slice none 0 0)) 131) := HK2.out.below hb3;have HB3 : Hid (Below w.heap.size w w3) := bstep HB2.out hb3;have c12 := HK3.out.cell 12;have c13 := HK3.out.cell 13;simp only [kA0, gT, gZ, gS] at c12 c13;have f12 := HK3.out.frozen 12;have f13 := HK3.out.frozen 13;clear hb3 HH1 HK2 HB2;go_upto_region 9 with fail
   obtain ⟨w4, hw4⟩ : ∃ w4, w4 = (w3.setCell ⟨kb, 12, none⟩ (.int .i64 (h1.1 : Int))).setCell ⟨kb, 13, none⟩ (.int .i64 (h1.2 : Int)) := ⟨_, rfl⟩;rw [← hw4];have HK4 : Hid (Blk w4 kb (kA0 c d h1.1 h1.2 0 0 0 (.slice none 0 0)) 131) := by rw [hw4]; exact (HK3.out.set 12 (.int .i64 (h1.1 : Int))).set 13 (.int .i64 (h1.2 : Int))
   have HF4 : Hid (Fr (fun _ => False) w w4) := by rw [hw4]; exact ((Fr.of_below HB3.out).trans (fr_cell 12 _) (fun i hi e => by omega)).trans (fr_cell 13 _) (fun i hi e => by omega)
   clear hw4 c12 c13 f12 f13 HK3 HB3;go_wp2_with fail;refine (HH2.out _).mono ?_;rintro e w5 ⟨rfl, hb5⟩;have HK5 : Hid (Blk w5 kb (kA0 c d h1.1 h1.2 0 0 0 (.slice none 0 0)) 131) := HK4.out.below hb5;have HF5 : Hid (Fr (fun _ => False) w w5) := HF4.out.trans (Fr.of_below (S := fun _ => False) hb5) (fun _ _ h => h);clear hb5 HH2 HK4 HF4;go_upto_region 10 with fail
   obtain ⟨w6, hw6⟩ : ∃ w6, w6 = w5.alloc (.cells #[.int .i64 (h2.1 : Int), .int .i64 (h2.2 : Int)] 127) := ⟨_, rfl⟩;rw [← hw6];have HK6 : Hid (Blk w6 kb (kA0 c d h1.1 h1.2 0 0 0 (.slice none 0 0)) 131) := by rw [hw6]; exact HK5.out.alloc _
   have HO6 : Hid (Blk w6 w5.heap.size #[.int .i64 (h2.1 : Int), .int .i64 (h2.2 : Int)] 127) := by rw [hw6]; exact Blk.new w5 _ _
   have HF6 : Hid (Fr (fun _ => False) w w6) := by rw [hw6]; exact HF5.out.trans (Fr.of_below (S := fun _ => False) (bA)) (fun _ _ h => h)
   have hok5 : kb < w5.heap.size := HK5.out.lt;obtain ⟨ob, hob⟩ : ∃ ob, ob = w5.heap.size := ⟨_, rfl⟩;rw [← hob] at HO6 hok5 ⊢;clear hw6 hob HK5 HF5;have c12 := HK6.out.cell 12;have o0 := HO6.out.cell 0;simp only [kA0, gT, gZ, gS] at c12 o0;obtain ⟨B, hBB⟩ : ∃ B : Bool, B = decide (h1.1 < h2.1) := ⟨_, rfl⟩;have HBB : Hid (B = decide (h1.1 < h2.1)) := hBB;clear hBB
   go_cut [60] (fun cv wx => cv = .bool B ∧ Hid (Below w6.heap.size w6 wx))
   case first =>
    go_quiet (fail)
    go_wp2_with fail;go_meet
    case rel => exact ⟨by rw [HBB.out], below_drewN (Below.refl _ _) _⟩
   case rest =>
   obtain ⟨rfl, HBC⟩ := hcut;obtain ⟨w7, hw7⟩ : ∃ w7, w7 = wc := ⟨_, rfl⟩;subst hw7;have HK7 : Hid (Blk w7 kb (kA0 c d h1.1 h1.2 0 0 0 (.slice none 0 0)) 131) := HK6.out.below HBC.out;have HO7 : Hid (Blk w7 ob #[.int .i64 (h2.1 : Int), .int .i64 (h2.2 : Int)] 127) := HO6.out.below HBC.out;have HF7 : Hid (Fr (fun _ => False) w w7) := HF6.out.trans (Fr.of_below (S := fun _ => False) HBC.out) (fun _ _ h => h);clear HK6 HO6 HF6 c12 o0;obtain ⟨H, hH⟩ : ∃ H, H = bestH h1 h2 := ⟨_, rfl⟩;rw [← hH] at HTH;have HHB : Hid (H = bestH h1 h2) := hH;clear hH;go_upto_if 60 with fail
   go_cut [] (fun wx => Hid (Blk wx kb (kA0 c d H.1 H.2.1 H.2.2 0 0 (.slice none 0 0)) 131 ∧ Fr (fun _ => False) w wx))
   case first =>
    cases B with
    | true =>
     have hlt := of_decide_eq_true HBB.out.symm;have hH : H = (h2.1, h2.2, 1) := by rw [HHB.out]; exact if_pos hlt
     have HE : Hid (Blk (((w7.setCell ⟨kb, 12, none⟩ (.int .i64 (h2.1 : Int))).setCell ⟨kb, 13, none⟩ (.int .i64 (h2.2 : Int))).setCell ⟨kb, 14, none⟩ (.int .i64 1)) kb (kA0 c d H.1 H.2.1 H.2.2 0 0 (.slice none 0 0)) 131 ∧ Fr (fun _ => False) w (((w7.setCell ⟨kb, 12, none⟩ (.int .i64 (h2.1 : Int))).setCell ⟨kb, 13, none⟩ (.int .i64 (h2.2 : Int))).setCell ⟨kb, 14, none⟩ (.int .i64 1))) := by
      rw [hH];exact ⟨((HK7.out.set 12 (.int .i64 (h2.1 : Int))).set 13 (.int .i64 (h2.2 : Int))).set 14 (.int .i64 1), ((HF7.out.trans (fr_cell 12 _) (fun i hi e => by omega)).trans (fr_cell 13 _) (fun i hi e => by omega)).trans (fr_cell 14 _) (fun i hi e => by omega)⟩
     have c12 := HK7.out.cell 12;have c13 := HK7.out.cell 13;have c14 := HK7.out.cell 14;have o0 := HO7.out.cell 0;have o1 := HO7.out.cell 1;simp only [kA0, gT, gZ, gS] at c12 c13 c14 o0 o1;have f12 := HK7.out.frozen 12;have f13 := HK7.out.frozen 13;have f14 := HK7.out.frozen 14;clear hlt hH;go_wp2_with fail;go_meet
     case rel => exact HE
    | false =>
     have hlt := of_decide_eq_false HBB.out.symm;have hH : H = (h1.1, h1.2, 0) := by rw [HHB.out]; exact if_neg hlt
     have HE : Hid (Blk w7 kb (kA0 c d H.1 H.2.1 H.2.2 0 0 (.slice none 0 0)) 131 ∧ Fr (fun _ => False) w w7) := by rw [hH]; exact ⟨HK7.out, HF7.out⟩
     clear hlt hH;go_wp2_with fail;go_meet
     case rel => exact HE
   case rest =>
   obtain ⟨w8, hw8⟩ : ∃ w8, w8 = wc := ⟨_, rfl⟩;subst hw8;have HK8 : Hid (Blk w8 kb (kA0 c d H.1 H.2.1 H.2.2 0 0 (.slice none 0 0)) 131) := hcut.out.1;have HF8 : Hid (Fr (fun _ => False) w w8) := hcut.out.2;clear HK7 HO7 HF7 HHB hcut;have c12 := HK8.out.cell 12;simp only [kA0, gT, gZ, gS] at c12;by_cases hg0 : H.1 = 0
   ·have HOO : Hid (O = (3, none)) := by
     rw [HO.out];exact openK_none HOK.out HSZ.out (by unfold readD; rw [HTH.out, if_pos hg0])
    rw [hg0] at c12;clear hg0 HO HTH;go_wp2_with fail;go_ret2;rw [HOO.out];exact ⟨rfl, HF8.out⟩
   ·have hth : theHead d = some H := by rw [HTH.out, if_neg hg0]
    obtain ⟨g, r, s⟩ := H;obtain ⟨hg1, hg2, hr1, hs1, _⟩ := theHead_bounds hth;have hz0 : ((g : Int) == 0) = false := by rw [Bool.eq_false_iff]; intro e; rw [beq_iff_eq] at e; omega
    have HTH2 : Hid (theHead d = some (g, r, s)) := hth;have HBD : Hid (1 ≤ g ∧ g < 4294967296 ∧ r ≤ 1 ∧ s ≤ 1) := ⟨hg1, hg2, hr1, hs1⟩;have hreg := regAt_le HSZ.out hr1;have hhb := half_bounds HSZ.out;obtain ⟨hf, hhf⟩ : ∃ hf, hf = halfS d.length := ⟨_, rfl⟩;have HHF : Hid (halfN d.length = 32 * hf) := by rw [hhf]; exact rfl
    have HRA : Hid (64 + 32 * hf * r = regAt d.length r) := by rw [hhf]; exact rfl
    obtain ⟨ra, hra⟩ : ∃ ra, ra = regAt d.length r := ⟨_, rfl⟩;have hra2 : ra + 32 * hf ≤ d.length := by rw [hra, ← HHF.out]; exact hreg.1
    have hhf1 : hf ≤ 100 := by have := HHF.out; omega
    have hhf2 : 5 ≤ hf := by have := HHF.out; omega
    obtain ⟨l, hl⟩ : ∃ l, l = regionB d r := ⟨_, rfl⟩;have hll : l.length = 32 * hf := by rw [hl, region_length HSZ.out hr1, HHF.out]
    have HX3 : Hid ((ofL d).extract ra (ra + 32 * hf) = ofL l) := by
     show _ = _;rw [extract_ofL, show ra + 32 * hf - ra = 32 * hf by omega, hl, ← HHF.out, hra];exact rfl
    have HRD : Hid (readD d = readReg g r s l) := by show _ = _; unfold readD; rw [hth, hl]
    have HRAE : Hid (ra = regAt d.length r) := hra;have c11 := HK8.out.cell 11;have c13 := HK8.out.cell 13;simp only [kA0, gT, gZ, gS] at c11 c13;rw [← hhf] at c11;have HSTA : Hid (Calls _ _ _ _ _) := dstart_c kb hf r w8 c11 hhf1 hr1;rw [HRA.out, ← hra] at HSTA;clear hg0 HTH hth hreg hhb hhf hra hl hg1 hs1;go_wp2_with fail;refine HSTA.out.mono ?_;rintro e w' ⟨rfl, hw'⟩;subst w';clear HSTA;have x3 := HX3.out;have b1 : (0 : Int) ≤ (ra : Int) := by omega
    have b2 : (ra : Int) ≤ (ra : Int) + 32 * (hf : Int) := by omega
    have b3 : (ra : Int) + 32 * (hf : Int) ≤ (d.length : Int) := by omega
    have HFI : Hid (∀ w', Calls Tryz.prog 80 #[.string (ofL l), .int .i64 (g : Int), .int .i64 0] w' fun e w'' => e = .returned (firV (firstB g 0 l)) ∧ Below w'.heap.size w' w'') := fun w' => dfirst_any l g 0 w' (by omega) hg2 (by omega);have HX1 : Hid ((ofL d).extract 0 32 = ofL d1) := x1;go_upto_region 17 with fail
    rw [HX3.out];clear x1 x2 x3 b1 b2 b3 c11 c13 HX1;go_wp2_with fail;refine (HFI.out _).mono ?_;rintro e w9 ⟨rfl, hb9⟩;have HK9 : Hid (Blk w9 kb (kA0 c d g r s 0 0 (.slice none 0 0)) 131) := HK8.out.below hb9;have HF9 : Hid (Fr (fun _ => False) w w9) := HF8.out.trans (Fr.of_below (S := fun _ => False) hb9) (fun _ _ h => h);clear hb9 HFI c12 HK8 HF8;cases hfb : firstB g 0 l with
    | none =>
     have HOO : Hid (O = (3, none)) := by
      rw [HO.out];exact openK_none HOK.out HSZ.out (by rw [HRD.out]; unfold readReg; rw [hfb])
     rw [show firV none = .tuple #[.string ⟨#[]⟩, .bool false] from rfl];clear hfb HO HRD;go_wp2_with fail;go_ret2;rw [HOO.out];exact ⟨rfl, HF9.out⟩
    | some p =>
     have hpl := firstB_len hfb;have HFB : Hid (firstB g 0 l = some p) := hfb;have HSN : Hid (∀ w', Calls _ _ _ w' _) := fun w' => rsnapof_any p w' (by omega);rw [show firV (some p) = .tuple #[.string (ofL p), .bool true] from rfl];clear hfb;go_wp2_with fail;refine (HSN.out _).mono ?_;rintro e wa ⟨tb, T, f, rfl, hrt, hwf, hst, hown, hfra⟩;cases hsn : snapR p with
     | none =>
      have HOO : Hid (O = (3, none)) := by
       rw [HO.out];refine openK_none HOK.out HSZ.out ?_;rw [HRD.out]; unfold readReg; rw [HFB.out];simp only;rw [← snapR_eq, hsn]
      have HFA : Hid (Fr (fun _ => False) w wa) := HF9.out.trans hfra (fun _ _ h => h);rw [show (none : Option Tab).isSome = false from rfl];clear hsn hst hrt hwf hown hfra HSN HO HRD;go_wp2_with fail;go_ret2;rw [HOO.out];exact ⟨rfl, HFA.out⟩
     | some T' =>
      obtain rfl := hst T' hsn;rw [show (some T').isSome = true from rfl];have HRR : Hid (readD d = some ⟨g, r, s, p.length + 10 + (replay l.length g 1 T' (l.drop (p.length + 10))).2.1, (replay l.length g 1 T' (l.drop (p.length + 10))).2.2, (replay l.length g 1 T' (l.drop (p.length + 10))).1⟩) := by
       show _ = _;rw [HRD.out]; unfold readReg; rw [HFB.out];simp only;rw [← snapR_eq, hsn]
      have HOI := OI.start (g := g) HFB.out hwf;obtain ⟨R, hR⟩ : ∃ R, R = replay l.length g 1 T' (l.drop (p.length + 10)) := ⟨_, rfl⟩;rw [← hR] at HRR HOI;have HKA : Hid (Blk wa kb (kA0 c d g r s 0 0 (.slice none 0 0)) 131) := HK9.out.kept hfra (fun h => h);have HFA : Hid (Fr (fun _ => False) w wa) := HF9.out.trans hfra (fun _ _ h => h);have hk9 : kb < w9.heap.size := HK9.out.lt;have hw9 := HF9.out.size;have c15 := HKA.out.cell 15;have c16 := HKA.out.cell 16;have c17 := HKA.out.cell 17;simp only [kA0, gT, gZ, gS] at c15 c16 c17;have f15 := HKA.out.frozen 15;have f16 := HKA.out.frozen 16;have f17 := HKA.out.frozen 17;obtain ⟨wb, hwb⟩ : ∃ wb, wb = ((wa.setCell ⟨kb, 17, none⟩ (.slice (some ⟨tb, 0, none⟩) 4096 4096)).setCell ⟨kb, 15, none⟩ (.int .i64 ((p.length : Int) + 10))).setCell ⟨kb, 16, none⟩ (.int .i64 1) := ⟨_, rfl⟩;have hfrb : Fr (fun b => b = kb) wa wb := by rw [hwb]; exact ((fr_cell 17 _).trans (fr_cell 15 _) (fun _ _ h => h)).trans (fr_cell 16 _) (fun _ _ h => h)
      have hbkb : Blk wb kb (kA0 c d g r s (p.length + 10) 1 (.slice (some ⟨tb, 0, none⟩) 4096 4096)) 131 := by
       rw [hwb, show ((p.length : Int) + 10) = ((p.length + 10 : Nat) : Int) by omega];exact ((HKA.out.set 17 (.slice (some ⟨tb, 0, none⟩) 4096 4096)).set 15 (.int .i64 ((p.length + 10 : Nat) : Int))).set 16 (.int .i64 1)
      rw [kA0_rkA HOK.out d g r s (p.length + 10) 1 T' tb] at hbkb;have hnk : ∀ b, rfoot tb f b → b ≠ kb := fun b hb e => by have := hown b hb; omega
      have HPB : Hid (DKP wb kb c.seed c.now (.slice none 0 0) tb f (preK c d g r s (p.length + 10) 1 T')) :=
       ⟨hbkb, hrt.kept hfrb hnk, Own.nil _ _ _ _, fun hb => hnk kb hb rfl, (fun b hb => by cases hb), preK_bnd HOK.out HSZ.out hwf hg2 hr1 HBD.out.2.2.2 (by omega) (by decide)⟩
      have HOW : Hid (∀ b, rfoot tb f b → w.heap.size ≤ b) := fun b hb => Nat.le_trans hw9 (hown b hb);have HFB2 : Hid (Fr (fun _ => False) w wb) := HFA.out.trans hfrb (fun i hi e => by omega);have HOI : Hid (OI l g (p.length + 10) R (p.length + 10) 1 T') := HOI;clear hfrb hbkb hnk hrt hwf hown hfra hsn hst hR HSN HRD;have HLL : Hid (l.length = 32 * hf) := hll;have hl32 : l.length ≤ 3200 := by omega
      go_upto_block 0 with fail
      rw [← hwb];clear hll;clear hwb c15 c16 c17 f15 f16 f17 HKA HFA HK9 HF9
      go_cut [] (fun wx => Hid (∃ f, DKP wx kb c.seed c.now (.slice none 0 0) tb f (preK c d g r s (p.length + 10 + R.2.1) R.2.2 R.1) ∧ (∀ b, rfoot tb f b → w.heap.size ≤ b) ∧ Fr (fun _ => False) w wx))
      case first =>
       go_wp2_with fail
       go_loopw [12] (fun _ wx => ∃ (e k : Nat) (T : Tab) (f : RF), Hid (OI l g (p.length + 10) R e k T) ∧ Hid (DKP wx kb c.seed c.now (.slice none 0 0) tb f (preK c d g r s e k T)) ∧ Hid (∀ b, rfoot tb f b → w.heap.size ≤ b) ∧ Hid (Fr (fun _ => False) w wx)) (fun _ wx => eleft wx kb)
       case atStart => exact ⟨_, _, _, _, HOI, HPB, HOW, HFB2⟩
       case round =>
        clear HOI HPB HOW HFB2 HRR HO;obtain ⟨e, k, T, f, HL, HP, HOw, HFr⟩ := hrel;have hle := HL.out.le;have hk1 := HL.out.k1;have c12 := HP.out.blk.cell 12;have c15 := HP.out.blk.cell 15;have c16 := HP.out.blk.cell 16;simp only [rkA, preK, gT, gZ, gS] at c12 c15 c16;have hkl := HP.out.blk.lt;have x4 : (ofL l).extract e l.length = ofL (l.drop e) := by rw [extract_ofL, List.take_of_length_le (by rw [List.length_drop]; exact Nat.le_refl _)]
        have b1 : (0 : Int) ≤ (e : Int) := by omega
        have b2 : (e : Int) ≤ (l.length : Int) := by omega
        have HFR : Hid (∀ w', Calls Tryz.prog 80 #[.string (ofL (l.drop e)), .int .i64 (g : Int), .int .i64 (k : Int)] w' fun e' w'' => e' = .returned (firV (firstB g k (l.drop e))) ∧ Below w'.heap.size w' w'') := fun w' => dfirst_any (l.drop e) g k w' (by rw [List.length_drop]; omega) hg2 (by omega);cases hfb : firstB g k (l.drop e) with
        | none =>
         rw [hfb, show firV none = .tuple #[.string ⟨#[]⟩, .bool false] from rfl] at HFR;obtain ⟨r1, r2, r3⟩ := HL.out.stop hfb;have HRS : Hid (R.1 = T ∧ p.length + 10 + R.2.1 = e ∧ R.2.2 = k) := ⟨r1, r2, r3⟩;clear hfb r1 r2 r3 HL;go_upto_region 26 with fail
         go_region_held3 (fun w' => w'.cell? ⟨kb, 12, none⟩ = some (.int .i64 (g : Int)) ∧ w'.cell? ⟨kb, 15, none⟩ = some (.int .i64 (e : Int)) ∧ w'.cell? ⟨kb, 16, none⟩ = some (.int .i64 (k : Int)) ∧ kb < w'.heap.size ∧ Below wr.heap.size wr w')
          (first
           | exact kstep3 (by assumption) (by assumption)
           | assumption
           | exact ⟨c12, c15, c16, hkl, (Below.refl _ _).drew⟩)
          (first
           | (go_at_call 80; refine (HFR.out _).mono ?_; rintro e' w' ⟨rfl, hbN⟩))
         rename_i hHeld;have HBn : Hid (Below wr.heap.size wr w') := hHeld.2.2.2.2;clear hHeld hbN;go_wp2_with fail;go_meet
         case rel =>
          obtain ⟨r1, r2, r3⟩ := HRS.out;rw [r1, r2, r3];exact ⟨f, HP.out.kept (Fr.of_below (S := fun _ => False) HBn.out) (fun _ _ h => h), HOw.out, HFr.out.trans (Fr.of_below (S := fun _ => False) HBn.out) (fun _ _ h => h)⟩
        | some q =>
         rw [hfb, show firV (some q) = .tuple #[.string (ofL q), .bool true] from rfl] at HFR;have hql := firstB_len hfb;rw [List.length_drop] at hql;have HFQ : Hid (firstB g k (l.drop e) = some q) := hfb;have HQL : Hid (e + q.length + 10 ≤ l.length) := by show _ ≤ _; omega
         clear hfb;go_upto_region 26 with fail
         go_region_held3 (fun w' => w'.cell? ⟨kb, 12, none⟩ = some (.int .i64 (g : Int)) ∧ w'.cell? ⟨kb, 15, none⟩ = some (.int .i64 (e : Int)) ∧ w'.cell? ⟨kb, 16, none⟩ = some (.int .i64 (k : Int)) ∧ kb < w'.heap.size ∧ Below wr.heap.size wr w')
          (first
           | exact kstep3 (by assumption) (by assumption)
           | assumption
           | exact ⟨c12, c15, c16, hkl, (Below.refl _ _).drew⟩)
          (first
           | (go_at_call 80; refine (HFR.out _).mono ?_; rintro e' w' ⟨rfl, hbN⟩))
         rename_i hHeld;have HBn : Hid (Below wr.heap.size wr w') := hHeld.2.2.2.2;obtain ⟨w3, hw3⟩ : ∃ w3, w3 = w' := ⟨_, rfl⟩;subst hw3;clear hHeld hbN c12 c15 c16 x4 b1 b2 HFR;have HP3 : Hid (DKP w3 kb c.seed c.now (.slice none 0 0) tb f (preK c d g r s e k T)) := HP.out.kept (Fr.of_below (S := fun _ => False) HBn.out) (fun _ _ h => h);have HF3 : Hid (Fr (fun _ => False) w w3) := HFr.out.trans (Fr.of_below (S := fun _ => False) HBn.out) (fun _ _ h => h);have c17 := HP3.out.blk.cell 17;simp only [rkA, preK, gT, gZ, gS] at c17;have HDO : Hid (Calls _ _ _ _ _) := rdo_any tb T f q w3 HP3.out.tab HL.out.wf (by omega);cases htk : T.takes q with
         | none =>
          obtain ⟨r1, r2, r3⟩ := HL.out.unfit HFQ.out htk;have HRS : Hid (R.1 = T ∧ p.length + 10 + R.2.1 = e ∧ R.2.2 = k) := ⟨r1, r2, r3⟩;have HWT : Hid T.wf := HL.out.wf;rw [htk] at HDO;clear htk r1 r2 r3 HL;go_wp2_with fail;refine HDO.out.mono ?_;rintro e' w4 ⟨rfl, f4, hr4, hf4, hn4⟩;rw [show (none : Option Tab).isSome = false from rfl];have HP4 : Hid (DKP w4 kb c.seed c.now (.slice none 0 0) tb f4 (preK c d g r s e k T)) := HP3.out.did hr4 hf4 hn4 HWT.out;have HF4 : Hid (Fr (fun _ => False) w w4) := HF3.out.trans hf4 (fun i hi e' => by have := HOw.out tb (Or.inl rfl); omega);have HN4 : Hid (∀ b, rfoot tb f4 b → w.heap.size ≤ b) := fun b hb => by
           rcases hn4 b hb with h | h
           ·exact HOw.out b h
           ·exact Nat.le_trans HF3.out.size h
          clear hr4 hf4 hn4 HDO c17;go_wp2_with fail;go_meet
          case rel =>
           obtain ⟨r1, r2, r3⟩ := HRS.out;rw [r1, r2, r3];exact ⟨f4, HP4.out, HN4.out, HF4.out⟩
         | some T2 =>
          have HL2 := HL.out.fit HFQ.out htk;have HL2 : Hid (OI l g (p.length + 10) R (e + q.length + 10) (k + 1) T2) := HL2;rw [htk] at HDO;clear htk HL;go_wp2_with fail;refine HDO.out.mono ?_;rintro e' w4 ⟨rfl, f4, hr4, hf4, hn4⟩;rw [show (some T2).isSome = true from rfl];have HP4 : Hid (DKP w4 kb c.seed c.now (.slice none 0 0) tb f4 (preK c d g r s e k T2)) := HP3.out.did hr4 hf4 hn4 HL2.out.wf;have HF4 : Hid (Fr (fun _ => False) w w4) := HF3.out.trans hf4 (fun i hi e' => by have := HOw.out tb (Or.inl rfl); omega);have HN4 : Hid (∀ b, rfoot tb f4 b → w.heap.size ≤ b) := fun b hb => by
           rcases hn4 b hb with h | h
           ·exact HOw.out b h
           ·exact Nat.le_trans HF3.out.size h
          clear hr4 hf4 hn4 HDO c17;have c15 := HP4.out.blk.cell 15;have c16 := HP4.out.blk.cell 16;simp only [rkA, preK, gT, gZ, gS] at c15 c16;have f15 := HP4.out.blk.frozen 15;have f16 := HP4.out.blk.frozen 16;obtain ⟨w5, hw5⟩ : ∃ w5, w5 = (w4.setCell ⟨kb, 15, none⟩ (.int .i64 ((e : Int) + (q.length : Int) + 10))).setCell ⟨kb, 16, none⟩ (.int .i64 ((k : Int) + 1)) := ⟨_, rfl⟩;have hfr : Fr (fun b => b = kb) w4 w5 := by rw [hw5]; exact (fr_cell 15 _).trans (fr_cell 16 _) (fun _ _ h => h)
          have hbk : Blk w5 kb (rkA (preK c d g r s (e + q.length + 10) (k + 1) T2) c.seed c.now (.slice none 0 0) tb) 131 := by
           rw [hw5, show ((e : Int) + (q.length : Int) + 10) = ((e + q.length + 10 : Nat) : Int) by omega, show ((k : Int) + 1) = ((k + 1 : Nat) : Int) by omega];exact (HP4.out.blk.set 15 (.int .i64 ((e + q.length + 10 : Nat) : Int))).set 16 (.int .i64 ((k + 1 : Nat) : Int))
          have HP5 : Hid (DKP w5 kb c.seed c.now (.slice none 0 0) tb f4 (preK c d g r s (e + q.length + 10) (k + 1) T2)) :=
           HP4.out.turned hfr hbk rfl rfl (preK_bnd HOK.out HSZ.out HL2.out.wf hg2 hr1 HBD.out.2.2.2 (by have := HQL.out; omega) (by omega))
          have HF5 : Hid (Fr (fun _ => False) w w5) := HF4.out.trans hfr (fun i hi e' => by omega);have HM : Hid (eleft w5 kb < eleft wr kb) := by
           show _ < _;rw [eleft_eq HP5.out, eleft_eq HP.out];show 7000 - (e + q.length + 10) < 7000 - e;have := HQL.out;omega
          clear hfr hbk;go_wp2_with fail;rw [← hw5];go_roundw
          case rel => exact ⟨_, _, _, _, HL2, HP5, HN4, HF5⟩
          case measure => exact HM.out
      case rest =>
      obtain ⟨wd, hwd⟩ : ∃ wd, wd = wc := ⟨_, rfl⟩;subst hwd;clear HOI HPB HOW HFB2;obtain ⟨f, hp, how, hfr⟩ := hcut.out;obtain ⟨E, hE⟩ : ∃ E, E = p.length + 10 + R.2.1 := ⟨_, rfl⟩;rw [← hE] at hp HRR;obtain ⟨hh1, hh2⟩ := read_holds HSZ.out HRR.out;have hbb := hh1.bounds;have hEl : E ≤ 32 * hf := by have := hbb.2.2.2.2.1; rw [hh2, HHF.out] at this; exact this
      have HOO : Hid (O = (0, some (openM d c ⟨g, r, s, E, R.2.2, R.1⟩))) := by rw [HO.out]; exact openK_some HOK.out HSZ.out HRR.out
      obtain ⟨CD, hCD⟩ : ∃ CD, CD = cleanD d ⟨g, r, s, E, R.2.2, R.1⟩ := ⟨_, rfl⟩;rw [← hCD] at hh2;have HCL : Hid (ofL (d.take (ra + E)) ++ ofL (zeros (32 * hf - E)) ++ ofL (d.drop (ra + 32 * hf)) = ofL CD) := by
       show _ = _;rw [hCD];show _ = ofL (d.take (regAt d.length r + E) ++ zeros (halfN d.length - E) ++ d.drop (regAt d.length r + halfN d.length));rw [← HRAE.out, HHF.out];apply toL_inj;simp only [toL_append, toL_ofL]
      have HHS : Hid (halfS d.length = hf) := by have := HHF.out; rw [halfS_N] at this; show _ = _; omega
      have HCDL : Hid (CD.length = d.length) := hh2;have HM : Hid (openM d c ⟨g, r, s, E, R.2.2, R.1⟩ = preK c CD g r s E R.2.2 R.1) := by rw [hCD]; exact rfl
      have HPD : Hid (DKP wd.drew kb c.seed c.now (.slice none 0 0) tb f (preK c d g r s E R.2.2 R.1)) := hp.kept ((Fr.refl (fun _ => False) wd).drew) (fun _ _ h => h);have HFD : Hid (Fr (fun _ => False) w wd.drew) := hfr.drew;have HOW : Hid (∀ b, rfoot tb f b → w.heap.size ≤ b) := how;have x5 : (ofL d).extract 0 (ra + E) = ofL (d.take (ra + E)) := by rw [extract_ofL]; simp
      have x6 : (ofL d).extract (ra + 32 * hf) d.length = ofL (d.drop (ra + 32 * hf)) := by rw [extract_ofL, List.take_of_length_le (by rw [List.length_drop]; exact Nat.le_refl _)]
      have HNO : Hid (∀ w', Calls Tryz.prog 83 #[.int .i64 (32 * (hf : Int) - (E : Int))] w' fun e w'' => e = .returned (.string (ofL (zeros (32 * hf - E)))) ∧ Below w'.heap.size w' w'') := fun w' => by
       have := noughts_any (32 * hf - E) w' (by omega);rw [noughtsB] at this
       rwa [show ((32 * hf - E : Nat) : Int) = 32 * (hf : Int) - (E : Int) by omega] at this
      have b1 : (0 : Int) ≤ (ra : Int) + (E : Int) := by omega
      have b2 : (ra : Int) + (E : Int) ≤ (d.length : Int) := by omega
      have b3 : (0 : Int) ≤ (ra : Int) + 32 * (hf : Int) := by omega
      have b4 : (ra : Int) + 32 * (hf : Int) ≤ (d.length : Int) := by omega
      have e1 : IntKind.i64.wrap ((ra : Int) + (E : Int)) = (ra : Int) + (E : Int) := by rw [IntKind.wrap_i64]; omega
      have e2 : IntKind.i64.wrap (32 * (hf : Int)) = 32 * (hf : Int) := by rw [IntKind.wrap_i64]; omega
      have e3 : IntKind.i64.wrap (32 * (hf : Int) - (E : Int)) = 32 * (hf : Int) - (E : Int) := by rw [IntKind.wrap_i64]; omega
      have e4 : IntKind.i64.wrap ((ra : Int) + 32 * (hf : Int)) = (ra : Int) + 32 * (hf : Int) := by rw [IntKind.wrap_i64]; omega
      have n1 : ((ra : Int) + (E : Int)).toNat = ra + E := by omega
      have n2 : ((ra : Int) + 32 * (hf : Int)).toNat = ra + 32 * hf := by omega
      have s1 : (d.take (ra + E)).length ≤ 6400 := by rw [List.length_take]; omega
      have s2 : (zeros (32 * hf - E)).length ≤ 6400 := by rw [zeros_length]; omega
      have s3 : (d.drop (ra + 32 * hf)).length ≤ 6400 := by rw [List.length_drop]; omega
      clear hp how hfr hE hh1 hh2 hbb hCD hcut HRR HO;generalize d.take (ra + E) = A1 at *
      generalize zeros (32 * hf - E) = A2 at *
      generalize d.drop (ra + 32 * hf) = A3 at *
      have p1 : ¬ (9223372036854775807 < A1.length + A2.length) := by omega
      have p2 : ¬ (9223372036854775807 < A1.length + A2.length + A3.length) := by omega
      have hpd := HPD.out;clear s1 s2 s3 hEl hra2;go_upto_region 32 with fail
      go_region_held3 (fun w' => w'.cell? ⟨kb, 15, none⟩ = some (.int .i64 (E : Int)) ∧ w'.cell? ⟨kb, 11, none⟩ = some (.int .i64 (hf : Int)) ∧ w'.cell? ⟨kb, 7, none⟩ = some (cellAt w' kb) ∧ w'.frozen? ⟨kb, 7, none⟩ = false ∧ kb < w'.heap.size)
       (first
        | assumption
        | exact dsk (by assumption) HHS.out
        | exact dsk_set (by assumption) HHS.out _)
       (first
        | (go_at_call 83; refine (HNO.out _).mono ?_; rintro e w' ⟨rfl, hbN⟩; have hpn := HPD.out.kept (Fr.of_below (S := fun _ => False) hbN) (fun _ _ h => h)))
      have hbk := hpn.blk.set 7 (.string (ofL CD));have hrk : rkA (preK c CD g r s E R.2.2 R.1) c.seed c.now (.slice none 0 0) tb = (rkA (preK c d g r s E R.2.2 R.1) c.seed c.now (.slice none 0 0) tb).setIfInBounds 7 (.string (ofL CD)) := by
       unfold rkA preK;simp only;rw [HCDL.out];rfl
      rw [← hrk] at hbk;have HDK : Hid (DKP (w'.setCell ⟨kb, 7, none⟩ (.string (ofL CD))) kb c.seed c.now (.slice none 0 0) tb f (preK c CD g r s E R.2.2 R.1)) :=
       hpn.turned (fr_cell 7 _) hbk rfl rfl (preK_bnd HOK.out (by rw [HCDL.out]; exact HSZ.out) hpn.bnd.wf hg2 hr1 HBD.out.2.2.2 hpn.bnd.endp hpn.bnd.next)
      have HFE : Hid (Fr (fun _ => False) w (w'.setCell ⟨kb, 7, none⟩ (.string (ofL CD)))) := (HFD.out.trans (Fr.of_below (S := fun _ => False) hbN) (fun _ _ h => h)).trans (fr_cell 7 _) (fun i hi e => by omega);rw [HCL.out];clear hbk hrk hpn hpd hbN;go_wp2_with fail;go_ret2;rw [HOO.out];refine ⟨kb, rkfoot kb tb f (.slice none 0 0), rfl, ⟨_, _, _, _, _, by rw [HM.out]; exact HDK.out, fun _ => Iff.rfl⟩, fun b hb => ?_, HFE.out⟩;rcases hb with hb | hb | hb
      ·omega
      ·exact HOW.out b hb
      ·cases hb
  ·have HO : Hid (O = (3, none)) := by rw [hO]; exact openK_size hok hsz
   unfold okSize at hsz;clear hO hok;by_cases hin : 384 ≤ (d.length : Int) ∧ (d.length : Int) ≤ 6400
   ·rw [decide_eq_true hin] at HIN;have hmod : ((d.length : Int) % 32 != 0) = true := by rw [bne_iff_ne]; omega
    clear hsz hin;go_enter Tryz.func39, Tryz.ntmps39;go_wp2_with fail;refine (HCF.out _).mono ?_;rintro e w1 ⟨rfl, hb1⟩;have HB1 : Hid (Below w.heap.size w w1) := bstep (HB0.out _) hb1;clear hb1 HCF;go_wp2_with fail;refine (HIN.out _).mono ?_;rintro e w' ⟨rfl, hw'⟩;subst w';go_wp2_with fail;go_ret2;rw [HO.out];exact ⟨rfl, Fr.of_below HB1.out⟩
   ·rw [decide_eq_false hin] at HIN;clear hsz hin;go_enter Tryz.func39, Tryz.ntmps39;go_wp2_with fail;refine (HCF.out _).mono ?_;rintro e w1 ⟨rfl, hb1⟩;have HB1 : Hid (Below w.heap.size w w1) := bstep (HB0.out _) hb1;clear hb1 HCF;go_wp2_with fail;refine (HIN.out _).mono ?_;rintro e w' ⟨rfl, hw'⟩;subst w';go_wp2_with fail;go_ret2;rw [HO.out];exact ⟨rfl, Fr.of_below HB1.out⟩
end Go.Proofs.YtmnajomkfnkmeaaGreatDoor
