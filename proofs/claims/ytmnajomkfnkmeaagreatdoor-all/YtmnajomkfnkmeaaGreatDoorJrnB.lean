import Derived.Test.YtmnajomkfnkmeaaGreatDoorJrn
import Derived.Test.YtmnajomkfnkmeaaGreatDoorRSess
import Derived.Test.YtmnajomkfnkmeaaGreatDoorStaD
import Derived.Deep.RegionWith
set_option maxRecDepth 20000
set_option maxHeartbeats 2000000
namespace Go.Proofs.YtmnajomkfnkmeaaGreatDoor
open Go.RowKit Go.Conc
attribute [local go_sem] ofL_size
theorem beginOf_reg (len r : Nat) : beginOf (len / 32) r = regAt len r ∧ beginOf (len / 32) r + half (len / 32) = regAt len r + halfN len := by
 unfold beginOf half regAt halfN;rw [Nat.mul_comm r, Nat.mul_comm ((len / 32 - 2) / 2) 32];exact ⟨rfl, rfl⟩
theorem jbegin_any (db B : Nat) (F : Nat → Prop) (d : Dv) (g r s : Nat) (w : World) (h : DrvAt w B db F d) (hok : okSize d.stable.length) (hr : r ≤ 1) :
  Calls Tryz.prog 118 #[drvV db, placeV (g, r, s)] w fun e w' => ∃ jb, e = .returned (.pointer (some ⟨jb, 0, none⟩)) ∧ w.heap.size ≤ jb ∧ JB w' jb db ⟨g, r, s, 0, regAt d.stable.length r, regAt d.stable.length r + halfN d.stable.length⟩ ∧ Below w.heap.size w w' := by
 have hq : Blk (w.alloc (.cells #[.int .u32 g, .int .u8 r, .int .i64 s] 174)) w.heap.size #[.int .u32 g, .int .u8 r, .int .i64 s] 174 := Blk.new _ _ _;have hb0 : Below w.heap.size w (w.alloc (.cells #[.int .u32 g, .int .u8 r, .int .i64 s] 174)) := bA;have hd0 := h.kept (S := fun _ => False) (Fr.of_below hb0) (fun _ _ h => h);have HQ : Hid (Blk _ _ _ _) := hq;have HB0 : Hid (Below _ _ _) := hb0;have HD0 : Hid (DrvAt _ B db F d) := hd0;have HOK : Hid (okSize d.stable.length ∧ r ≤ 1) := ⟨hok, hr⟩;clear h hok hr hq hb0 hd0;unfold placeV drvV;go_enter Tryz.func118, Tryz.ntmps118;go_wp2_with fail;generalize w.alloc (Obj.cells _ _ _) = w0 at *
 have c0 : w0.cell? ⟨w.heap.size, 0, none⟩ = some (.int .u32 g) := Blk.cell HQ.out 0;have c1 : w0.cell? ⟨w.heap.size, 1, none⟩ = some (.int .u8 r) := Blk.cell HQ.out 1;have c2 : w0.cell? ⟨w.heap.size, 2, none⟩ = some (.int .i64 s) := Blk.cell HQ.out 2;have HDW : Hid (DrvAt w0.drew B db F d) := HD0.out.kept ((Fr.refl (fun _ => False) w0).drew) (fun _ _ h => h);have HRG : Hid (12 ≤ d.stable.length / 32 ∧ d.stable.length / 32 ≤ 200) := by
  obtain ⟨h1, h2, h3⟩ := HOK.out.1;show _ ∧ _;omega
 go_region_with (first
  | (go_at_call 261; refine (sectors_any db B F d _ HDW.out).mono ?_; rintro e w' ⟨rfl, rfl⟩)
  | (go_at_call 160; refine (region_any (d.stable.length / 32) r _ HRG.out.1 HRG.out.2 HOK.out.2).mono ?_; rintro e w' ⟨rfl, rfl⟩))
 all_goals
  have hx := beginOf_reg d.stable.length r;have HX : Hid (beginOf (d.stable.length / 32) r = regAt d.stable.length r ∧ beginOf (d.stable.length / 32) r + half (d.stable.length / 32) = regAt d.stable.length r + halfN d.stable.length) := hx;clear hx;have ei : ((beginOf (d.stable.length / 32) r + half (d.stable.length / 32) : Nat) : Int) = (beginOf (d.stable.length / 32) r : Int) + (half (d.stable.length / 32) : Int) := by omega
  have EI : Hid (_ = _) := ei;clear ei;go_wp2_with fail;refine bodyPost_ret (v := .pointer (some ⟨w0.heap.size, 0, none⟩)) (by simp [results, Tryz.results118, go_sem]) rfl ⟨w0.heap.size, rfl, HB0.out.size, ?_, HB0.out.trans (((Below.refl _ w0).alloc (Nat.le_refl _) _).drew.mono HB0.out.size)⟩;unfold JB jrnA drvV;simp only;rw [← HX.out.2, ← HX.out.1, EI.out];exact (Blk.new w0 _ _).drew
def findTo (G : Gl) (db : Nat) (w : World) (len : Nat) (o : Option (Nat × Nat × Nat)) (e : Ending) (w' : World) : Prop :=
 match o with
 | none => e = .returned (.tuple #[.pointer none, errV G.head])
 | some (g, r, s) => ∃ jb, e = .returned (.tuple #[.pointer (some ⟨jb, 0, none⟩), .nilIface]) ∧ w.heap.size ≤ jb ∧ JB w' jb db ⟨g, r, s, 0, regAt len r, regAt len r + halfN len⟩
theorem jfind_any (db B : Nat) (F : Nat → Prop) (d : Dv) (G : Gl) (disk : Bs) (w : World) (h : DrvAt w B db F d) (hs : d.stable.length = disk.length) (hok : okSize disk.length) (hG : Glob B G w) :
  Calls Tryz.prog 168 #[drvV db, .string (ofL disk)] w fun e w' => findTo G db w disk.length (theHead disk) e w' ∧ Below w.heap.size w w' := by
 have HH : Hid (DrvAt w B db F d) := h;have HG : Hid (Glob B G w) := hG;have HK : Hid (d.stable.length = disk.length ∧ okSize disk.length) := ⟨hs, hok⟩;clear h hG hs hok;unfold drvV;go_enter Tryz.func168, Tryz.ntmps168;go_wp2_with fail;refine (theHead_any disk (errV G.head) _ (by have := HK.out.2.2.1; omega) (by have := HK.out.2.2.2; omega) HG.out.head.1 (Nat.lt_of_lt_of_le HG.out.head.2 HG.out.le)).mono ?_;rintro e w1 ⟨rfl, hb1⟩;have HB1 : Hid (Below w.heap.size w w1) := hb1;clear hb1;cases ht : theHead disk with
 | none =>
  have HT : Hid (theHead disk = none) := ht;clear ht;unfold theHeadV placeV errV;go_wp2_with fail;refine bodyPost_ret (v := .tuple #[.pointer none, errV G.head]) (by simp [results, Tryz.results168, go_sem, errV]) rfl ⟨?_, HB1.out.trans (((Below.refl _ w1).alloc (Nat.le_refl _) _).mono HB1.out.size)⟩;rw [HT.out]; rfl
 | some b =>
  obtain ⟨g, r, s⟩ := b;have hbd := theHead_bounds ht;have HT : Hid (theHead disk = some (g, r, s)) := ht;have HR : Hid (r ≤ 1) := hbd.2.2.1;have HB2 : Hid (Below w.heap.size w (w1.alloc (.cells #[.int .u32 g, .int .u8 r, .int .i64 s] 174))) := HB1.out.trans (((Below.refl _ w1).alloc (Nat.le_refl _) _).mono HB1.out.size);have HD2 : Hid (DrvAt _ B db F d) := HH.out.kept (S := fun _ => False) (Fr.of_below HB2.out) (fun _ _ h => h);clear ht hbd;unfold theHeadV placeV;go_wp2_with fail;refine (jbegin_any db B F d g r s _ HD2.out (by rw [HK.out.1]; exact HK.out.2) HR.out).mono ?_;rintro e w3 ⟨jb, rfl, hge, hjb, hb3⟩;have HE : Hid (w.heap.size ≤ jb ∧ JB w3 jb db ⟨g, r, s, 0, regAt disk.length r, regAt disk.length r + halfN disk.length⟩ ∧ Below w.heap.size w w3) := by
   rw [HK.out.1] at hjb;exact ⟨Nat.le_trans HB2.out.size hge, hjb, bstep HB2.out hb3⟩
  clear hge hjb hb3;go_wp2_with fail;refine bodyPost_ret (v := .tuple #[.pointer (some ⟨jb, 0, none⟩), .nilIface]) (by simp [results, Tryz.results168, go_sem]) rfl ⟨?_, HE.out.2.2⟩;rw [HT.out];exact ⟨jb, rfl, HE.out.1, HE.out.2.1⟩
end Go.Proofs.YtmnajomkfnkmeaaGreatDoor
namespace Go.Proofs.YtmnajomkfnkmeaaGreatDoor
open Go.RowKit Go.Conc
attribute [local go_sem] ofL_size
theorem DigitsBelow {B : Nat} {G : Gl} {w w' : World} (h : Glob B G w) (hb : Below w.heap.size w w') : Glob B G w' := h.fr (Fr.of_below (S := fun _ => False) hb) (fun _ h => h.elim)
def rsTo (G : Gl) (jb db : Nat) (j : Jn) (w : World) (o : Option Bs) (e : Ending) (w' : World) : Prop :=
 match o with
 | none => e = .returned (.tuple #[.pointer none, errV G.recd])
 | some p =>
  match parseSnap p with
  | none => e = .returned (.tuple #[.pointer none, errV G.unfit])
  | some T => ∃ sb mb f D sl, e = .returned (.tuple #[.pointer (some ⟨sb, 0, none⟩), .nilIface]) ∧ TabAt w' sb T mb f D sl ∧ (∀ b, foot sb mb f sl b → w.heap.size ≤ b) ∧ JB w' jb db (j.passed (p.length + 10))
theorem jsnap_any (jb db : Nat) (j : Jn) (disk : Bs) (B : Nat) (G : Gl) (w : World) (h : JB w jb db j) (hj : j.gen < 4294967296) (hn : j.number < 65536) (hx : j.next ≤ j.fin) (hf : j.fin ≤ disk.length) (hd : disk.length ≤ 6400) (hG : Glob B G w) :
  Calls Tryz.prog 169 #[.pointer (some ⟨jb, 0, none⟩), .string (ofL disk)] w fun e w' => rsTo G jb db j w (firstB j.gen j.number (j.rest disk)) e w' ∧ Fr (· = jb) w w' := by
 have HJ : Hid (JB w jb db j) := h;have HG : Hid (Glob B G w) := hG;have HK : Hid (j.gen < 4294967296 ∧ j.number < 65536 ∧ j.next ≤ j.fin ∧ j.fin ≤ disk.length ∧ disk.length ≤ 6400) := ⟨hj, hn, hx, hf, hd⟩;obtain ⟨l, hl⟩ : ∃ l, l = j.rest disk := ⟨_, rfl⟩;have hrd := jread_any jb db j disk B G w h hj hn hx hf hd hG;have hrl : l.length ≤ 6400 := by rw [hl]; unfold Jn.rest; rw [List.length_take, List.length_drop]; omega
 rw [← hl] at hrd ⊢;clear h hG hj hn hx hf hd hl;have HRD : Hid (Calls _ _ _ _ _) := hrd;clear hrd;go_enter Tryz.func169, Tryz.ntmps169;go_wp2_with fail;refine HRD.out.mono ?_;rintro e w1 ⟨rfl, hb1⟩;have HB1 : Hid (Below w.heap.size w w1) := hb1;clear hb1 HRD;cases ho : firstB j.gen j.number l with
 | none =>
  have HO : Hid (firstB j.gen j.number l = none) := ho;clear ho;unfold recRes errV;go_wp2_with fail;go_ret2;rw [HO.out];exact ⟨rfl, Fr.of_below HB1.out⟩
 | some p =>
  have HO : Hid (firstB j.gen j.number l = some p) := ho;have hpl := congrArg List.length (firstB_some ho).1;rw [List.length_append, recB_length] at hpl;have HPL : Hid (p.length + 10 ≤ 6400) := by show _ ≤ _; omega
  clear ho hpl hrl;unfold recRes;go_wp2_with fail;refine (rsnap_any p _ _ _ (below_cell HB1.out (Nat.lt_of_lt_of_le HG.out.unfit.2 HG.out.le) |>.trans HG.out.unfit.1) (by have := HG.out.unfit.2; have := HG.out.le; have := HB1.out.size; omega)).mono ?_;rintro e w2 ⟨hs, hb2⟩;have HB2 : Hid (Below w.heap.size w w2) := bstep HB1.out hb2;cases hp : parseSnap p with
  | none =>
   rw [hp] at hs;have hs : e = .returned (.tuple #[.pointer none, errV G.unfit]) := hs;subst hs;have HP : Hid (parseSnap p = none) := hp;clear hp hb2;unfold errV;go_wp2_with fail;go_ret2;rw [HO.out];unfold rsTo;simp only;rw [HP.out];exact ⟨rfl, Fr.of_below HB2.out⟩
  | some T =>
   rw [hp] at hs;obtain ⟨sb, mb, f, D, sl, rfl, ht, hft⟩ := hs;have HP : Hid (parseSnap p = some T) := hp;have HT : Hid (TabAt w2 sb T mb f D sl ∧ ∀ b, foot sb mb f sl b → w1.heap.size ≤ b) := ⟨ht, hft⟩;have HJ2 : Hid (JB w2 jb db j) := Blk.below HJ.out HB2.out;clear hp ht hft hb2;go_wp2_with fail;refine (pass_any jb db (p.length + 10) j _ HJ2.out (by have := HK.out.2.1; omega) (by have := HK.out; omega) (by have := HPL.out; omega)).mono ?_;rintro e w3 ⟨rfl, hj3, hf3, hz3⟩;have HE : Hid (JB w3 jb db (j.passed (p.length + 10)) ∧ Fr (· = jb) w2 w3) := ⟨hj3, hf3⟩;clear hj3 hf3 hz3;go_wp2_with fail;refine bodyPost_ret (v := .tuple #[.pointer (some ⟨sb, 0, none⟩), .nilIface]) (by simp [results, Tryz.results169, go_sem]) rfl ⟨?_, (Fr.of_below HB2.out).trans HE.out.2 (fun _ _ h => h)⟩;rw [HO.out];unfold rsTo;simp only;rw [HP.out];refine ⟨sb, mb, f, D, sl, rfl, HT.out.1.kept HE.out.2 (fun b hb e => ?_), fun b hb => Nat.le_trans HB1.out.size (HT.out.2 b hb), HE.out.1⟩;have := HT.out.2 b hb;have h1 := HJ.out.lt;have h2 := HB1.out.size;omega
def rcStep (j : Jn) (T : Tab) (o : Option Bs) : Bool × Tab × Jn :=
 match o with
 | none => (false, T, j)
 | some p => match T.takes p with
  | none => (false, T, j)
  | some T' => (true, T', j.passed (p.length + 10))
def rcTo (jb db sb : Nat) (w : World) (S : Nat → Prop) (x : Bool × Tab × Jn) (e : Ending) (w' : World) : Prop :=
 e = .returned (.bool x.1) ∧ JB w' jb db x.2.2 ∧ ∃ mb f D sl, TabAt w' sb x.2.1 mb f D sl ∧ Fr (fun b => S b ∨ b = jb) w w' ∧ ∀ b, foot sb mb f sl b → S b ∨ w.heap.size ≤ b
theorem rcTo.same {jb db sb : Nat} {w w' : World} {j : Jn} {T : Tab} {mb : Nat} {f : Fn} {D : DataW Unit} {sl : Nat → Value} (hj : JB w jb db j) (ht : TabAt w sb T mb f D sl) (hb : Below w.heap.size w w') : rcTo jb db sb w (foot sb mb f sl) (false, T, j) (.returned (.bool false)) w' :=
 ⟨rfl, Blk.below hj hb, mb, f, D, sl, ht.kept (S := fun _ => False) (Fr.of_below hb) (fun _ _ h => h), Fr.of_below hb, fun _ h => Or.inl h⟩
theorem jchg_any (jb db sb : Nat) (j : Jn) (T : Tab) (mb : Nat) (f : Fn) (D : DataW Unit) (sl : Nat → Value) (disk : Bs) (B : Nat) (G : Gl) (w : World) (h : JB w jb db j) (ht : TabAt w sb T mb f D sl) (hwf : T.wf) (hnf : ¬ foot sb mb f sl jb) (hj : j.gen < 4294967296) (hn : j.number < 65536) (hx : j.next ≤ j.fin) (hf : j.fin ≤ disk.length) (hd : disk.length ≤ 6400) (hG : Glob B G w) :
  Calls Tryz.prog 170 #[.pointer (some ⟨jb, 0, none⟩), .string (ofL disk), .pointer (some ⟨sb, 0, none⟩)] w (rcTo jb db sb w (foot sb mb f sl) (rcStep j T (firstB j.gen j.number (j.rest disk)))) := by
 have HJ : Hid (JB w jb db j ∧ ¬ foot sb mb f sl jb) := ⟨h, hnf⟩;have HT : Hid (TabAt w sb T mb f D sl ∧ T.wf) := ⟨ht, hwf⟩;have HG : Hid (Glob B G w) := hG;have HK : Hid (j.gen < 4294967296 ∧ j.number < 65536 ∧ j.next ≤ j.fin ∧ j.fin ≤ disk.length ∧ disk.length ≤ 6400) := ⟨hj, hn, hx, hf, hd⟩;obtain ⟨l, hl⟩ : ∃ l, l = j.rest disk := ⟨_, rfl⟩;have hrd := jread_any jb db j disk B G w h hj hn hx hf hd hG;have hrl : l.length ≤ 6400 := by rw [hl]; unfold Jn.rest; rw [List.length_take, List.length_drop]; omega
 rw [← hl] at hrd ⊢;obtain ⟨o, ho⟩ : ∃ o, o = firstB j.gen j.number l := ⟨_, rfl⟩;rw [← ho] at hrd ⊢;clear h ht hwf hnf hG hj hn hx hf hd hl;have HRD : Hid (Calls _ _ _ _ _) := hrd;clear hrd;go_enter Tryz.func170, Tryz.ntmps170;go_wp2_with fail;refine HRD.out.mono ?_;rintro e w1 ⟨rfl, hb1⟩;have HB1 : Hid (Below w.heap.size w w1) := hb1;clear hb1 HRD;cases o with
 | none =>
  have HO : Hid (rcStep j T none = (false, T, j)) := rfl;clear ho;unfold recRes errV;go_wp2_with fail;go_ret;rw [HO.out];exact rcTo.same HJ.out.1 HT.out.1 HB1.out
 | some p =>
  have hpl := congrArg List.length (firstB_some ho.symm).1;rw [List.length_append, recB_length] at hpl;have HPL : Hid (p.length + 10 ≤ 6400) := by show _ ≤ _; omega
  unfold recRes;go_wp2_with fail;refine (rc_any p _ _ _ (below_cell HB1.out (Nat.lt_of_lt_of_le HG.out.unfit.2 HG.out.le) |>.trans HG.out.unfit.1) (by have := HG.out.unfit.2; have := HG.out.le; have := HB1.out.size; omega)).mono ?_;rintro e w2 ⟨rfl, hb2⟩;have HB2 : Hid (Below w.heap.size w w2) := bstep HB1.out hb2;cases hp : parseChg p with
  | none =>
   have HO : Hid (rcStep j T (some p) = (false, T, j)) := by
    show _ = _;show (match T.takes p with | none => _ | some T' => _) = _;rw [show T.takes p = none by unfold Tab.takes; rw [hp]]
   clear ho hp hb2 hpl;unfold rcV noChg;go_wp2_with fail;go_ret;rw [HO.out];exact rcTo.same HJ.out.1 HT.out.1 (HB2.out.trans (((Below.refl _ w2).alloc (Nat.le_refl _) _).mono HB2.out.size))
  | some c =>
   obtain ⟨hpc, hck⟩ := parseChg_some hp;have hsv : ∃ k id too u t n v, chgV c = chV k id too u t n v := by cases c <;> exact ⟨_, _, _, _, _, _, _, rfl⟩
   obtain ⟨k, id, too, u, t, n, v, hv⟩ := hsv;have HV : Hid (chgV c = chV k id too u t n v) := hv;have hq : Blk (w2.alloc (.cells (chA k id too u t n v) 101)) w2.heap.size (chA k id too u t n v) 101 := Blk.new _ _ _;have hb3 : Below w.heap.size w (w2.alloc (.cells (chA k id too u t n v) 101)) := HB2.out.trans (((Below.refl _ w2).alloc (Nat.le_refl _) _).mono HB2.out.size);unfold chA at hq hb3;have HQ : Hid (Blk _ _ _ _) := hq;have HB3 : Hid (Below _ _ _) := hb3;have HT3 : Hid (TabAt _ sb T mb f D sl) := HT.out.1.kept (S := fun _ => False) (Fr.of_below hb3) (fun _ _ h => h);have HALL : Hid (∀ w', TabAt w' sb T mb f D sl → Calls Tryz.prog 189 #[.pointer (some ⟨sb, 0, none⟩), .agg #[.int .u8 k, .int .i64 id, .int .i64 too, .int .i64 u, .int .i64 t, .string (ofL n), .string (ofL v)]] w' fun e w'' => e = .returned (.bool (T.allows c)) ∧ Below w'.heap.size w' w'') := fun w' h' => by
    have := allows_any sb T mb f D sl c w' h' HT.out.2 hck;rw [hv] at this;exact this
   have HDO : Hid (∀ w', TabAt w' sb T mb f D sl → T.allows c = true → Calls Tryz.prog 111 #[.pointer (some ⟨sb, 0, none⟩), .agg #[.int .u8 k, .int .i64 id, .int .i64 too, .int .i64 u, .int .i64 t, .string (ofL n), .string (ofL v)]] w' (DoTo w' sb (T.does c) mb f sl)) := fun w' h' ha => by
    have := do_any sb T mb f D sl c w' h' HT.out.2 hck ha;rw [hv] at this;exact this
   have HY : Hid (T.allows c = true → rcStep j T (some p) = (true, T.does c, j.passed (p.length + 10))) := fun ha => by
    show (match T.takes p with | none => _ | some T' => _) = _;rw [show T.takes p = some (T.does c) by unfold Tab.takes; rw [hp]; simp only [ha, if_true]]
   have HN : Hid (T.allows c = false → rcStep j T (some p) = (false, T, j)) := fun ha => by
    show (match T.takes p with | none => _ | some T' => _) = _;rw [show T.takes p = none by unfold Tab.takes; rw [hp]; simp only [ha, Bool.false_eq_true, if_false]]
   clear ho hp hb2 hpl hq hb3 hck hpc;rw [show ∀ ev, rcV ev (some c) = .tuple #[.agg #[.int .u8 k, .int .i64 id, .int .i64 too, .int .i64 u, .int .i64 t, .string (ofL n), .string (ofL v)], .nilIface] from fun ev => by show Value.tuple #[chgV c, .nilIface] = _; rw [hv]; rfl];clear hv;go_wp2_with fail;refine (HALL.out _ HT3.out).mono ?_;rintro e w3 ⟨rfl, hb4⟩;have HB4 : Hid (Below w.heap.size w w3) := bstep HB3.out hb4;have HT4 : Hid (TabAt w3 sb T mb f D sl) := HT3.out.kept (S := fun _ => False) (Fr.of_below hb4) (fun _ _ h => h);have HQ4 : Hid (Blk w3 w2.heap.size _ 101) := Blk.below HQ.out hb4;clear hb4 HALL HT3 HB3 HQ;generalize w2.alloc (Obj.cells _ _ _) = w0 at *
   by_cases ha : T.allows c = true
   ·rw [ha];have hq0 := Blk.cell HQ4.out 0;have hq1 := Blk.cell HQ4.out 1;have hq2 := Blk.cell HQ4.out 2;have hq3 := Blk.cell HQ4.out 3;have hq4 := Blk.cell HQ4.out 4;have hq5 := Blk.cell HQ4.out 5;have hq6 := Blk.cell HQ4.out 6;simp only [gT, gZ, gS] at hq0 hq1 hq2 hq3 hq4 hq5 hq6;have HA : Hid (T.allows c = true) := ha;clear ha;go_wp2_with fail;refine (HDO.out _ HT4.out HA.out).mono ?_;rintro e w5 ⟨rfl, f', D', sl', ht5, hf5, hn5⟩;have HD5 : Hid (TabAt w5 sb (T.does c) mb f' D' sl' ∧ Fr (foot sb mb f sl) w3 w5 ∧ ∀ b, foot sb mb f' sl' b → foot sb mb f sl b ∨ w3.heap.size ≤ b) := ⟨ht5, hf5, hn5⟩;have HJ5 : Hid (JB w5 jb db j) := (Blk.below HJ.out.1 HB4.out).kept hf5 HJ.out.2;clear ht5 hf5 hn5 hq0 hq1 hq2 hq3 hq4 hq5 hq6;go_wp2_with fail;refine (pass_any jb db (p.length + 10) j _ HJ5.out (by have := HK.out.2.1; omega) (by have := HK.out; omega) (by have := HPL.out; omega)).mono ?_;rintro e w6 ⟨rfl, hj6, hf6, hz6⟩;have HE : Hid (JB w6 jb db (j.passed (p.length + 10)) ∧ Fr (· = jb) w5 w6) := ⟨hj6, hf6⟩;clear hj6 hf6 hz6;go_wp2_with fail;go_ret;rw [HY.out HA.out];have hz := HB4.out.size;have hjl := HJ.out.1.lt;refine ⟨rfl, HE.out.1, mb, f', D', sl', HD5.out.1.kept HE.out.2 (fun b hb e => ?_), ?_, fun b hb => ?_⟩
    ·rcases HD5.out.2.2 b hb with h | h
     ·exact HJ.out.2 (e ▸ h)
     ·omega
    ·refine ((Fr.of_below HB4.out).trans HD5.out.2.1 (fun b _ h => ?_)).trans HE.out.2 (fun b _ h => Or.inr h);exact Or.inl h
    ·rcases HD5.out.2.2 b hb with h | h
     ·exact Or.inl h
     ·exact Or.inr (by omega)
   ·rw [Bool.eq_false_iff.2 ha];have HO := HN.out (Bool.eq_false_iff.2 ha);have HO : Hid (_ = _) := HO;clear ha;go_wp2_with fail;go_ret;rw [HO.out];exact rcTo.same HJ.out.1 HT.out.1 HB4.out
end Go.Proofs.YtmnajomkfnkmeaaGreatDoor
namespace Go.Proofs.YtmnajomkfnkmeaaGreatDoor
open Go.RowKit Go.Conc
attribute [local go_sem] ofL_size
structure Reading (reg : Bs) (g n0 : Nat) (R : Tab × Nat × Nat) (fu k n : Nat) (T : Tab) : Prop where
 eq : R = ((replay fu g k T (reg.drop n)).1, (n - n0) + (replay fu g k T (reg.drop n)).2.1, (replay fu g k T (reg.drop n)).2.2)
 ge : n0 ≤ n
 le : n ≤ reg.length
 fuel : reg.length ≤ n + fu
 num : k ≤ 1 + n
 wf : T.wf
theorem Reading.next {reg : Bs} {g n0 : Nat} {R : Tab × Nat × Nat} {fu k n : Nat} {T T' : Tab} {p : Bs} (h : Reading reg g n0 R fu k n T) (hp : firstB g k (reg.drop n) = some p) (ht : T.takes p = some T') :
  ∃ fu', Reading reg g n0 R fu' (k + 1) (n + (p.length + 10)) T' ∧ n + (p.length + 10) ≤ reg.length := by
 have hl := congrArg List.length (firstB_some hp).1;rw [List.length_append, recB_length, List.length_drop] at hl;have hf := h.fuel;obtain ⟨fu', rfl⟩ : ∃ fu', fu = fu' + 1 := ⟨fu - 1, by omega⟩;have e := replay_fit (f := fu') hp ht;rw [List.drop_drop] at e;have hq := h.eq;rw [e] at hq;have hge := h.ge;have hn := h.num;refine ⟨fu', ⟨?_, by omega, by omega, by omega, by omega, takes_wf h.wf ht⟩, by omega⟩;rw [hq];simp only [Prod.mk.injEq, true_and, and_true];omega
theorem Reading.stop {reg : Bs} {g n0 : Nat} {R : Tab × Nat × Nat} {fu k n : Nat} {T : Tab} (h : Reading reg g n0 R fu k n T) (hs : stuck g k T (reg.drop n)) : R = (T, n - n0, k) := by
 rw [h.eq, replay_stuck hs]; rfl
theorem rest_region (disk : Bs) (g r s k n : Nat) (h : n ≤ halfN disk.length) : (⟨g, r, s, k, regAt disk.length r + n, regAt disk.length r + halfN disk.length⟩ : Jn).rest disk = (regionB disk r).drop n := by
 unfold Jn.rest regionB;show (disk.drop (regAt disk.length r + n)).take (regAt disk.length r + halfN disk.length - (regAt disk.length r + n)) = _;rw [List.drop_take, List.drop_drop];congr 1; omega
theorem clean_laid (d : Bs) (s : St) (h : s.endp ≤ halfN d.length) : cleanD d s = laidB d (regAt d.length s.reg + s.endp) (zeros (halfN d.length - s.endp)) := by
 unfold cleanD laidB;rw [zeros_length];congr 2; omega
theorem readReg_eq {g r s : Nat} {l p : Bs} {T : Tab} (h : firstB g 0 l = some p) (ht : parseSnap p = some T) : readReg g r s l = some ⟨g, r, s, p.length + 10 + (replay l.length g 1 T (l.drop (p.length + 10))).2.1, (replay l.length g 1 T (l.drop (p.length + 10))).2.2, (replay l.length g 1 T (l.drop (p.length + 10))).1⟩ := by
 unfold readReg;rw [h]; simp only; rw [ht]
theorem readReg_no1 {g r s : Nat} {l : Bs} (h : firstB g 0 l = none) : readReg g r s l = none := by unfold readReg; rw [h]
theorem readReg_no2 {g r s : Nat} {l p : Bs} (h : firstB g 0 l = some p) (ht : parseSnap p = none) : readReg g r s l = none := by
 unfold readReg;rw [h]; simp only; rw [ht]
theorem readD_no {d : Bs} (h : theHead d = none) : readD d = none := by unfold readD; rw [h]
theorem readD_eq {d : Bs} {g r s : Nat} (h : theHead d = some (g, r, s)) : readD d = readReg g r s (regionB d r) := by unfold readD; rw [h]
def joTo (w : World) (B db : Nat) (F : Nat → Prop) (d : Dv) (o : Option St) (e : Ending) (w' : World) : Prop :=
 match o with
 | none => ∃ a, e = .returned (.tuple #[.pointer none, .pointer none, errV a]) ∧ Below w.heap.size w w'
 | some st => ∃ jb sb mb f D sl F', e = .returned (.tuple #[.pointer (some ⟨jb, 0, none⟩), .pointer (some ⟨sb, 0, none⟩), .nilIface]) ∧ DrvAt w' B db F' (d.cleared (regAt d.stable.length st.reg + st.endp) (halfN d.stable.length - st.endp)) ∧ Fr F w w' ∧ (∀ b, F' b → F b ∨ w.heap.size ≤ b) ∧ ¬ F' jb ∧ JB w' jb db (jnOf d.stable.length st) ∧ TabAt w' sb st.T mb f D sl ∧ w.heap.size ≤ jb ∧ (∀ b, foot sb mb f sl b → w.heap.size ≤ b ∧ b ≠ jb ∧ ¬ F' b)
theorem rc_cases (j : Jn) (g k : Nat) (T : Tab) (l : Bs) : (rcStep j T (firstB g k l) = (false, T, j) ∧ stuck g k T l) ∨ ∃ p T', firstB g k l = some p ∧ T.takes p = some T' ∧ rcStep j T (firstB g k l) = (true, T', j.passed (p.length + 10)) := by
 cases ho : firstB g k l with
 | none => exact Or.inl ⟨rfl, fun p hp => by rw [ho] at hp; cases hp⟩
 | some p =>
  cases ht : T.takes p with
  | none =>
   refine Or.inl ⟨?_, fun q hq => by rw [ho] at hq; cases hq; exact ht⟩;show (match T.takes p with | none => _ | some T' => _) = _;rw [ht]
  | some T' =>
   refine Or.inr ⟨p, T', rfl, ht, ?_⟩;show (match T.takes p with | none => _ | some T' => _) = _;rw [ht]
theorem nil_clear (a : Addr) (w : World) : (nilAhead 440 84 (.pointer (some a)) "Clear").run Tryz.prog w = .ok (some false) w := by kernel_rfl
theorem method_clear (a : Addr) (w : World) : (method 440 84 (.pointer (some a)) "Clear").run Tryz.prog w = .ok (258, .pointer (some a)) w := by kernel_rfl
def jleft (w : World) (jb : Nat) : Nat :=
 match w.cell? ⟨jb, 5, none⟩ with
 | some (.int _ x) => 7000 - x.toNat
 | _ => 0
theorem jleft_eq {w : World} {jb db : Nat} {j : Jn} (h : JB w jb db j) : jleft w jb = 7000 - j.next := by
 unfold jleft;rw [show w.cell? ⟨jb, 5, none⟩ = some (.int .i64 j.next) from Blk.cell h 5];rfl
theorem jn_passed (g r s k a n m fin : Nat) : (⟨g, r, s, k, a + n, fin⟩ : Jn).passed m = ⟨g, r, s, k + 1, a + (n + m), fin⟩ := by
 unfold Jn.passed;simp only [Jn.mk.injEq, true_and, and_true];omega
theorem jopen_any (db B : Nat) (F : Nat → Prop) (d : Dv) (G : Gl) (w : World) (h : DrvAt w B db F d) (hok : d.ok) (hG : Glob B G w) :
  Calls Tryz.prog 129 #[drvV db] w (joTo w B db F d (readD d.stable)) := by
 have HH : Hid (DrvAt w B db F d) := h;have HOK : Hid d.ok := hok;have HG : Hid (Glob B G w) := hG;clear h hok hG;obtain ⟨o, ho⟩ : ∃ o, o = readD d.stable := ⟨_, rfl⟩;rw [← ho];have HO : Hid (o = readD d.stable) := ho;clear ho;unfold drvV;go_enter Tryz.func129, Tryz.ntmps129;go_wp2_with fail;refine (stable_any db B F d _ HH.out).mono ?_;rintro e w0 ⟨rfl, rfl⟩;go_wp2_with fail;refine (jfind_any db B F d G d.stable _ HH.out rfl HOK.out.size HG.out).mono ?_;rintro e w1 ⟨hf, hb1⟩;have HB1 : Hid (Below _ _ w1) := hb1;clear hb1;cases ht : theHead d.stable with
 | none =>
  rw [ht] at hf;have hf : e = .returned (.tuple #[.pointer none, errV G.head]) := hf;subst hf;have HN : Hid (o = none) := by
   show o = none;rw [HO.out]; exact readD_no ht
  clear ht;unfold errV;go_wp2_with fail;refine bodyPost_ret (v := .tuple #[.pointer none, .pointer none, errV G.head]) (by simp [results, Tryz.results129, go_sem, errV]) rfl ?_;rw [HN.out];exact ⟨_, rfl, HB1.out⟩
 | some b =>
  obtain ⟨g, r, s⟩ := b;rw [ht] at hf;obtain ⟨jb, rfl, hge, hjb⟩ := hf;have hbd := theHead_bounds ht;have HX : Hid (o = readReg g r s (regionB d.stable r)) := by
   show o = _;rw [HO.out]; exact readD_eq ht
  have HJ : Hid (JB w1 jb db _) := hjb;clear hjb;go_wp2_with fail;have HS : Hid (regAt d.stable.length r + halfN d.stable.length ≤ d.stable.length ∧ d.stable.length ≤ 6400 ∧ halfN d.stable.length ≤ 3168 ∧ g < 4294967296 ∧ r ≤ 1) := ⟨(regAt_le HOK.out.size hbd.2.2.1).1, HOK.out.size.2.2, (half_bounds HOK.out.size).2.1, hbd.2.1, hbd.2.2.1⟩;have HRL : Hid ((regionB d.stable r).length = halfN d.stable.length) := region_length HOK.out.size hbd.2.2.1;have HGE : Hid (w0.heap.size ≤ jb) := hge;have HG1 : Hid (Glob B G w1) := DigitsBelow HG.out HB1.out;clear ht hbd hge HO;have hsn := jsnap_any jb db _ d.stable B G w1 HJ.out HS.out.2.2.2.1 (by show (0 : Nat) < 65536; decide) (by show regAt _ _ ≤ regAt _ _ + _; omega) (by have := HS.out.1; exact this) (by have := HS.out.2.1; exact this) HG1.out;rw [show (⟨g, r, s, 0, regAt d.stable.length r, regAt d.stable.length r + halfN d.stable.length⟩ : Jn).rest d.stable = regionB d.stable r from rest_region d.stable g r s 0 0 (Nat.zero_le _)] at hsn;refine hsn.mono ?_;rintro e w2 ⟨hsv, hf2⟩;have HF2 : Hid (Fr (· = jb) w1 w2) := hf2;clear hsn hf2;cases hfb : firstB g 0 (regionB d.stable r) with
  | none =>
   have hsv : rsTo G jb db ⟨g, r, s, 0, regAt d.stable.length r, regAt d.stable.length r + halfN d.stable.length⟩ w1 none e w2 := by rw [← hfb]; exact hsv
   have hsv : e = .returned (.tuple #[.pointer none, errV G.recd]) := hsv;subst hsv;have HN : Hid (o = none) := by
    show o = none;rw [HX.out]; exact readReg_no1 hfb
   clear hfb;unfold errV;go_wp2_with fail;refine bodyPost_ret (v := .tuple #[.pointer none, .pointer none, errV G.recd]) (by simp [results, Tryz.results129, go_sem, errV]) rfl ?_;rw [HN.out];exact ⟨_, rfl, HB1.out.trans (HF2.out.belowB HB1.out.size (fun b e => by rw [e]; exact HGE.out))⟩
  | some p =>
   cases hps : parseSnap p with
   | none =>
    have hsv : rsTo G jb db ⟨g, r, s, 0, regAt d.stable.length r, regAt d.stable.length r + halfN d.stable.length⟩ w1 (some p) e w2 := by rw [← hfb]; exact hsv
    unfold rsTo at hsv;simp only at hsv;rw [hps] at hsv;have hsv : e = .returned (.tuple #[.pointer none, errV G.unfit]) := hsv;subst hsv;have HN : Hid (o = none) := by
     show o = none;rw [HX.out]; exact readReg_no2 hfb hps
    clear hfb hps;unfold errV;go_wp2_with fail;refine bodyPost_ret (v := .tuple #[.pointer none, .pointer none, errV G.unfit]) (by simp [results, Tryz.results129, go_sem, errV]) rfl ?_;rw [HN.out];exact ⟨_, rfl, HB1.out.trans (HF2.out.belowB HB1.out.size (fun b e => by rw [e]; exact HGE.out))⟩
   | some T0 =>
    have hsv : rsTo G jb db ⟨g, r, s, 0, regAt d.stable.length r, regAt d.stable.length r + halfN d.stable.length⟩ w1 (some p) e w2 := by rw [← hfb]; exact hsv
    unfold rsTo at hsv;simp only at hsv;rw [hps] at hsv;obtain ⟨sb, mb, f, D, sl, rfl, htab, hft, hj2⟩ := hsv;obtain ⟨rg, hrg⟩ : ∃ rg, rg = regionB d.stable r := ⟨_, rfl⟩;rw [← hrg] at hfb HRL HX;have hpl := congrArg List.length (firstB_some hfb).1;rw [List.length_append, recB_length] at hpl;obtain ⟨R, hR⟩ : ∃ R, R = replay rg.length g 1 T0 (rg.drop (p.length + 10)) := ⟨_, rfl⟩;have HR0 : Hid (Reading rg g (p.length + 10) R rg.length 1 (p.length + 10) T0) := ⟨by rw [← hR]; simp, Nat.le_refl _, by omega, by omega, by omega, (parseSnap_some hps).1⟩;have HX2 : Hid (o = some ⟨g, r, s, p.length + 10 + R.2.1, R.2.2, R.1⟩) := by
     show o = _;rw [HX.out, readReg_eq hfb hps, ← hR]
    have HB2 : Hid (Below w0.heap.size w0 w2) := HB1.out.trans (HF2.out.belowB HB1.out.size (fun b e => by rw [e]; exact HGE.out));have HJ2 : Hid (JB w2 jb db ⟨g, r, s, 1, regAt d.stable.length r + (p.length + 10), regAt d.stable.length r + halfN d.stable.length⟩) := hj2;have hj1l := HJ.out.lt;have HT2 : Hid (TabAt w2 sb T0 mb f D sl) := htab;have HFT : Hid (∀ b, foot sb mb f sl b → w0.heap.size ≤ b ∧ b ≠ jb) := fun b hb => by
     have := hft b hb;have := HB1.out.size;omega
    have HRG : Hid (rg = regionB d.stable r) := hrg;generalize p.length + 10 = n0 at *
    clear hsv htab hft hj2 hfb hps hpl hR hrg HX HJ HG1 HF2 HB1;go_wp2_with fail
    go_loopw [32] (fun _ wx => ∃ (fu k n : Nat) (T : Tab) (mb : Nat) (f : Fn) (D : DataW Unit) (sl : Nat → Value), Hid (Reading rg g n0 R fu k n T) ∧ Hid (JB wx jb db ⟨g, r, s, k, regAt d.stable.length r + n, regAt d.stable.length r + halfN d.stable.length⟩) ∧ Hid (TabAt wx sb T mb f D sl) ∧ Hid (∀ b, foot sb mb f sl b → w0.heap.size ≤ b ∧ b ≠ jb) ∧ Hid (Below w0.heap.size w0 wx)) (fun _ wx => jleft wx jb)
    case atStart => exact ⟨rg.length, 1, n0, T0, mb, f, D, sl, HR0, HJ2, HT2, HFT, HB2⟩
    case round =>
     obtain ⟨fu, k, n, T, mb, f, D, sl, HR, HJ, HT, HFT, HB⟩ := hrel;have HGr : Hid (Glob B G wr) := DigitsBelow HG.out HB.out;have HNB : Hid (n ≤ halfN d.stable.length ∧ k ≤ 4000) := by
      have h1 := HR.out.le;have h2 := HR.out.num;have h3 := HRL.out;have h4 := HS.out.2.2.1;show _ ∧ _;omega
     have hch := jchg_any jb db sb _ T mb f D sl d.stable B G wr HJ.out HT.out HR.out.wf (fun h => (HFT.out jb h).2 rfl) HS.out.2.2.2.1 (by show k < 65536; have := HNB.out; omega) (by show regAt _ _ + _ ≤ regAt _ _ + _; have := HNB.out; omega) HS.out.1 HS.out.2.1 HGr.out;rw [rest_region d.stable g r s k n HNB.out.1, ← HRG.out] at hch;have HCH : Hid (Calls _ _ _ _ _) := hch;clear hch;go_wp2_with fail;refine HCH.out.mono ?_;rintro e w3 hrc;rcases rc_cases ⟨g, r, s, k, regAt d.stable.length r + n, regAt d.stable.length r + halfN d.stable.length⟩ g k T (rg.drop n) with ⟨he, hst⟩ | ⟨p, T', hp, ht, he⟩
     ·have hrc : rcTo jb db sb wr (foot sb mb f sl) (rcStep ⟨g, r, s, k, regAt d.stable.length r + n, regAt d.stable.length r + halfN d.stable.length⟩ T (firstB g k (rg.drop n))) e w3 := hrc;rw [he] at hrc;obtain ⟨rfl, hj3, mb3, f3, D3, sl3, ht3, hf3, hn3⟩ := hrc;have hRR := HR.out.stop hst;have HB3 : Hid (Below w0.heap.size w0 w3) := HB.out.trans (hf3.belowB HB.out.size (fun b hb => by
       rcases hb with hb | rfl
       ·exact (HFT.out b hb).1
       ·exact HGE.out))
      have HE : Hid (JB w3 jb db ⟨g, r, s, k, regAt d.stable.length r + n, regAt d.stable.length r + halfN d.stable.length⟩ ∧ TabAt w3 sb T mb3 f3 D3 sl3 ∧ ∀ b, foot sb mb3 f3 sl3 b → w0.heap.size ≤ b ∧ b ≠ jb) := ⟨hj3, ht3, fun b hb => by
       have h1 := HJ.out.lt
       have h2 := HB.out.size
       rcases hn3 b hb with h | h
       ·exact HFT.out b h
       ·omega⟩
      have HO2 : Hid (o = some ⟨g, r, s, n, k, T⟩) := by
       show o = _;rw [HX2.out, hRR];have := HR.out.ge;simp only [Option.some.injEq, St.mk.injEq, true_and, and_true];omega
      have HD3 : Hid (DrvAt w3 B db F d) := HH.out.kept (S := fun _ => False) (Fr.of_below HB3.out) (fun _ _ h => h);have c5 : w3.cell? ⟨jb, 5, none⟩ = some (.int .i64 ((regAt d.stable.length r + n : Nat) : Int)) := Blk.cell hj3 5;have c6 : w3.cell? ⟨jb, 6, none⟩ = some (.int .i64 ((regAt d.stable.length r + halfN d.stable.length : Nat) : Int)) := Blk.cell hj3 6;clear hj3 ht3 hf3 hn3 he hst hRR HCH HR HJ HT HFT HB;go_wp2_with fail;have HDR : Hid (DrvAt w3.drew B db F d) := HD3.out.kept ((Fr.refl (fun _ => False) w3).drew) (fun _ _ h => h);have HCL : Hid (regAt d.stable.length r + n + (halfN d.stable.length - n) ≤ d.stable.length ∧ regAt d.stable.length r + n + (halfN d.stable.length - n) = regAt d.stable.length r + halfN d.stable.length) := by
       have h1 := HNB.out.1;have h2 := HS.out.1;show _ ∧ _;omega
      have hcl := clear_any db B F d (regAt d.stable.length r + n) (halfN d.stable.length - n) w3.drew HDR.out HCL.out.1 HOK.out.wsize;rw [HCL.out.2] at hcl;have HCC : Hid (Calls _ _ _ _ _) := hcl;clear hcl;have HEND : Hid (∀ w4, DrvTo w3.drew B db F (d.cleared (regAt d.stable.length r + n) (halfN d.stable.length - n)) w4 → joTo w0 B db F d (some ⟨g, r, s, n, k, T⟩) (.returned (.tuple #[.pointer (some ⟨jb, 0, none⟩), .pointer (some ⟨sb, 0, none⟩), .nilIface])) w4) := fun w4 h4 => by
       obtain ⟨F4, ha4, hf4, hn4⟩ := h4;have hno : ∀ b, w0.heap.size ≤ b → ¬ F b := fun b hb hF => by have := (HH.out.foot hF).2; omega
       have hj3 : jb < w3.heap.size := HE.out.1.lt;have hd3 : w3.drew.heap.size = w3.heap.size := rfl;refine ⟨jb, sb, mb3, f3, D3, sl3, F4, rfl, ha4, ((Fr.of_below (S := F) HB3.out).drew).trans hf4 (fun _ _ h => h), fun b hb => (hn4 b hb).imp id (fun h => Nat.le_trans HB3.out.size h), fun hx => (hn4 jb hx).elim (hno jb HGE.out) (fun h => by omega), ?_, ?_, HGE.out, fun b hb => ⟨(HE.out.2.2 b hb).1, (HE.out.2.2 b hb).2, fun hx => (hn4 b hx).elim (hno b (HE.out.2.2 b hb).1) (fun h => by have := HE.out.2.1.lt b hb; omega)⟩⟩
       ·exact Blk.kept (Blk.drew HE.out.1) hf4 (hno jb HGE.out)
       ·exact (HE.out.2.1.kept ((Fr.refl (fun _ => False) w3).drew) (fun _ _ h => h)).kept hf4 (fun b hb => hno b (HE.out.2.2 b hb).1)
      generalize regAt d.stable.length r + n = x1 at *
      generalize regAt d.stable.length r + halfN d.stable.length = x2 at *
      clear HJ2 HCL HD3 HDR;have hnil := nil_clear;have hmet := method_clear
      go_region_with (go_at_call 258; refine HCC.out.mono ?_; rintro e w4 ⟨rfl, hd4⟩)
      all_goals
       have HE4 : Hid (joTo _ _ _ _ _ _ _ _) := HEND.out _ hd4;clear hd4 HEND HCC;go_wp2_with fail;refine bodyPost_ret (v := .tuple #[.pointer (some ⟨jb, 0, none⟩), .pointer (some ⟨sb, 0, none⟩), .nilIface]) (by simp [results, Tryz.results129, go_sem]) rfl ?_;rw [HO2.out];exact HE4.out
     ·have hrc : rcTo jb db sb wr (foot sb mb f sl) (rcStep ⟨g, r, s, k, regAt d.stable.length r + n, regAt d.stable.length r + halfN d.stable.length⟩ T (firstB g k (rg.drop n))) e w3 := hrc;rw [he, jn_passed] at hrc;obtain ⟨rfl, hj3, mb3, f3, D3, sl3, ht3, hf3, hn3⟩ := hrc;obtain ⟨fu', hr', hle'⟩ := HR.out.next hp ht;have HB3 : Hid (Below w0.heap.size w0 w3) := HB.out.trans (hf3.belowB HB.out.size (fun b hb => by
       rcases hb with hb | rfl
       ·exact (HFT.out b hb).1
       ·exact HGE.out))
      have HE : Hid (Reading rg g n0 R fu' (k + 1) (n + (p.length + 10)) T' ∧ JB w3 jb db ⟨g, r, s, k + 1, regAt d.stable.length r + (n + (p.length + 10)), regAt d.stable.length r + halfN d.stable.length⟩ ∧ TabAt w3 sb T' mb3 f3 D3 sl3 ∧ ∀ b, foot sb mb3 f3 sl3 b → w0.heap.size ≤ b ∧ b ≠ jb) := ⟨hr', hj3, ht3, fun b hb => by
       have h1 := HJ.out.lt
       have h2 := HB.out.size
       rcases hn3 b hb with h | h
       ·exact HFT.out b h
       ·omega⟩
      have HM : Hid (jleft w3 jb < jleft wr jb) := by
       show _ < _;rw [jleft_eq hj3, jleft_eq HJ.out];have h3 := HRL.out;have h4 := HS.out.1;have h5 := HS.out.2.1;show 7000 - (regAt _ _ + _) < 7000 - (regAt _ _ + _);omega
      clear hj3 ht3 hf3 hn3 he hp ht hr' hle' HCH;go_wp2_with fail;go_roundw
      case rel => exact ⟨fu', k + 1, _, T', mb3, f3, D3, sl3, HE.out.1, HE.out.2.1, HE.out.2.2.1, HE.out.2.2.2, HB3⟩
      case measure => exact HM.out
end Go.Proofs.YtmnajomkfnkmeaaGreatDoor
