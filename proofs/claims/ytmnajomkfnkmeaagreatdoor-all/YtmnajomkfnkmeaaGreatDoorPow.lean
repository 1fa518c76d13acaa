import Derived.Test.YtmnajomkfnkmeaaGreatDoorBy
import Derived.Test.YtmnajomkfnkmeaaGreatDoorPurB
import Derived.Conc.LoneSelect
import Derived.Test.YtmnajomkfnkmeaaGreatDoorNum
set_option maxRecDepth 100000
set_option maxHeartbeats 400000
namespace Go.Proofs.YtmnajomkfnkmeaaGreatDoor
open Go.RowKit Go.Conc
def ChanAt (w : World) (cb : Nat) (down : Bool) : Prop := w.heap[cb]? = some (.chan 0 #[] down 0 0 false)
theorem isDown_no (pb cb : Nat) (w : World) (h0 : w.cell? ⟨pb, 0, none⟩ = some (.chan (some cb))) (hc : ChanAt w cb false) :
  Calls Tryz.prog 54 #[.pointer (some ⟨pb, 0, none⟩)] w fun e w' => e = .returned (.bool false) ∧ w' = w := by
 refine calls_of_loneTo fun cs => ?_;have e : Frame.enter Tryz.prog 54 #[.pointer (some ⟨pb, 0, none⟩)] .normal = (base 54).at ⟨#[.pointer (some ⟨pb, 0, none⟩), undef, undef, undef, undef, undef, undef, undef, undef, undef], []⟩ [.code (Tryz.f54.body.getD .skip)] := by
  simp [Frame.enter, Frame.at, Tryz.func54, base, Tryz.f54]
 rw [e];refine LoneTo.goes (n := 13) ?_;simp only [Tryz.f54, Option.getD_some]
 s_c stepG_seq
 s_reg
 s_op
 s_c stepG_region_end
 s_c stepG_seq
 s_reg
 s_op
 s_op
 s_op
 s_op
 s_c stepG_region_end
 s_c stepG_seq
 s_reg
 s_stop
 refine LoneTo.step (step_lone_select_default (c := cb) (z := .agg #[]) (cap := 0) (s := 0) (r := 0) (tm := false) (stepG_comm (cases := #[rcase cb (.agg #[])]) (blocking := false) (shape := .select) (w' := w) rfl rfl (by decide) (by simp [go_sem, execOp, rcase, Act.eval])) hc) ?_;rw [Frame.finish_at]
 walk_nrm
 refine LoneTo.goes (n := 10) ?_
 s_op
 s_op
 s_c stepG_region_end
 s_c stepG_block
 s_cond false
 s_c stepG_seq
 s_reg
 s_op
 s_c stepG_region_end
 s_c stepG_ret'
 s_stop
 refine LoneTo.done ⟨.returned (.bool false), _, rfl, ⟨rfl, rfl⟩, rfl, rfl, rfl, rfl, _, Tryz.func54, by simp [results, Tryz.f54, Frame.at]⟩
theorem isDown_yes (pb cb : Nat) (w : World) (h0 : w.cell? ⟨pb, 0, none⟩ = some (.chan (some cb))) (hc : ChanAt w cb true) :
  Calls Tryz.prog 54 #[.pointer (some ⟨pb, 0, none⟩)] w fun e w' => e = .returned (.bool true) ∧ w' = w := by
 refine calls_of_loneTo fun cs => ?_;have e : Frame.enter Tryz.prog 54 #[.pointer (some ⟨pb, 0, none⟩)] .normal = (base 54).at ⟨#[.pointer (some ⟨pb, 0, none⟩), undef, undef, undef, undef, undef, undef, undef, undef, undef], []⟩ [.code (Tryz.f54.body.getD .skip)] := by
  simp [Frame.enter, Frame.at, Tryz.func54, base, Tryz.f54]
 rw [e];refine LoneTo.goes (n := 13) ?_;simp only [Tryz.f54, Option.getD_some]
 s_c stepG_seq
 s_reg
 s_op
 s_c stepG_region_end
 s_c stepG_seq
 s_reg
 s_op
 s_op
 s_op
 s_op
 s_c stepG_region_end
 s_c stepG_seq
 s_reg
 s_stop
 refine LoneTo.step (step_lone_select_recv_shut (c := cb) (z := .agg #[]) (cap := 0) (s := 0) (r := 0) (tm := false) (stepG_comm (cases := #[rcase cb (.agg #[])]) (blocking := false) (shape := .select) (w' := w) rfl rfl (by decide) (by simp [go_sem, execOp, rcase, Act.eval])) hc) ?_;rw [Frame.finish_at]
 walk_nrm
 refine LoneTo.goes (n := 10) ?_
 s_op
 s_op
 s_c stepG_region_end
 s_c stepG_block
 s_cond true
 s_c stepG_seq
 s_reg
 s_op
 s_c stepG_region_end
 s_c stepG_ret'
 s_stop
 refine LoneTo.done ⟨.returned (.bool true), _, rfl, ⟨rfl, rfl⟩, rfl, rfl, rfl, rfl, _, Tryz.func54, by simp [results, Tryz.f54, Frame.at]⟩
theorem isDown_any (pb cb : Nat) (b : Bool) (w : World) (h0 : w.cell? ⟨pb, 0, none⟩ = some (.chan (some cb))) (hc : ChanAt w cb b) :
  Calls Tryz.prog 54 #[.pointer (some ⟨pb, 0, none⟩)] w fun e w' => e = .returned (.bool b) ∧ w' = w := by
 cases b
 ·exact isDown_no pb cb w h0 hc
 ·exact isDown_yes pb cb w h0 hc
theorem ChanAt.lt {w : World} {cb : Nat} {b : Bool} (h : ChanAt w cb b) : cb < w.heap.size := (Array.getElem?_eq_some_iff.1 h).1
theorem ChanAt.kept {S : Nat → Prop} {w w' : World} {cb : Nat} {b : Bool} (h : ChanAt w cb b) (hf : Fr S w w') (hn : ¬ S cb) : ChanAt w' cb b := (hf.block cb h.lt hn).trans h
theorem ChanAt.noBlk {w : World} {cb : Nat} {b : Bool} (h : ChanAt w cb b) {a : Array Value} {T : TypeId} (hb : Blk w cb a T) : False := by
 have := (show w.heap[cb]? = _ from h).symm.trans hb;cases this
theorem ChanAt.shut {w : World} {cb : Nat} {b : Bool} (h : ChanAt w cb b) : ChanAt (w.setChan cb 0 #[] true 0 0 false) cb true := heap_setChan w cb 0 #[] true 0 0 false h.lt
theorem Fr.setChan {S : Nat → Prop} {a w : World} (h : Fr S a w) {c : Nat} (hc : c < a.heap.size → S c) (cap : Nat) (buf : Array Value) (cl : Bool) (s r : Nat) (tm : Bool) : Fr S a (w.setChan c cap buf cl s r tm) :=
 ⟨h.os, h.tape, h.output, by rw [size_setChan]; exact h.size, fun k hk hn => by
  rw [← h.block k hk hn]
  simp only [World.setChan]
  rw [Array.getElem?_setIfInBounds_ne (fun e => hn (by subst e; exact hc hk))]⟩
theorem Blk.setChan {w : World} {b : Nat} {a : Array Value} {T : TypeId} (h : Blk w b a T) {c : Nat} (hne : c ≠ b) (cap : Nat) (buf : Array Value) (cl : Bool) (s r : Nat) (tm : Bool) : Blk (w.setChan c cap buf cl s r tm) b a T :=
 h.kept ((Fr.refl (· = c) w).setChan (fun _ => rfl) cap buf cl s r tm) (fun e => hne e.symm)
def drvA (cb : Nat) (fuse : Nat) (st wr uw : Value) : Array Value := #[.chan (some cb), .int .i64 fuse, st, wr, uw]
theorem arm_any (db cb fuse : Nat) (b : Bool) (st wr uw : Value) (n : Int) (w : World) (hb : Blk w db (drvA cb fuse st wr uw) 96) (hc : ChanAt w cb b) (h1 : n ≤ 9223372036854775807) :
  Calls Tryz.prog 60 #[.pointer (some ⟨db, 0, none⟩), .int .i64 n] w fun e w' => e = .returned (.tuple #[]) ∧ Fr (· = db) w w' ∧ w'.heap.size = w.heap.size ∧ Blk w' db (drvA cb (if b then fuse else n.toNat) st wr uw) 96 := by
 have HB : Hid (Blk w db _ _) := hb;have h0 : w.cell? ⟨db, 0, none⟩ = some (.chan (some cb)) := Blk.cell hb 0;have f1 : w.frozen? ⟨db, 1, none⟩ = false := Blk.frozen hb 1;have c1 : w.cell? ⟨db, 1, none⟩ = some (.int .i64 fuse) := Blk.cell hb 1;have HN : Hid ((if (0 : Int) ≤ n then n else 0) = (n.toNat : Int)) := by show _ = _; split <;> omega
 clear hb;cases b
 ·go_enter Tryz.func60, Tryz.ntmps60;go_wp2_with fail;refine (isDown_any db cb false _ h0 hc).mono ?_;rintro e w1 ⟨rfl, rfl⟩;go_wp2_with fail
  all_goals go_end0
  ·refine ⟨rfl, (Fr.refl (· = db) _).setCell ⟨db, 1, none⟩ (fun _ => rfl) _, by simp [World.setCell], ?_⟩;have := HB.out.set 1 (.int .i64 0);rw [show n.toNat = 0 by omega];exact this
  ·refine ⟨rfl, (Fr.refl (· = db) _).setCell ⟨db, 1, none⟩ (fun _ => rfl) _, by simp [World.setCell], ?_⟩;have := HB.out.set 1 (.int .i64 n);have e : ((n.toNat : Nat) : Int) = n := by omega
   show Blk _ db (drvA cb n.toNat st wr uw) _;unfold drvA at this ⊢;rw [e];exact this
 ·go_enter Tryz.func60, Tryz.ntmps60;go_wp2_with fail;refine (isDown_any db cb true _ h0 hc).mono ?_;rintro e w1 ⟨rfl, rfl⟩;go_wp2_with fail;refine bodyPost_ret (v := .tuple #[]) (by simp [results, Tryz.results60, go_sem]) rfl ⟨rfl, Fr.refl _ _, rfl, HB.out⟩
def downV (ev : Value) (ok : Bool) : Value := if ok then .nilIface else ev
theorem step_any (db cb fuse : Nat) (b : Bool) (st wr uw ev : Value) (w : World) (hb : Blk w db (drvA cb fuse st wr uw) 96) (hc : ChanAt w cb b) (hbf : b = true → fuse = 0) (h1 : fuse ≤ 9223372036854775807)
  (he : w.cell? ⟨2, 0, none⟩ = some ev) (hd : 2 ≠ db) (hcg : 2 ≠ cb) :
  Calls Tryz.prog 263 #[.pointer (some ⟨db, 0, none⟩)] w fun e w' => e = .returned (downV ev (if fuse = 0 then !b else decide (fuse ≠ 1))) ∧ Fr (fun i => i = db ∨ i = cb) w w' ∧ w'.heap.size = w.heap.size ∧
   Blk w' db (drvA cb (fuse - 1) st wr uw) 96 ∧ ChanAt w' cb (if fuse = 0 then b else decide (fuse = 1)) := by
 have HB : Hid (Blk w db _ _) := hb;have HC : Hid (ChanAt w cb b) := hc;have HE : Hid (w.cell? ⟨2, 0, none⟩ = some ev) := he;have hne : cb ≠ db := fun e => by subst e; exact hc.noBlk hb
 have c0 : w.cell? ⟨db, 0, none⟩ = some (.chan (some cb)) := Blk.cell hb 0;have c1 : w.cell? ⟨db, 1, none⟩ = some (.int .i64 fuse) := Blk.cell hb 1;have f1 : w.frozen? ⟨db, 1, none⟩ = false := Blk.frozen hb 1;clear hb hc he;by_cases h0 : fuse = 0
 ·subst h0;clear hbf;cases b
  ·go_enter Tryz.func263, Tryz.ntmps263;go_wp2_with fail;refine (isDown_any db cb false _ c0 HC.out).mono ?_;rintro e w1 ⟨rfl, rfl⟩;go_wp2_with fail;go_ret;exact ⟨rfl, Fr.refl _ _, rfl, HB.out, HC.out⟩
  ·have e0 := HE.out;go_enter Tryz.func263, Tryz.ntmps263;go_wp2_with fail;refine (isDown_any db cb true _ c0 HC.out).mono ?_;rintro e w1 ⟨rfl, rfl⟩;go_wp2_with fail;go_ret;exact ⟨rfl, Fr.refl _ _, rfl, HB.out, HC.out⟩
 ·have hbb : b = false := by cases b; rfl; exact absurd (hbf rfl) h0
  subst hbb;clear hbf;have hB1 : Blk (w.setCell ⟨db, 1, none⟩ (.int .i64 ((fuse : Int) - 1))) db (drvA cb (fuse - 1) st wr uw) 96 := by
   have e : ((fuse - 1 : Nat) : Int) = (fuse : Int) - 1 := by omega
   have := HB.out.set 1 (.int .i64 ((fuse : Int) - 1));unfold drvA at this ⊢;rw [e];exact this
  have hC1 : ChanAt (w.setCell ⟨db, 1, none⟩ (.int .i64 ((fuse : Int) - 1))) cb false := HC.out.kept ((Fr.refl (· = db) w).setCell ⟨db, 1, none⟩ (fun _ => rfl) _) hne;have hF1 : Fr (fun i => i = db ∨ i = cb) w (w.setCell ⟨db, 1, none⟩ (.int .i64 ((fuse : Int) - 1))) := (Fr.refl _ w).setCell ⟨db, 1, none⟩ (fun _ => Or.inl rfl) _;have hE1 : (w.setCell ⟨db, 1, none⟩ (.int .i64 ((fuse : Int) - 1))).cell? ⟨2, 0, none⟩ = some ev := (hF1.cell (p := ⟨2, 0, none⟩) (World.block_lt_of_cell? _ _ HE.out) (fun e => e.elim hd hcg)).trans HE.out;have hz1 : (w.setCell ⟨db, 1, none⟩ (.int .i64 ((fuse : Int) - 1))).heap.size = w.heap.size := by simp [World.setCell]
  have HK : Hid (_ ∧ _ ∧ _ ∧ _ ∧ _) := ⟨hB1, hC1, hF1, hE1, hz1⟩;clear hB1 hC1 hF1 hE1 hz1;by_cases h2 : fuse = 1
  ·subst h2;clear h0;go_enter Tryz.func263, Tryz.ntmps263;obtain ⟨wc, hcl, hF, hC, hB, hE, hz⟩ : ∃ wc, (∀ (ats : Array TypeId) (ty : TypeId), (Builtin.close_ ats ty #[.chan (some cb)]).run Tryz.prog (w.setCell ⟨db, 1, none⟩ (.int .i64 0)) = .ok (.tuple #[]) wc) ∧ Fr (fun i => i = db ∨ i = cb) w wc ∧ ChanAt wc cb true ∧ Blk wc db (drvA cb 0 st wr uw) 96 ∧ wc.cell? ⟨2, 0, none⟩ = some ev ∧ wc.heap.size = w.heap.size := by
    refine ⟨(w.setCell ⟨db, 1, none⟩ (.int .i64 0)).setChan cb 0 #[] true 0 0 false, fun ats ty => run_close_open (P := Tryz.prog) (w := w.setCell ⟨db, 1, none⟩ (.int .i64 0)) ats ty HK.out.2.1, ?_, HK.out.2.1.shut, HK.out.1.setChan hne _ _ _ _ _ _, ?_, ?_⟩
    ·exact HK.out.2.2.1.setChan (fun _ => Or.inr rfl) _ _ _ _ _ _
    ·exact (((Fr.refl (· = cb) _).setChan (fun _ => rfl) 0 #[] true 0 0 false).cell (p := ⟨2, 0, none⟩) (World.block_lt_of_cell? _ _ HK.out.2.2.2.1) (fun e => hcg e)).trans HK.out.2.2.2.1
    ·rw [size_setChan]; exact HK.out.2.2.2.2
   have c1' : (w.setCell ⟨db, 1, none⟩ (.int .i64 0)).cell? ⟨db, 1, none⟩ = some (.int .i64 0) := Blk.cell HK.out.1 1;have c0' : (w.setCell ⟨db, 1, none⟩ (.int .i64 0)).cell? ⟨db, 0, none⟩ = some (.chan (some cb)) := Blk.cell HK.out.1 0;go_wp2_with fail;refine (isDown_any db cb true _ (Blk.cell hB 0) hC).mono ?_;rintro e w1 ⟨rfl, rfl⟩;go_wp2_with fail;go_ret;exact ⟨rfl, hF, hz, hB, hC⟩
  ·have hge : 2 ≤ fuse := by omega
   have hK := HK.out;have c1' : (w.setCell ⟨db, 1, none⟩ (.int .i64 ((fuse : Int) - 1))).cell? ⟨db, 1, none⟩ = some (.int .i64 ((fuse : Int) - 1)) := by
    have e : ((fuse - 1 : Nat) : Int) = (fuse : Int) - 1 := by omega
    rw [← e]; rw [← e] at hK; exact Blk.cell hK.1 1
   have c0' : (w.setCell ⟨db, 1, none⟩ (.int .i64 ((fuse : Int) - 1))).cell? ⟨db, 0, none⟩ = some (.chan (some cb)) := Blk.cell hK.1 0;have HR : Hid ((if fuse = 0 then !false else decide (fuse ≠ 1)) = true ∧ (if fuse = 0 then false else decide (fuse = 1)) = false) := by
    constructor
    ·rw [if_neg h0]; exact decide_eq_true h2
    ·rw [if_neg h0]; exact decide_eq_false h2
   rw [HR.out.1, HR.out.2];have g0 : 0 < (fuse : Int) := by omega
   have g1 : (((fuse : Int) - 1) == 0) = false := by rw [Bool.eq_false_iff]; intro h; rw [beq_iff_eq] at h; omega
   clear hK h0 h2;go_enter Tryz.func263, Tryz.ntmps263;go_wp2_with fail;refine (isDown_any db cb false _ c0' HK.out.2.1).mono ?_;rintro e w1 ⟨rfl, rfl⟩;go_wp2_with fail;go_ret;exact ⟨rfl, HK.out.2.2.1, HK.out.2.2.2.2, HK.out.1, HK.out.2.1⟩
end Go.Proofs.YtmnajomkfnkmeaaGreatDoor
namespace Go.Proofs.YtmnajomkfnkmeaaGreatDoor
open Go.RowKit Go.Conc
def errV (a : Addr) : Value := .iface 305 (.pointer (some a))
structure Gl where
 num : Addr
 size : Addr
 down : Addr
 full : Addr
 pass : Addr
 head : Addr
 unfit : Addr
 recd : Addr
structure Glob (B : Nat) (G : Gl) (w : World) : Prop where
 le : B ≤ w.heap.size
 digits : DigitsIn w
 digitsB : 4 < B
 num : w.cell? ⟨0, 0, none⟩ = some (errV G.num) ∧ 0 < B
 size : w.cell? ⟨1, 0, none⟩ = some (errV G.size) ∧ 1 < B
 down : w.cell? ⟨2, 0, none⟩ = some (errV G.down) ∧ 2 < B
 full : w.cell? ⟨3, 0, none⟩ = some (errV G.full) ∧ 3 < B
 pass : w.cell? ⟨5, 0, none⟩ = some (errV G.pass) ∧ 5 < B
 head : w.cell? ⟨7, 0, none⟩ = some (errV G.head) ∧ 7 < B
 unfit : w.cell? ⟨8, 0, none⟩ = some (errV G.unfit) ∧ 8 < B
 recd : w.cell? ⟨9, 0, none⟩ = some (errV G.recd) ∧ 9 < B
 downAt : (∃ c t, w.heap[G.down.block]? = some (.cells c t (0, 0))) ∧ G.down.block < B
 fullAt : (∃ c t, w.heap[G.full.block]? = some (.cells c t (0, 0))) ∧ G.full.block < B
 ne : G.full ≠ G.down
theorem below_cell {B : Nat} {w w' : World} (h : Below B w w') {g i : Nat} (hg : g < B) : w'.cell? ⟨g, i, none⟩ = w.cell? ⟨g, i, none⟩ := World.cell?_of_block (w := w) (h.block g hg)
theorem Glob.below {B : Nat} {G : Gl} {w w' : World} (h : Glob B G w) (hb : Below B w w') : Glob B G w' := by
 have hs : B ≤ w'.heap.size := Nat.le_trans h.le hb.size;refine ⟨hs, ?_, h.digitsB, ⟨(below_cell hb h.num.2).trans h.num.1, h.num.2⟩, ⟨(below_cell hb h.size.2).trans h.size.1, h.size.2⟩, ⟨(below_cell hb h.down.2).trans h.down.1, h.down.2⟩, ⟨(below_cell hb h.full.2).trans h.full.1, h.full.2⟩,
  ⟨(below_cell hb h.pass.2).trans h.pass.1, h.pass.2⟩, ⟨(below_cell hb h.head.2).trans h.head.1, h.head.2⟩, ⟨(below_cell hb h.unfit.2).trans h.unfit.1, h.unfit.2⟩, ⟨(below_cell hb h.recd.2).trans h.recd.1, h.recd.2⟩, ?_, ?_, h.ne⟩
 ·exact ⟨Nat.lt_of_lt_of_le h.digitsB hs, fun i hi => (below_cell hb h.digitsB).trans (h.digits.2 i hi)⟩
 ·obtain ⟨⟨c, t, hc⟩, hl⟩ := h.downAt;exact ⟨⟨c, t, (hb.block _ hl).trans hc⟩, hl⟩
 ·obtain ⟨⟨c, t, hc⟩, hl⟩ := h.fullAt;exact ⟨⟨c, t, (hb.block _ hl).trans hc⟩, hl⟩
theorem bstep {w0 w1 w2 : World} (h : Below w0.heap.size w0 w1) (hb : Below w1.heap.size w1 w2) : Below w0.heap.size w0 w2 := h.trans (hb.mono h.size)
theorem Glob.drew {B : Nat} {G : Gl} {w : World} (h : Glob B G w) : Glob B G w.drew := h.below ((Below.refl _ w).drew)
theorem Fr.belowB {S : Nat → Prop} {w w' : World} {B : Nat} (h : Fr S w w') (hB : B ≤ w.heap.size) (hs : ∀ b, S b → B ≤ b) : Below B w w' := h.below_of B hB (fun i hi hx => by have := hs i hx; omega)
theorem Glob.fr {B : Nat} {G : Gl} {S : Nat → Prop} {w w' : World} (h : Glob B G w) (hf : Fr S w w') (hs : ∀ b, S b → B ≤ b) : Glob B G w' := h.below (hf.belowB h.le hs)
def nums (l : List Nat) : List Value := l.map fun (n : Nat) => .int .i64 (n : Int)
theorem nums_length (l : List Nat) : (nums l).length = l.length := by simp [nums]
def WO (w : World) (s : Value) (l : List Nat) : Prop := w.ownsRow 0 3 1 s l.length (nums l)
theorem WO.cases {w : World} {s : Value} {l : List Nat} (h : WO w s l) : (s = .slice none 0 0 ∧ l = []) ∨
  ∃ (q cap : Nat) (cur : List Value), s = .slice (some ⟨q, 0, none⟩) l.length cap ∧ Blk w q cur.toArray 3 ∧ l.length ≤ cap ∧ cap ≤ maxLen ∧ cur.length = cap ∧ cur.take l.length = nums l := by
 rcases h.2 with ⟨h1, h2⟩ | ⟨q, cap, cur, h1, _, h3, h4, h5, h6, h7⟩
 ·exact Or.inl ⟨h1, List.eq_nil_of_length_eq_zero h2⟩
 ·exact Or.inr ⟨q, cap, cur.toList, h1, by simpa [Blk] using h3, h4, h5, by simpa using h6, by simpa using h7⟩
theorem WO.of {w : World} {q cap : Nat} {cur : List Value} {l : List Nat} (h1 : Blk w q cur.toArray 3) (h2 : l.length ≤ cap) (h3 : cap ≤ maxLen) (h4 : cur.length = cap) (h5 : cur.take l.length = nums l) :
  WO w (.slice (some ⟨q, 0, none⟩) l.length cap) l := ⟨by rw [nums_length, Nat.mul_one], .inr ⟨q, cap, cur.toArray, rfl, Nat.zero_le _, h1, h2, h3, by simpa using h4, by simpa using h5⟩⟩
theorem WO.nil (w : World) : WO w (.slice none 0 0) [] := World.ownsRow_nil w 0 _ 1
theorem WO.kept {S : Nat → Prop} {w w' : World} {s : Value} {l : List Nat} (h : WO w s l) (hf : Fr S w w') (hs : ∀ b, s.ownBlock = some b → ¬ S b) : WO w' s l := by
 rcases h.cases with ⟨rfl, rfl⟩ | ⟨q, cap, cur, rfl, hb, hn, hm, hc, ht⟩
 ·exact WO.nil w'
 ·exact WO.of (hb.kept hf (hs q rfl)) hn hm hc ht
theorem WO.lt {w : World} {s : Value} {l : List Nat} (h : WO w s l) (b : Nat) (hb : s.ownBlock = some b) : b < w.heap.size := (World.ownsRow.lt h b hb).2
theorem WO.cell {w : World} {q cap n : Nat} {l : List Nat} (h : WO w (.slice (some ⟨q, 0, none⟩) n cap) l) (i : Nat) (hi : i < l.length) : w.cell? ⟨q, i, none⟩ = some (.int .i64 (l[i] : Int)) := by
 rcases h.cases with ⟨h, _⟩ | ⟨q', cap', cur, e, hb, hn, hm, hc, ht⟩
 ·cases h
 ·simp only [Value.slice.injEq, Option.some.injEq, Addr.mk.injEq, and_true] at e;obtain ⟨rfl, rfl, rfl⟩ := e;have hg : (nums l)[i]? = some (.int .i64 (l[i] : Int)) := by unfold nums; rw [List.getElem?_map, List.getElem?_eq_getElem hi]; rfl
  rw [← ht, List.getElem?_take, if_pos hi] at hg;rw [Blk.cell hb];simpa using hg
theorem WO.emptied {w : World} {q cap n : Nat} {l : List Nat} (h : WO w (.slice (some ⟨q, 0, none⟩) n cap) l) : WO w (.slice (some ⟨q, 0, none⟩) 0 cap) [] := by
 rcases h.cases with ⟨h, _⟩ | ⟨q', cap', cur, e, hb, hn, hm, hc, ht⟩
 ·cases h
 ·simp only [Value.slice.injEq, Option.some.injEq, Addr.mk.injEq, and_true] at e;obtain ⟨rfl, rfl, rfl⟩ := e;exact WO.of (l := []) hb (Nat.zero_le _) hm hc rfl
end Go.Proofs.YtmnajomkfnkmeaaGreatDoor
