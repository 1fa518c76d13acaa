import Derived.Test.YtmnajomkfnkmeaaGreatDoorBy
import Derived.Test.YtmnajomkfnkmeaaGreatDoorPurB
import Derived.Conc.LoneSelect
namespace Go.Proofs.YtmnajomkfnkmeaaGreatDoor
open Go.RowKit Go.Conc
/-! THE POWER: a channel that is closed when it goes -/
def ChanAt (w : World) (cb : Nat) (down : Bool) : Prop := w.heap[cb]? = some (.chan 0 #[] down 0 0 false)
set_option maxRecDepth 100000 in
theorem isDown_no (pb cb : Nat) (w : World) (h0 : w.cell? ⟨pb, 0, none⟩ = some (.chan (some cb))) (hc : ChanAt w cb false) :
    Calls Tryz.prog 54 #[.pointer (some ⟨pb, 0, none⟩)] w fun e w' => e = .returned (.bool false) ∧ w' = w := by
  refine calls_of_loneTo fun cs => ?_
  have e : Frame.enter Tryz.prog 54 #[.pointer (some ⟨pb, 0, none⟩)] .normal = (base 54).at ⟨#[.pointer (some ⟨pb, 0, none⟩), undef, undef, undef, undef, undef, undef, undef, undef, undef], []⟩ [.code (Tryz.f54.body.getD .skip)] := by
    simp [Frame.enter, Frame.at, Tryz.func54, base, Tryz.f54]
  rw [e]
  refine LoneTo.goes (n := 13) ?_
  simp only [Tryz.f54, Option.getD_some]
  s_c stepG_seq
  s_reg
  s_op
  s_c stepG_region_end
  s_c stepG_seq
  s_reg
  s_op
  s_op
  s_op
  s_op
  s_c stepG_region_end
  s_c stepG_seq
  s_reg
  s_stop
  refine LoneTo.step (step_lone_select_default (c := cb) (z := .agg #[]) (cap := 0) (s := 0) (r := 0) (tm := false) (stepG_comm (cases := #[rcase cb (.agg #[])]) (blocking := false) (shape := .select) (w' := w) rfl rfl (by decide) (by simp [go_sem, execOp, rcase, Act.eval])) hc) ?_
  rw [Frame.finish_at]
  walk_nrm
  refine LoneTo.goes (n := 10) ?_
  s_op
  s_op
  s_c stepG_region_end
  s_c stepG_block
  s_cond false
  s_c stepG_seq
  s_reg
  s_op
  s_c stepG_region_end
  s_c stepG_ret'
  s_stop
  refine LoneTo.done ⟨.returned (.bool false), _, rfl, ⟨rfl, rfl⟩, rfl, rfl, rfl, rfl, _, Tryz.func54, by simp [results, Tryz.f54, Frame.at]⟩
set_option maxRecDepth 100000 in
theorem isDown_yes (pb cb : Nat) (w : World) (h0 : w.cell? ⟨pb, 0, none⟩ = some (.chan (some cb))) (hc : ChanAt w cb true) :
    Calls Tryz.prog 54 #[.pointer (some ⟨pb, 0, none⟩)] w fun e w' => e = .returned (.bool true) ∧ w' = w := by
  refine calls_of_loneTo fun cs => ?_
  have e : Frame.enter Tryz.prog 54 #[.pointer (some ⟨pb, 0, none⟩)] .normal = (base 54).at ⟨#[.pointer (some ⟨pb, 0, none⟩), undef, undef, undef, undef, undef, undef, undef, undef, undef], []⟩ [.code (Tryz.f54.body.getD .skip)] := by
    simp [Frame.enter, Frame.at, Tryz.func54, base, Tryz.f54]
  rw [e]
  refine LoneTo.goes (n := 13) ?_
  simp only [Tryz.f54, Option.getD_some]
  s_c stepG_seq
  s_reg
  s_op
  s_c stepG_region_end
  s_c stepG_seq
  s_reg
  s_op
  s_op
  s_op
  s_op
  s_c stepG_region_end
  s_c stepG_seq
  s_reg
  s_stop
  refine LoneTo.step (step_lone_select_recv_shut (c := cb) (z := .agg #[]) (cap := 0) (s := 0) (r := 0) (tm := false) (stepG_comm (cases := #[rcase cb (.agg #[])]) (blocking := false) (shape := .select) (w' := w) rfl rfl (by decide) (by simp [go_sem, execOp, rcase, Act.eval])) hc) ?_
  rw [Frame.finish_at]
  walk_nrm
  refine LoneTo.goes (n := 10) ?_
  s_op
  s_op
  s_c stepG_region_end
  s_c stepG_block
  s_cond true
  s_c stepG_seq
  s_reg
  s_op
  s_c stepG_region_end
  s_c stepG_ret'
  s_stop
  refine LoneTo.done ⟨.returned (.bool true), _, rfl, ⟨rfl, rfl⟩, rfl, rfl, rfl, rfl, _, Tryz.func54, by simp [results, Tryz.f54, Frame.at]⟩
theorem isDown_any (pb cb : Nat) (b : Bool) (w : World) (h0 : w.cell? ⟨pb, 0, none⟩ = some (.chan (some cb))) (hc : ChanAt w cb b) :
    Calls Tryz.prog 54 #[.pointer (some ⟨pb, 0, none⟩)] w fun e w' => e = .returned (.bool b) ∧ w' = w := by
  cases b
  · exact isDown_no pb cb w h0 hc
  · exact isDown_yes pb cb w h0 hc
theorem ChanAt.lt {w : World} {cb : Nat} {b : Bool} (h : ChanAt w cb b) : cb < w.heap.size := (Array.getElem?_eq_some_iff.1 h).1
theorem ChanAt.kept {S : Nat → Prop} {w w' : World} {cb : Nat} {b : Bool} (h : ChanAt w cb b) (hf : Fr S w w') (hn : ¬ S cb) : ChanAt w' cb b := (hf.block cb h.lt hn).trans h
theorem ChanAt.noBlk {w : World} {cb : Nat} {b : Bool} (h : ChanAt w cb b) {a : Array Value} {T : TypeId} (hb : Blk w cb a T) : False := by
  have := (show w.heap[cb]? = _ from h).symm.trans hb
  cases this
theorem ChanAt.shut {w : World} {cb : Nat} {b : Bool} (h : ChanAt w cb b) : ChanAt (w.setChan cb 0 #[] true 0 0 false) cb true := heap_setChan w cb 0 #[] true 0 0 false h.lt
theorem Fr.setChan {S : Nat → Prop} {a w : World} (h : Fr S a w) {c : Nat} (hc : c < a.heap.size → S c) (cap : Nat) (buf : Array Value) (cl : Bool) (s r : Nat) (tm : Bool) : Fr S a (w.setChan c cap buf cl s r tm) :=
  ⟨h.os, h.tape, h.output, by rw [size_setChan]; exact h.size, fun k hk hn => by
    rw [← h.block k hk hn]
    simp only [World.setChan]
    rw [Array.getElem?_setIfInBounds_ne (fun e => hn (by subst e; exact hc hk))]⟩
theorem Blk.setChan {w : World} {b : Nat} {a : Array Value} {T : TypeId} (h : Blk w b a T) {c : Nat} (hne : c ≠ b) (cap : Nat) (buf : Array Value) (cl : Bool) (s r : Nat) (tm : Bool) : Blk (w.setChan c cap buf cl s r tm) b a T :=
  h.kept ((Fr.refl (· = c) w).setChan (fun _ => rfl) cap buf cl s r tm) (fun e => hne e.symm)
/-- the drive's block -/
def drvA (cb : Nat) (fuse : Nat) (st wr uw : Value) : Array Value := #[.chan (some cb), .int .i64 fuse, st, wr, uw]
set_option maxHeartbeats 400000 in
theorem arm_any (db cb fuse : Nat) (b : Bool) (st wr uw : Value) (n : Int) (w : World) (hb : Blk w db (drvA cb fuse st wr uw) 96) (hc : ChanAt w cb b) (h1 : n ≤ 9223372036854775807) :
    Calls Tryz.prog 60 #[.pointer (some ⟨db, 0, none⟩), .int .i64 n] w fun e w' => e = .returned (.tuple #[]) ∧ Fr (· = db) w w' ∧ w'.heap.size = w.heap.size ∧ Blk w' db (drvA cb (if b then fuse else n.toNat) st wr uw) 96 := by
  have HB : Hid (Blk w db _ _) := hb
  have h0 : w.cell? ⟨db, 0, none⟩ = some (.chan (some cb)) := Blk.cell hb 0
  have f1 : w.frozen? ⟨db, 1, none⟩ = false := Blk.frozen hb 1
  have c1 : w.cell? ⟨db, 1, none⟩ = some (.int .i64 fuse) := Blk.cell hb 1
  have HN : Hid ((if (0 : Int) ≤ n then n else 0) = (n.toNat : Int)) := by show _ = _; split <;> omega
  clear hb
  cases b
  · go_enter Tryz.func60, Tryz.ntmps60
    go_wp2_with fail
    refine (isDown_any db cb false _ h0 hc).mono ?_
    rintro e w1 ⟨rfl, rfl⟩
    go_wp2_with fail
    all_goals go_end0
    · refine ⟨rfl, (Fr.refl (· = db) _).setCell ⟨db, 1, none⟩ (fun _ => rfl) _, by simp [World.setCell], ?_⟩
      have := HB.out.set 1 (.int .i64 0)
      rw [show n.toNat = 0 by omega]
      exact this
    · refine ⟨rfl, (Fr.refl (· = db) _).setCell ⟨db, 1, none⟩ (fun _ => rfl) _, by simp [World.setCell], ?_⟩
      have := HB.out.set 1 (.int .i64 n)
      have e : ((n.toNat : Nat) : Int) = n := by omega
      show Blk _ db (drvA cb n.toNat st wr uw) _
      unfold drvA at this ⊢
      rw [e]
      exact this
  · go_enter Tryz.func60, Tryz.ntmps60
    go_wp2_with fail
    refine (isDown_any db cb true _ h0 hc).mono ?_
    rintro e w1 ⟨rfl, rfl⟩
    go_wp2_with fail
    refine bodyPost_ret (v := .tuple #[]) (by simp [results, Tryz.results60, go_sem]) rfl ⟨rfl, Fr.refl _ _, rfl, HB.out⟩
/-- what a disk step answers -/
def downV (ev : Value) (ok : Bool) : Value := if ok then .nilIface else ev
set_option maxHeartbeats 400000 in
theorem step_any (db cb fuse : Nat) (b : Bool) (st wr uw ev : Value) (w : World) (hb : Blk w db (drvA cb fuse st wr uw) 96) (hc : ChanAt w cb b) (hbf : b = true → fuse = 0) (h1 : fuse ≤ 9223372036854775807)
    (he : w.cell? ⟨2, 0, none⟩ = some ev) (hd : 2 ≠ db) (hcg : 2 ≠ cb) :
    Calls Tryz.prog 263 #[.pointer (some ⟨db, 0, none⟩)] w fun e w' => e = .returned (downV ev (if fuse = 0 then !b else decide (fuse ≠ 1))) ∧ Fr (fun i => i = db ∨ i = cb) w w' ∧ w'.heap.size = w.heap.size ∧
      Blk w' db (drvA cb (fuse - 1) st wr uw) 96 ∧ ChanAt w' cb (if fuse = 0 then b else decide (fuse = 1)) := by
  have HB : Hid (Blk w db _ _) := hb
  have HC : Hid (ChanAt w cb b) := hc
  have HE : Hid (w.cell? ⟨2, 0, none⟩ = some ev) := he
  have hne : cb ≠ db := fun e => by subst e; exact hc.noBlk hb
  have c0 : w.cell? ⟨db, 0, none⟩ = some (.chan (some cb)) := Blk.cell hb 0
  have c1 : w.cell? ⟨db, 1, none⟩ = some (.int .i64 fuse) := Blk.cell hb 1
  have f1 : w.frozen? ⟨db, 1, none⟩ = false := Blk.frozen hb 1
  clear hb hc he
  by_cases h0 : fuse = 0
  · subst h0
    clear hbf
    cases b
    · go_enter Tryz.func263, Tryz.ntmps263
      go_wp2_with fail
      refine (isDown_any db cb false _ c0 HC.out).mono ?_
      rintro e w1 ⟨rfl, rfl⟩
      go_wp2_with fail
      go_ret
      exact ⟨rfl, Fr.refl _ _, rfl, HB.out, HC.out⟩
    · have e0 := HE.out
      go_enter Tryz.func263, Tryz.ntmps263
      go_wp2_with fail
      refine (isDown_any db cb true _ c0 HC.out).mono ?_
      rintro e w1 ⟨rfl, rfl⟩
      go_wp2_with fail
      go_ret
      exact ⟨rfl, Fr.refl _ _, rfl, HB.out, HC.out⟩
  · have hbb : b = false := by cases b; rfl; exact absurd (hbf rfl) h0
    subst hbb
    clear hbf
    have hB1 : Blk (w.setCell ⟨db, 1, none⟩ (.int .i64 ((fuse : Int) - 1))) db (drvA cb (fuse - 1) st wr uw) 96 := by
      have e : ((fuse - 1 : Nat) : Int) = (fuse : Int) - 1 := by omega
      have := HB.out.set 1 (.int .i64 ((fuse : Int) - 1))
      unfold drvA at this ⊢
      rw [e]
      exact this
    have hC1 : ChanAt (w.setCell ⟨db, 1, none⟩ (.int .i64 ((fuse : Int) - 1))) cb false := HC.out.kept ((Fr.refl (· = db) w).setCell ⟨db, 1, none⟩ (fun _ => rfl) _) hne
    have hF1 : Fr (fun i => i = db ∨ i = cb) w (w.setCell ⟨db, 1, none⟩ (.int .i64 ((fuse : Int) - 1))) := (Fr.refl _ w).setCell ⟨db, 1, none⟩ (fun _ => Or.inl rfl) _
    have hE1 : (w.setCell ⟨db, 1, none⟩ (.int .i64 ((fuse : Int) - 1))).cell? ⟨2, 0, none⟩ = some ev := (hF1.cell (p := ⟨2, 0, none⟩) (World.block_lt_of_cell? _ _ HE.out) (fun e => e.elim hd hcg)).trans HE.out
    have hz1 : (w.setCell ⟨db, 1, none⟩ (.int .i64 ((fuse : Int) - 1))).heap.size = w.heap.size := by simp [World.setCell]
    have HK : Hid (_ ∧ _ ∧ _ ∧ _ ∧ _) := ⟨hB1, hC1, hF1, hE1, hz1⟩
    clear hB1 hC1 hF1 hE1 hz1
    by_cases h2 : fuse = 1
    · subst h2
      clear h0
      go_enter Tryz.func263, Tryz.ntmps263
      obtain ⟨wc, hcl, hF, hC, hB, hE, hz⟩ : ∃ wc, (∀ (ats : Array TypeId) (ty : TypeId), (Builtin.close_ ats ty #[.chan (some cb)]).run Tryz.prog (w.setCell ⟨db, 1, none⟩ (.int .i64 0)) = .ok (.tuple #[]) wc) ∧ Fr (fun i => i = db ∨ i = cb) w wc ∧ ChanAt wc cb true ∧ Blk wc db (drvA cb 0 st wr uw) 96 ∧ wc.cell? ⟨2, 0, none⟩ = some ev ∧ wc.heap.size = w.heap.size := by
        refine ⟨(w.setCell ⟨db, 1, none⟩ (.int .i64 0)).setChan cb 0 #[] true 0 0 false, fun ats ty => run_close_open (P := Tryz.prog) (w := w.setCell ⟨db, 1, none⟩ (.int .i64 0)) ats ty HK.out.2.1, ?_, HK.out.2.1.shut, HK.out.1.setChan hne _ _ _ _ _ _, ?_, ?_⟩
        · exact HK.out.2.2.1.setChan (fun _ => Or.inr rfl) _ _ _ _ _ _
        · exact (((Fr.refl (· = cb) _).setChan (fun _ => rfl) 0 #[] true 0 0 false).cell (p := ⟨2, 0, none⟩) (World.block_lt_of_cell? _ _ HK.out.2.2.2.1) (fun e => hcg e)).trans HK.out.2.2.2.1
        · rw [size_setChan]; exact HK.out.2.2.2.2
      have c1' : (w.setCell ⟨db, 1, none⟩ (.int .i64 0)).cell? ⟨db, 1, none⟩ = some (.int .i64 0) := Blk.cell HK.out.1 1
      have c0' : (w.setCell ⟨db, 1, none⟩ (.int .i64 0)).cell? ⟨db, 0, none⟩ = some (.chan (some cb)) := Blk.cell HK.out.1 0
      go_wp2_with fail
      refine (isDown_any db cb true _ (Blk.cell hB 0) hC).mono ?_
      rintro e w1 ⟨rfl, rfl⟩
      go_wp2_with fail
      go_ret
      exact ⟨rfl, hF, hz, hB, hC⟩
    · have hge : 2 ≤ fuse := by omega
      have hK := HK.out
      have c1' : (w.setCell ⟨db, 1, none⟩ (.int .i64 ((fuse : Int) - 1))).cell? ⟨db, 1, none⟩ = some (.int .i64 ((fuse : Int) - 1)) := by
        have e : ((fuse - 1 : Nat) : Int) = (fuse : Int) - 1 := by omega
        rw [← e]; rw [← e] at hK; exact Blk.cell hK.1 1
      have c0' : (w.setCell ⟨db, 1, none⟩ (.int .i64 ((fuse : Int) - 1))).cell? ⟨db, 0, none⟩ = some (.chan (some cb)) := Blk.cell hK.1 0
      have HR : Hid ((if fuse = 0 then !false else decide (fuse ≠ 1)) = true ∧ (if fuse = 0 then false else decide (fuse = 1)) = false) := by
        constructor
        · rw [if_neg h0]; exact decide_eq_true h2
        · rw [if_neg h0]; exact decide_eq_false h2
      rw [HR.out.1, HR.out.2]
      have g0 : 0 < (fuse : Int) := by omega
      have g1 : (((fuse : Int) - 1) == 0) = false := by rw [Bool.eq_false_iff]; intro h; rw [beq_iff_eq] at h; omega
      clear hK h0 h2
      go_enter Tryz.func263, Tryz.ntmps263
      go_wp2_with fail
      refine (isDown_any db cb false _ c0' HK.out.2.1).mono ?_
      rintro e w1 ⟨rfl, rfl⟩
      go_wp2_with fail
      go_ret
      exact ⟨rfl, HK.out.2.2.1, HK.out.2.2.2.2, HK.out.1, HK.out.2.1⟩
end Go.Proofs.YtmnajomkfnkmeaaGreatDoor
