import Derived.Test.YtmnajomkfnkmeaaGreatDoorBy
import Derived.Test.YtmnajomkfnkmeaaGreatDoorPurB
import Derived.Conc.LoneSelect
namespace Go.Proofs.YtmnajomkfnkmeaaGreatDoor
open Go.RowKit Go.Conc
/-! THE POWER: a channel that is closed when it goes -/
def ChanAt (w : World) (cb : Nat) (down : Bool) : Prop := w.heap[cb]? = some (.chan 0 #[] down 0 0 false)
set_option maxRecDepth 100000 in
theorem isDown_no (pb cb : Nat) (w : World) (h0 : w.cell? ⟨pb, 0, none⟩ = some (.chan (some cb))) (hc : ChanAt w cb false) :
    Calls Tryz.prog 54 #[.pointer (some ⟨pb, 0, none⟩)] w fun e w' => e = .returned (.bool false) ∧ w' = w := by
  refine calls_of_loneTo fun cs => ?_
  have e : Frame.enter Tryz.prog 54 #[.pointer (some ⟨pb, 0, none⟩)] .normal = (base 54).at ⟨#[.pointer (some ⟨pb, 0, none⟩), undef, undef, undef, undef, undef, undef, undef, undef, undef], []⟩ [.code (Tryz.f54.body.getD .skip)] := by
    simp [Frame.enter, Frame.at, Tryz.func54, base, Tryz.f54]
  rw [e]
  refine LoneTo.goes (n := 13) ?_
  simp only [Tryz.f54, Option.getD_some]
  s_c stepG_seq
  s_reg
  s_op
  s_c stepG_region_end
  s_c stepG_seq
  s_reg
  s_op
  s_op
  s_op
  s_op
  s_c stepG_region_end
  s_c stepG_seq
  s_reg
  s_stop
  refine LoneTo.step (step_lone_select_default (c := cb) (z := .agg #[]) (cap := 0) (s := 0) (r := 0) (tm := false) (stepG_comm (cases := #[rcase cb (.agg #[])]) (blocking := false) (shape := .select) (w' := w) rfl rfl (by decide) (by simp [go_sem, execOp, rcase, Act.eval])) hc) ?_
  rw [Frame.finish_at]
  walk_nrm
  refine LoneTo.goes (n := 10) ?_
  s_op
  s_op
  s_c stepG_region_end
  s_c stepG_block
  s_cond false
  s_c stepG_seq
  s_reg
  s_op
  s_c stepG_region_end
  s_c stepG_ret'
  s_stop
  refine LoneTo.done ⟨.returned (.bool false), _, rfl, ⟨rfl, rfl⟩, rfl, rfl, rfl, rfl, _, Tryz.func54, by simp [results, Tryz.f54, Frame.at]⟩
set_option maxRecDepth 100000 in
theorem isDown_yes (pb cb : Nat) (w : World) (h0 : w.cell? ⟨pb, 0, none⟩ = some (.chan (some cb))) (hc : ChanAt w cb true) :
    Calls Tryz.prog 54 #[.pointer (some ⟨pb, 0, none⟩)] w fun e w' => e = .returned (.bool true) ∧ w' = w := by
  refine calls_of_loneTo fun cs => ?_
  have e : Frame.enter Tryz.prog 54 #[.pointer (some ⟨pb, 0, none⟩)] .normal = (base 54).at ⟨#[.pointer (some ⟨pb, 0, none⟩), undef, undef, undef, undef, undef, undef, undef, undef, undef], []⟩ [.code (Tryz.f54.body.getD .skip)] := by
    simp [Frame.enter, Frame.at, Tryz.func54, base, Tryz.f54]
  rw [e]
  refine LoneTo.goes (n := 13) ?_
  simp only [Tryz.f54, Option.getD_some]
  s_c stepG_seq
  s_reg
  s_op
  s_c stepG_region_end
  s_c stepG_seq
  s_reg
  s_op
  s_op
  s_op
  s_op
  s_c stepG_region_end
  s_c stepG_seq
  s_reg
  s_stop
  refine LoneTo.step (step_lone_select_recv_shut (c := cb) (z := .agg #[]) (cap := 0) (s := 0) (r := 0) (tm := false) (stepG_comm (cases := #[rcase cb (.agg #[])]) (blocking := false) (shape := .select) (w' := w) rfl rfl (by decide) (by simp [go_sem, execOp, rcase, Act.eval])) hc) ?_
  rw [Frame.finish_at]
  walk_nrm
  refine LoneTo.goes (n := 10) ?_
  s_op
  s_op
  s_c stepG_region_end
  s_c stepG_block
  s_cond true
  s_c stepG_seq
  s_reg
  s_op
  s_c stepG_region_end
  s_c stepG_ret'
  s_stop
  refine LoneTo.done ⟨.returned (.bool true), _, rfl, ⟨rfl, rfl⟩, rfl, rfl, rfl, rfl, _, Tryz.func54, by simp [results, Tryz.f54, Frame.at]⟩
theorem isDown_any (pb cb : Nat) (b : Bool) (w : World) (h0 : w.cell? ⟨pb, 0, none⟩ = some (.chan (some cb))) (hc : ChanAt w cb b) :
    Calls Tryz.prog 54 #[.pointer (some ⟨pb, 0, none⟩)] w fun e w' => e = .returned (.bool b) ∧ w' = w := by
  cases b
  · exact isDown_no pb cb w h0 hc
  · exact isDown_yes pb cb w h0 hc
theorem ChanAt.lt {w : World} {cb : Nat} {b : Bool} (h : ChanAt w cb b) : cb < w.heap.size := (Array.getElem?_eq_some_iff.1 h).1
theorem ChanAt.kept {S : Nat → Prop} {w w' : World} {cb : Nat} {b : Bool} (h : ChanAt w cb b) (hf : Fr S w w') (hn : ¬ S cb) : ChanAt w' cb b := (hf.block cb h.lt hn).trans h
/-- the drive's block -/
def drvA (cb : Nat) (fuse : Nat) (st wr uw : Value) : Array Value := #[.chan (some cb), .int .i64 fuse, st, wr, uw]
end Go.Proofs.YtmnajomkfnkmeaaGreatDoor
