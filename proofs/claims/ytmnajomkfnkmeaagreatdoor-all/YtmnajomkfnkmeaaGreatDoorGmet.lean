import Derived.Test.YtmnajomkfnkmeaaGreatDoorKopA
import Derived.Test.YtmnajomkfnkmeaaGreatDoorCards
import Derived.Test.YtmnajomkfnkmeaaGreatDoorTie
import Derived.ProofKit
import Derived.OpenShut
import Derived.LaidMore
import Derived.Stop.Joined
import Derived.Stop.LaidTwo
import Derived.Deep.DeepHandedRow
import Derived.Deep.DeepWitnessRowRef
import Derived.Lib.LaidTab
import Derived.MakeChecks
import Derived.Stop.Asserts
namespace Go.Proofs.YtmnajomkfnkmeaaGreatDoor
open Go.RowKit
theorem laid_skip {P : Program} {x y : String × DataW Unit} {r : List (String × DataW Unit)} {w : World} (h : laidMet P (x :: y :: r) w) : laidMet P (x :: r) w := by
 obtain ⟨ps, hv, hnd, hrows⟩ := h;obtain ⟨n, d⟩ := x;obtain ⟨n2, d2⟩ := y;obtain ⟨g, t, cs, fuel, p, q, a1, a2, a3, a4, ⟨g2, t2, cs2, f2, p2, q2, _, _, _, _, hq2, rfl⟩, rfl⟩ := hv;refine ⟨_, ⟨g, t, cs, fuel, p, q2, a1, a2, a3, a4, hq2, rfl⟩, ?_, fun b off hm => ?_⟩
 ·exact List.Nodup.sublist ((List.Sublist.refl _).append (List.sublist_append_right _ _)) hnd
 ·rcases List.mem_append.1 hm with h | h
  ·exact hrows b off (List.mem_append_left _ h)
  ·exact hrows b off (List.mem_append_right _ (List.mem_append_right _ h))
theorem own : ownKnob Tryz.prog.godebug = none := by kernel_rfl
theorem gSize : Tryz.prog.globalNamed "doorkeeper/layout.ErrSize" = some 1 := by kernel_rfl
theorem gHead : Tryz.prog.globalNamed "doorkeeper/layout.ErrHead" = some 7 := by kernel_rfl
theorem gRec : Tryz.prog.globalNamed "doorkeeper/layout.ErrRecord" = some 9 := by kernel_rfl
theorem gDown : Tryz.prog.globalNamed "doorkeeper/drive.ErrDown" = some 2 := by kernel_rfl
theorem gNum : Tryz.prog.globalNamed "doorkeeper/passes.ErrNumber" = some 0 := by kernel_rfl
theorem gPass : Tryz.prog.globalNamed "doorkeeper/passes.ErrPass" = some 5 := by kernel_rfl
theorem gDig : Tryz.prog.globalNamed "doorkeeper/passes.digits" = some 4 := by kernel_rfl
theorem gUnfit : Tryz.prog.globalNamed "doorkeeper/sessions.ErrUnfit" = some 8 := by kernel_rfl
theorem gFull : Tryz.prog.globalNamed "doorkeeper/journal.ErrFull" = some 3 := by kernel_rfl
theorem tSize : (Tryz.prog.globals[1]?).map (·.type) = some 80 := by kernel_rfl
theorem tHead : (Tryz.prog.globals[7]?).map (·.type) = some 80 := by kernel_rfl
theorem tRec : (Tryz.prog.globals[9]?).map (·.type) = some 80 := by kernel_rfl
theorem tDown : (Tryz.prog.globals[2]?).map (·.type) = some 80 := by kernel_rfl
theorem tNum : (Tryz.prog.globals[0]?).map (·.type) = some 80 := by kernel_rfl
theorem tPass : (Tryz.prog.globals[5]?).map (·.type) = some 80 := by kernel_rfl
theorem tDig : (Tryz.prog.globals[4]?).map (·.type) = some 198 := by kernel_rfl
theorem tUnfit : (Tryz.prog.globals[8]?).map (·.type) = some 80 := by kernel_rfl
theorem tFull : (Tryz.prog.globals[3]?).map (·.type) = some 80 := by kernel_rfl
theorem cES : Tryz.prog.cellsOf 330 = 1 := by kernel_rfl
theorem cStr : Tryz.prog.cellsOf 9 = 1 := by kernel_rfl
theorem cDigs : Tryz.prog.cellsOf 198 = 16 := by kernel_rfl
theorem cU8 : Tryz.prog.cellsOf 5 = 1 := by kernel_rfl
theorem starE : "*" ++ "errors.errorString" = "*errors.errorString" := by decide
theorem rowE (u : TypeId) (h : Tryz.prog.typeName? 3 u = some "*errors.errorString") : u = 305 :=
 typeName_ptr_named (nm := "errors.errorString") (by rw [starE]; kernel_rfl) (by kernel_rfl) (by decide) u (by rw [starE]; exact h)
theorem sent {n : String} {text : List UInt8} {r : List (String × DataW Unit)} {W : World} {g : Nat} (h : laidMet Tryz.prog ((n, .iface "*errors.errorString" (.ptr (.agg [.lit (.string text)]))) :: r) W)
  (hg : Tryz.prog.globalNamed n = some g) (ht : (Tryz.prog.globals[g]?).map (·.type) = some 80) : ∃ a, W.cell? ⟨g, 0, none⟩ = some (errV a) ∧ g < W.heap.size := by
 obtain ⟨a, s, hv, _⟩ := laid_sentinel h hg ht Tryz.underlying80 rowE Tryz.underlying305 Tryz.underlying330 rfl rfl Tryz.underlying9 cES cStr;have hc := World.var?_cell hg hv 0;have hc : W.cell? ⟨g, 0, none⟩ = some (errV a) := by unfold errV; simpa using hc
 exact ⟨a, hc, World.block_lt_of_cell? _ _ hc⟩
theorem glob_met {W : World} (hL : laidMetH Tryz.prog Rows.oneRow.laid W) : ∃ G, Glob W.heap.size G W := by
 rw [MakeChecks.laidMetH_plain _ _ _ (by kernel_rfl)] at hL;obtain ⟨a1, h1⟩ := sent hL gSize tSize;obtain ⟨a2, h2⟩ := sent hL.tail gHead tHead;obtain ⟨a3, h3⟩ := sent hL.tail.tail gRec tRec;obtain ⟨a5, h5⟩ := sent hL.tail.tail.tail.tail gNum tNum;obtain ⟨a6, h6⟩ := sent hL.tail.tail.tail.tail.tail gPass tPass;obtain ⟨a8, h8⟩ := sent hL.tail.tail.tail.tail.tail.tail.tail gUnfit tUnfit;have h49 := laid_skip (laid_skip (laid_skip (laid_skip hL.tail.tail.tail)));obtain ⟨a4, a9, s4, s9, c4, c9, t4, t9, v4, v9, _, _, _, _, _, _, hne, k4, k9⟩ := laid_sentinels2 h49 gDown tDown gFull tFull Tryz.underlying80 rowE Tryz.underlying305 Tryz.underlying330 rfl rfl Tryz.underlying9 cES cStr;have x4 : W.cell? ⟨2, 0, none⟩ = some (errV a4) := by unfold errV; simpa using World.var?_cell gDown v4 0
 have x9 : W.cell? ⟨3, 0, none⟩ = some (errV a9) := by unfold errV; simpa using World.var?_cell gFull v9 0
 have hD : laidMet Tryz.prog (("doorkeeper/passes.digits", Rows.laid_doorkeeper_passes_digits) :: _) W := hL.tail.tail.tail.tail.tail.tail
 obtain ⟨ps, ⟨g7, t7, cs7, f7, p7, q7, hg7, ht7, hv7, hd7, _, _⟩, _, _⟩ := hD;obtain rfl := Option.some.inj (gDig.symm.trans hg7);obtain rfl := Option.some.inj (tDig.symm.trans ht7);have hcs := Lib.cells_of_tab (zs := [48, 49, 50, 51, 52, 53, 54, 55, 56, 57, 97, 98, 99, 100, 101, 102]) Tryz.underlying198 Tryz.underlying5 cU8 cDigs hd7;have hlt : 4 < W.heap.size := by
  have := World.var?_cell hg7 hv7 0;obtain ⟨l⟩ := cs7;simp only at hcs;subst hcs;exact World.block_lt_of_cell? _ _ (show W.cell? ⟨4, 0, none⟩ = some (.int .u8 48) from this)
 refine ⟨⟨a5, a1, a4, a9, a6, a2, a8, a3⟩, ⟨Nat.le_refl _, ⟨hlt, fun i hi => ?_⟩, hlt, h5, h1, ⟨x4, World.block_lt_of_cell? _ _ x4⟩, ⟨x9, World.block_lt_of_cell? _ _ x9⟩, h6, h2, h8, h3, ⟨⟨c4, t4, k4⟩, (Array.getElem?_eq_some_iff.1 k4).1⟩, ⟨⟨c9, t9, k9⟩, (Array.getElem?_eq_some_iff.1 k9).1⟩, fun e => hne e.symm⟩⟩;have := World.var?_cell hg7 hv7 i;obtain ⟨l⟩ := cs7;simp only at hcs;subst hcs;rw [this];have hall : ∀ i : Fin 16, ([48, 49, 50, 51, 52, 53, 54, 55, 56, 57, 97, 98, 99, 100, 101, 102] : List Int)[i.val]? = some ((hexDig i.val).toNat : Int) := by decide
 have hi2 := hall ⟨i, hi⟩;simp only [List.getElem?_toArray, List.getElem?_map];rw [show ([48, 49, 50, 51, 52, 53, 54, 55, 56, 57, 97, 98, 99, 100, 101, 102] : List Int)[i]? = some ((hexDig i).toNat : Int) from hi2];rfl
end Go.Proofs.YtmnajomkfnkmeaaGreatDoor
