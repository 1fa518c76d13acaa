/- Passed: for every secret and every number, Pass answers as the document asks (P3). No condition besides the row's own. -/
import Derived.Test.YtmnajomkfnkmeaaDoorPasses
import Derived.Test.YtmnajomkfnkmeaaDoorCards
import Derived.Test.YtmnajomkfnkmeaaDoorTie
import Derived.ProofKit
import Derived.OpenShut
import Derived.LaidMore
import Derived.Stop.Joined
import Derived.Deep.DeepHandedRow
import Derived.Deep.DeepWitnessRowRef
import Derived.Lib.LaidTab
import Derived.MakeChecks
namespace Go.Proofs.YtmnajomkfnkmeaaDoor.passed
open Go.ChangeShapes Go.WideShapes Go.ChangeAt Go.RowKit
open Go.ChangeMaps (open_string shut_string)

set_option maxHeartbeats 400000 in
theorem passed_err (secret : ByteArray) (id : Int) (t : TypeId) (v : Value) (w : World) (h : id < 0 ∨ 4096 ≤ id) (he : w.cell? ⟨0, 0, none⟩ = some (.iface t v)) :
    Calls Tryd.prog 3 #[.string secret, .int .i64 id] w fun e w' => e = .returned (.bool true) ∧ Below w.heap.size w w' := by
  have HE : Hid (w.cell? ⟨0, 0, none⟩ = some (.iface t v)) := he
  clear he
  by_cases hn : id < 0
  · go_enter Tryd.func3, Tryd.ntmps3
    go_wp2_with fail
    refine (pass_err _ _ _ _ _ h HE.out).mono ?_
    rintro e w1 ⟨rfl, hb1⟩
    go_wp2_with fail
    go_ret
    exact ⟨rfl, hb1⟩
  · have hn2 : 4095 < id := by omega
    go_enter Tryd.func3, Tryd.ntmps3
    go_wp2_with fail
    refine (pass_err _ _ _ _ _ h HE.out).mono ?_
    rintro e w1 ⟨rfl, hb1⟩
    go_wp2_with fail
    go_ret
    exact ⟨rfl, hb1⟩
set_option maxHeartbeats 400000 in
theorem passed_ok (secret : ByteArray) (id : Int) (w : World) (h0 : 0 ≤ id) (h1 : id < 4096) (hs : secret.size < 9223372036854775800) (ht : DigitsIn w) :
    Calls Tryd.prog 3 #[.string secret, .int .i64 id] w fun e w' => e = .returned (.bool true) ∧ Below w.heap.size w w' := by
  have HT : Hid (DigitsIn w) := ht
  clear ht
  go_enter Tryd.func3, Tryd.ntmps3
  go_wp2_with fail
  refine (pass_ok _ _ _ h0 h1 hs HT.out).mono ?_
  rintro e w1 ⟨rfl, hb1⟩
  go_wp2_with fail
  refine (refpass_any _ _ _ hs h0 h1).mono ?_
  rintro e w2 ⟨rfl, q, rfl⟩
  go_wp2_with fail
  go_ret
  exact ⟨rfl, below_drewN hb1 _⟩


theorem own : ownKnob Tryd.prog.godebug = none := by kernel_rfl
theorem gErr : Tryd.prog.globalNamed "doorkeeper/passes.ErrNumber" = some 0 := by kernel_rfl
theorem gDig : Tryd.prog.globalNamed "doorkeeper/passes.digits" = some 2 := by kernel_rfl
theorem tErr : (Tryd.prog.globals[0]?).map (·.type) = some 30 := by kernel_rfl
theorem tDig : (Tryd.prog.globals[2]?).map (·.type) = some 59 := by kernel_rfl
theorem c59 : Tryd.prog.cellsOf 59 = 16 := by kernel_rfl
theorem c5 : Tryd.prog.cellsOf 5 = 1 := by kernel_rfl

theorem of_laid {W : World} (h : laidMetH Tryd.prog Rows.passedRow.laid W) : (∃ t v, W.cell? ⟨0, 0, none⟩ = some (.iface t v)) ∧ DigitsIn W := by
  rw [MakeChecks.laidMetH_plain _ _ _ (by kernel_rfl)] at h
  obtain ⟨ps, ⟨g0, t0, cs0, f0, p0, q0, hg0, ht0, hv0, hd0, ⟨g1, t1, cs1, f1, p1, q1, hg1, ht1, hv1, hd1, _, _⟩, _⟩, _, _⟩ := h
  obtain rfl := Option.some.inj (gErr.symm.trans hg0)
  obtain rfl := Option.some.inj (gDig.symm.trans hg1)
  obtain rfl := Option.some.inj (tErr.symm.trans ht0)
  obtain rfl := Option.some.inj (tDig.symm.trans ht1)
  refine ⟨?_, ?_, ?_⟩
  · obtain ⟨f', u, v, hcs, _, _⟩ := iface_of_trod Tryd.underlying30 hd0
    refine ⟨u, v, ?_⟩
    have := World.var?_cell hg0 hv0 0
    obtain ⟨l⟩ := cs0
    simp only at hcs
    subst hcs
    simpa using this
  · have hcs := Lib.cells_of_tab (zs := [48, 49, 50, 51, 52, 53, 54, 55, 56, 57, 97, 98, 99, 100, 101, 102]) Tryd.underlying59 Tryd.underlying5 c5 c59 hd1
    have := World.var?_cell hg1 hv1 0
    obtain ⟨l⟩ := cs1
    simp only at hcs
    subst hcs
    exact World.block_lt_of_cell? _ _ (show W.cell? ⟨2, 0, none⟩ = some (.int .u8 48) from this)
  · intro i hi
    have hcs := Lib.cells_of_tab (zs := [48, 49, 50, 51, 52, 53, 54, 55, 56, 57, 97, 98, 99, 100, 101, 102]) Tryd.underlying59 Tryd.underlying5 c5 c59 hd1
    have := World.var?_cell hg1 hv1 i
    obtain ⟨l⟩ := cs1
    simp only at hcs
    subst hcs
    rw [this]
    have hall : ∀ i : Fin 16, ([48, 49, 50, 51, 52, 53, 54, 55, 56, 57, 97, 98, 99, 100, 101, 102] : List Int)[i.val]? = some ((hexDig i.val).toNat : Int) := by decide
    have hi2 := hall ⟨i, hi⟩
    simp only [List.getElem?_toArray, List.getElem?_map]
    rw [show ([48, 49, 50, 51, 52, 53, 54, 55, 56, 57, 97, 98, 99, 100, 101, 102] : List Int)[i]? = some ((hexDig i).toNat : Int) from hi2]
    rfl

/-- WHAT THE WALKS GIVE, FOR EVERY ARGUMENT. -/
theorem contract (H : Type) (enc : TypeId × Value → H) (W : World) (base : Nat) (args : Array Value) (ds gs : List (DataW H)) (before : List MemPlace)
    (hval : ∀ (j : Nat) t v, Tryd.f3.params[j]? = some t → args[j]? = some v → Value.okWide Tryd.prog W .any base t v)
    (hW : DataW.Whole enc Tryd.prog Tryd.f3.params.toList Rows.passedSpec.vars false W args.toList ds gs before) (hL : laidMetH Tryd.prog Rows.passedRow.laid W)
    (hsz : (DataW.weightsEach Tryd.prog (Tryd.f3.params.toList ++ []) (ds ++ gs)).all (· ≤ reachBytes) = true) :
    Calls Tryd.prog 3 args W fun e W' => ∃ v, e = .returned v ∧ Rows.passedSpec.post enc Tryd.prog Tryd.f3 false true false false W args v W' := by
  have hW' := hW
  obtain ⟨p, q, hA0, hV, rfl, hfz, hnd⟩ := hW
  have hA : DataW.TrodAll enc Tryd.prog W 0 (fun _ => true) true Tryd.f3.params.toList args.toList ds p := hA0
  rw [Tryd.params3] at hA hval hsz
  obtain ⟨v0, v1, d0, d1, p0, p1, rfl, rfl, rfl, h0, h1⟩ := trodAll_two hA
  obtain ⟨rfl, rfl⟩ := trodVars_none hV
  obtain ⟨s, rfl, rfl, rfl, hs⟩ := open_string Tryd.underlying9 (hval 0 9 v0 rfl rfl) h0
  obtain ⟨n, rfl, rfl, rfl, wn⟩ := open_int Tryd.underlying3 (hval 1 3 v1 rfl rfl) h1
  clear hA0
  simp only [List.append_nil] at hW'
  have hlen : s.size < 9223372036854775800 := by
    simp [DataW.weightsEach, DataW.weights, reachBytes] at hsz
    have := of_decide_eq_true hsz
    omega
  obtain ⟨⟨t, v, hE⟩, hD⟩ := of_laid hL
  have walk : Calls Tryd.prog 3 #[.string s, .int .i64 n] W fun e w' => e = .returned (.bool true) ∧ Below W.heap.size W w' := by
    by_cases hn : 0 ≤ n ∧ n < 4096
    · exact passed_ok s n W hn.1 hn.2 hlen hD
    · exact passed_err s n t v W (by omega) hE
  refine walk.mono fun e W' ⟨he, hg⟩ => ?_
  subst he
  exact ⟨_, rfl, _, _, _, [], [], [], hW', trodAll_mk1 (shut_bool Tryd.underlying4 _), trodAll_mk2 (shut_string Tryd.underlying9 hs) (shut_int Tryd.underlying3 wn), rfl, hg.frame _, fun h => by cases h⟩

theorem door_met (os : Os) (args : Array Value) : laidMetH Tryd.prog Rows.passedRow.laid ((World.doorLaid Tryd.prog 400 os).forCall (fun _ _ => 0) ⟨#[], args, []⟩).memory :=
  laidMetH_of_parts3 (fuel := 8) (laidMet_of_run' 8 (by kernel_rfl) (by kernel_rfl)) (by kernel_rfl) (by kernel_rfl)
theorem reads (os : Os) {H : Type} (enc : TypeId × Value → H) : ∃ places, DataW.whole enc Tryd.prog ((World.doorLaid Tryd.prog 400 os).forCall (fun _ _ => 0) ⟨#[], #[.string ByteArray.empty, .int .i64 0], []⟩).memory Tryd.f3.params.toList Rows.passedSpec.vars false #[.string ByteArray.empty, .int .i64 0].toList 8 = some ([.lit (.string []), .lit (.int .i64 0)], [], places) :=
  ⟨[], by kernel_rfl⟩

set_option maxRecDepth 100000 in
theorem lifted (os : Os) (started : os.Started) (H : Type) (enc : TypeId × Value → H) (F : Stop.Interp) :
    ReturnsInHanded {} Tryd.checked os 3 .any ((OpenSpec.ofChange Rows.passedSpec).preRow enc Tryd.prog Tryd.f3 Rows.passedRow.domain false Rows.passedRow.laid) (((OpenSpec.ofChange Rows.passedSpec).at F).post enc Tryd.prog Tryd.f3 false true false false) := by
  obtain ⟨places, hx⟩ := reads os enc
  refine returnsInHanded_of_row (C := Tryd.checked) (s := OpenSpec.ofChange Rows.passedSpec) own started (by kernel_rfl) Tryd.func3
    (witness_row_atRef (enc := enc) (C := Tryd.checked) false (World.doorLaid Tryd.prog 400 os) #[.string ByteArray.empty, .int .i64 0] rfl (by kernel_rfl) (by kernel_rfl) (by kernel_rfl)
      (OpenSpec.preRow_of_cond 8 hx (by kernel_rfl) (fun k hk => by cases hk) (by kernel_rfl) (door_met os _))) ?_
  intro W base args ds gs before hval hW _ _ hsz hL _ _
  exact contract H enc W base args ds gs before hval hW hL hsz

theorem said : Rows.PassedSaid :=
  OpenClaim.holds_of_cond 3 Tryd.f3 rfl rfl rfl rfl rfl rfl rfl ⟨rfl, rfl, rfl, rfl, rfl⟩ rfl rfl rfl rfl rfl (by kernel_rfl) Tryd.func3 (by kernel_rfl)
    (of_decide_eq_true (by kernel_rfl)) (by unfold Func.isWrapper; first | (rw [if_pos (by decide +kernel)]; kernel_rfl) | (rw [if_neg (by decide +kernel)]; exact ⟨rfl, rfl⟩))
    (fun os started H enc _ F => by rw [OpenClaim.pre_eq_preRow]; exact lifted os started H enc F)

theorem plain (f : FuncId) (fn : Func) (hf : Tryd.pinned.checked.prog.funcNamed "doorkeeper/doorkeeperlaw.Passed" = some f) (hfn : Tryd.pinned.checked.prog.funcs[f]? = some fn) :
    false = Tryd.pinned.checked.prog.looks [] ∧ ∀ (j : Nat) t, fn.params[j]? = some t → Tryd.pinned.checked.prog.wantsStandIn t = false := by
  obtain rfl : f = 3 := Option.some.inj ((show Tryd.prog.funcNamed "doorkeeper/doorkeeperlaw.Passed" = some 3 by kernel_rfl).symm.trans hf) |>.symm
  obtain rfl : fn = Tryd.f3 := (Option.some.inj (Tryd.func3.symm.trans hfn)).symm
  refine ⟨by kernel_rfl, fun j t ht => ?_⟩
  rw [Tryd.params3] at ht
  have hm : t ∈ [9, 3] := by simpa using Array.mem_of_getElem? ht
  have hall : ([9, 3].all fun u => !Tryd.prog.wantsStandIn u) = true := by kernel_rfl
  exact (show Tryd.prog.wantsStandIn t = false by simpa using List.all_eq_true.1 hall t hm)

theorem card : Rows.PassedCardSaid :=
  Claim7.holds_tied_plain_at .later [] _ _ _ _ said (fun _ h => by cases h) (by kernel_rfl) (fun _ h => by cases h) passed_row_tie rfl ⟨rfl, rfl⟩ (by kernel_rfl) rfl plain (by kernel_rfl)
end Go.Proofs.YtmnajomkfnkmeaaDoor.passed
