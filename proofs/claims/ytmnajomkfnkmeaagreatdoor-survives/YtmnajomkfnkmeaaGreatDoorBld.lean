import Derived.Test.YtmnajomkfnkmeaaGreatDoorSrt
import Derived.Test.YtmnajomkfnkmeaaGreatDoorSPay
import Derived.Shelf.Strings.Builder1
namespace Go.Proofs.YtmnajomkfnkmeaaGreatDoor
open Go.RowKit
/-! A BUILDER THAT IS WRITTEN (its check of copies is cut at this dump: walked here) -/
abbrev BldAt (B b : Nat) (p : Value) (bs : List Value) (w : World) : Prop := Lib.BuilderAt 219 5 B b p bs w
theorem bSize : (Tryz.prog.info? 219).map (·.size) = some 2 := by kernel_rfl
theorem bLies : liesAt Tryz.prog Tryz.prog.depth 219 (2 / Tryz.prog.cellsOf 219) 0 219 1 = true := by kernel_rfl
theorem bByte : (Tryz.prog.info? 5).map (fun i => (i.zero, i.size, i.bytes)) = some (some (.int .u8 0), 1, 1) := by kernel_rfl
set_option maxRecDepth 100000 in
set_option maxHeartbeats 1000000 in
theorem check_used (b : Nat) (w : World) (h0 : w.cell? ⟨b, 0, none⟩ = some (.pointer (some ⟨b, 0, none⟩))) :
    Calls Tryz.prog 181 #[.pointer (some ⟨b, 0, none⟩)] w fun e w' => e = .returned (.tuple #[]) ∧ w' = w := by
  obtain ⟨j, hj, _⟩ := Option.map_eq_some_iff.1 bSize
  go_enter Tryz.func181, Tryz.ntmps181
  go_wp2
  rw [Lib.run_neq_ptr_same w _ Tryz.underlying217 hj]
  go_wp2
  go_end0
  exact ⟨rfl, rfl⟩
set_option maxRecDepth 100000 in
set_option maxHeartbeats 1000000 in
theorem check_fresh (b : Nat) (w : World) (h0 : w.cell? ⟨b, 0, none⟩ = some (.pointer none)) (hsh : w.shape? b = some (219, 2)) (hfz : w.frozen? ⟨b, 0, none⟩ = false) :
    Calls Tryz.prog 181 #[.pointer (some ⟨b, 0, none⟩)] w fun e w' => e = .returned (.tuple #[]) ∧ w' = w.setCell ⟨b, 0, none⟩ (.pointer (some ⟨b, 0, none⟩)) := by
  obtain ⟨j, hj, hjs⟩ := Option.map_eq_some_iff.1 bSize
  have hto := Lib.run_to_unsafe (P := Tryz.prog) w ⟨b, 0, none⟩ Tryz.underlying217 Tryz.underlying264 hj (by rw [hjs]; decide) hsh (Nat.zero_lt_succ 1)
  have hfrom := Lib.run_from_unsafe (P := Tryz.prog) w ⟨b, 0, none⟩ Tryz.underlying264 Tryz.underlying217 hj hsh bLies
  go_enter Tryz.func181, Tryz.ntmps181
  go_wp2
  rw [run_callFunc_extern Tryz.func197 (by kernel_rfl) (by kernel_rfl) (by kernel_rfl) (e := Extern.AbiNoEscape.same) (by kernel_rfl)]
  rw [Lib.run_noEscape]
  simp only [Result.andThen]
  rw [Oper.upon_value]
  go_wp2
  go_end0
  exact ⟨rfl, rfl⟩
/-- blocks of other kinds than a builder's stay -/
def Others (w w' : World) : Prop := ∀ (j : Nat) (cs : Array Value) (T : TypeId) (fr : Nat × Nat), w.heap[j]? = some (.cells cs T fr) → T ≠ 219 → T ≠ 5 → w'.heap[j]? = some (.cells cs T fr)
theorem Others.refl (w : World) : Others w w := fun _ _ _ _ h _ _ => h
theorem Others.trans {a b c : World} (h1 : Others a b) (h2 : Others b c) : Others a c := fun j cs T fr h x y => h2 j cs T fr (h1 j cs T fr h x y) x y
theorem Others.below {a b : World} (h : Below a.heap.size a b) : Others a b := fun j _ _ _ hj _ _ => (h.block j (Array.getElem?_eq_some_iff.1 hj).1).trans hj
theorem Others.set {w : World} {b i : Nat} {cs : Array Value} {fr : Nat × Nat} (hb : w.heap[b]? = some (.cells cs 219 fr)) (v : Value) : Others w (w.setCell ⟨b, i, none⟩ v) := fun j cs' T fr' hj h1 _ =>
  (((Fr.refl (· = b) w).setCell ⟨b, i, none⟩ (fun _ => rfl) v).block j (Array.getElem?_eq_some_iff.1 hj).1 (fun e => by
    rw [e, hb] at hj
    injection hj with hj
    injection hj with _ hT _
    exact h1 hT.symm)).trans hj
theorem check_any (B b : Nat) (bs : List Value) (w : World) (h : Lib.IsBuilder 219 5 B b bs w) :
    Calls Tryz.prog 181 #[.pointer (some ⟨b, 0, none⟩)] w fun e w' => e = .returned (.tuple #[]) ∧ BldAt B b (.pointer (some ⟨b, 0, none⟩)) bs w' ∧ Below B w w' ∧ Others w w' := by
  rcases h with h | h
  · refine (check_fresh b w h.cell0 h.shape h.frozen0).mono ?_
    rintro e w' ⟨rfl, rfl⟩
    refine ⟨rfl, h.used _, (Below.refl B w).setCell (p := ⟨b, 0, none⟩) h.1 _, ?_⟩
    obtain ⟨_, v, hb, _⟩ := h
    exact Others.set hb _
  · refine (check_used b w h.cell0).mono ?_
    rintro e w' ⟨rfl, rfl⟩
    exact ⟨rfl, h, Below.refl B _, Others.refl _⟩
theorem ownsRow_slice {w : World} {B : Nat} {e : TypeId} {v : Value} {n : Nat} {xs : List Value} (h : w.ownsRow B e 1 v n xs) : ∃ a m c, v = .slice a m c := by
  rcases h.2 with ⟨hv, _⟩ | ⟨g, cap, cur, hv, _⟩
  · exact ⟨_, _, _, hv⟩
  · exact ⟨_, _, _, hv⟩
set_option maxRecDepth 100000 in
set_option maxHeartbeats 2000000 in
theorem bwrite_any (B b : Nat) (bs : List Value) (s : Bs) (w : World) (h : Lib.IsBuilder 219 5 B b bs w) (hlen : bs.length + s.length ≤ 140737488355328) (hBw : B ≤ w.heap.size) :
    Calls Tryz.prog 161 #[.pointer (some ⟨b, 0, none⟩), .string (ofL s)] w fun e w' => e = .returned (.tuple #[.int .i64 s.length, .nilIface]) ∧ BldAt B b (.pointer (some ⟨b, 0, none⟩)) (bs ++ Lib.strCells (ofL s)) w' ∧ Below B w w' ∧ Others w w' := by
  obtain ⟨i0, hi, hz0, hz1, hz2⟩ := info_parts bByte
  have hsz : (ofL s).size = s.length := ofL_size s
  have e1 : wrap64 (s.length : Int) = s.length := by unfold wrap64; omega
  go_enter Tryz.func161, Tryz.ntmps161
  go_wp2_with fail
  refine (check_any B b bs _ h).mono ?_
  rintro e w1 ⟨rfl, h1, hb1, ho1⟩
  have HO1 : Hid (Others w w1) := ho1
  clear ho1
  obtain ⟨hB, v, hbk, hown, hne⟩ := h1
  have c1 : w1.cell? ⟨b, 1, none⟩ = some v := by rw [Lib.cell_of_heap hbk]; rfl
  have hsz1 := hb1.size
  go_wp2_with (at_builtin; refine Lib.wpList_append_own_string _ rfl _ _ 39 9 rfl B 5 i0 Tryz.underlying39 Tryz.underlying9 hi hz0 hz1 hz2 _ _ _ rfl hown (ofL s) rfl (by unfold maxLen; omega) (by omega) (by omega) ?_)
  intro v' w2 hown' hgrow _
  have hlt : b < w1.heap.size := (Array.getElem?_eq_some_iff.1 hbk).1
  have hb2 : w2.heap[b]? = some (.cells #[.pointer (some ⟨b, 0, none⟩), v] 219 (0, 0)) := (hgrow.block b hlt (fun e => hne e.symm)).trans hbk
  have d1 : w2.cell? ⟨b, 1, none⟩ = some v := by rw [Lib.cell_of_heap hb2]; rfl
  have f1 : w2.frozen? ⟨b, 1, none⟩ = false := Lib.frozen_of_heap hb2 1
  obtain ⟨ao, n', cap, rfl⟩ := ownsRow_slice hown'
  have HO : Hid (w2.ownsRow B 5 1 (.slice ao n' cap) (bs.length + (ofL s).size) (bs ++ Lib.strCells (ofL s)) ∧ w1.grownBy w2 v.ownBlock ∧ w1.ownsRow B 5 1 v bs.length bs ∧ B ≤ w1.heap.size) := ⟨hown', hgrow, hown, by omega⟩
  clear hown' hgrow hown
  go_wp2_with fail
  go_ret2
  obtain ⟨hown', hgrow, hown, hB1⟩ := HO.out
  refine ⟨rfl, ?_, ?_, ?_⟩
  · exact Lib.BuilderAt.put (T := 219) (e := 5) hB hb2 (bs' := bs ++ Lib.strCells (ofL s)) (by simpa [Lib.strCells_length] using hown') (by decide)
  · exact (hb1.grown hgrow hB1 (fun k hk => (hown.lt k hk).1)).setCell (p := ⟨b, 1, none⟩) hB _
  · refine HO1.out.trans (Others.trans (b := w2) (fun j cs T fr hj _ h5 => (hgrow.block j (Array.getElem?_eq_some_iff.1 hj).1 (fun e => ?_)).trans hj) (Others.set hb2 _))
    rcases hown.2 with ⟨hv, _⟩ | ⟨g, cap', cur, hv, _, hg, _⟩
    · rw [hv] at e; cases e
    · rw [hv] at e
      injection e with e
      have e : j = g := e
      rw [← e, hj] at hg
      injection hg with hg
      injection hg with _ hT _
      exact h5 hT
end Go.Proofs.YtmnajomkfnkmeaaGreatDoor
