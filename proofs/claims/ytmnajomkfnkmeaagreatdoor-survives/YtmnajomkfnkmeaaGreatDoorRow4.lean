import Derived.Test.YtmnajomkfnkmeaaGreatDoorPb
import Derived.Test.YtmnajomkfnkmeaaGreatDoorGmet
import Derived.Carry
namespace Go.Proofs.YtmnajomkfnkmeaaGreatDoor
open Go.ChangeShapes Go.WideShapes Go.ChangeAt Go.RowKit
open Go.ChangeMaps (open_string shut_string)
theorem i64_met2 {n : Int} (h : (Lit.int .i64 n).wf = true) : -9223372036854775808 ≤ n ∧ n ≤ 9223372036854775807 := by
  have h : (decide (IntKind.i64.min ≤ n) && decide (n ≤ IntKind.i64.max)) = true := h
  rw [Bool.and_eq_true, decide_eq_true_iff, decide_eq_true_iff] at h
  exact ⟨h.1, h.2⟩
theorem cInt2 : Tryz.prog.cellsOf 3 = 1 := by kernel_rfl
theorem laidAll2 : laidOutB Tryz.prog = true := by kernel_rfl
set_option maxRecDepth 100000 in
/-- a slice of ints that came in -/
theorem ints_met2 {H : Type} {enc : TypeId × Value → H} {W : World} {base : Nat} {v : Value} {d : DataW H} {p : List MemPlace} (hv : Value.okWide Tryz.prog W .any base 52 v) (h1k : DataW.Trod enc Tryz.prog W 0 (fun _ => true) true 52 v d p) (hlt : ∀ x ∈ p, x.block < W.heap.size) :
    (∃ zs, IntsV W v zs ∧ zs.length ≤ maxLen) ∧ ∀ (W' : World), Below W.heap.size W W' → DataW.Trod enc Tryz.prog W' 0 (fun b => decide (b < W.heap.size)) true 52 v d p := by
  obtain ⟨a0, len, cap, rfl⟩ := okWide_slice Tryz.underlying52 hv
  refine ⟨?_, fun W' hn => Below.trod laidAll2 (by kernel_rfl) (of_decide_eq_true (by kernel_rfl)) h1k hn hlt⟩
  obtain ⟨fuel, hf⟩ := h1k
  rcases open_ints Tryz.underlying52 Tryz.underlying3 cInt2 hf with ⟨hcs, hx⟩ | ⟨a, len', cap', zs, hcs, _, hl, hm, hz, hx, hcell, hwz⟩
  · simp [Value.cells] at hcs
    obtain ⟨rfl, rfl, rfl⟩ := hcs
    exact ⟨[], Or.inl ⟨rfl, rfl⟩, Nat.zero_le _⟩
  · simp [Value.cells] at hcs
    obtain ⟨rfl, rfl, rfl⟩ := hcs
    simp only [Prod.mk.injEq] at hx
    obtain ⟨rfl, rfl⟩ := hx
    simp only [if_true] at hz
    have hll : (zs.take len).length = len := by rw [List.length_take]; omega
    have hgd : ∀ i, i < len → (zs.take len).getD i 0 = zs.getD i 0 := fun i hi => by
      rw [List.getD_eq_getElem?_getD, List.getD_eq_getElem?_getD, List.getElem?_take, if_pos hi]
    refine ⟨zs.take len, Or.inr ⟨a, cap, by rw [hll], ⟨fun h0 => ?_, fun i hi => ?_, fun i hi => ?_⟩⟩, by rw [hll]; omega⟩
    · obtain ⟨b, off, spot⟩ := a
      exact hlt (.cell b off) (MemPlace.mem_row.2 ⟨0, by omega, by simp⟩)
    · rw [hll] at hi
      rw [hgd i hi]; exact hcell i (by omega)
    · rw [hll] at hi
      rw [hgd i hi]
      have hmem : zs.getD i 0 ∈ zs := by
        rw [List.getD_eq_getElem?_getD, List.getElem?_eq_getElem (show i < zs.length by omega)]
        exact List.getElem_mem _
      exact i64_met2 (hwz _ hmem)
end Go.Proofs.YtmnajomkfnkmeaaGreatDoor
