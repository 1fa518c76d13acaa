import Derived.Test.YtmnajomkfnkmeaaGreatDoorStaD
import Derived.Test.YtmnajomkfnkmeaaGreatDoorIkeys
import Derived.Shelf.SlIterI.Sorted
import Derived.OwnWalkIn
namespace Go.Proofs.YtmnajomkfnkmeaaGreatDoor
open Go.RowKit Go.Maps Go.Sort Go.Shelf
/-! slices.Sorted(maps.Keys(m)) -/
/-- the numbers of a map, in order -/
def idsOf (f : Fn) : List Int := ((List.range 65536).filter fun i => (f i).isSome).map fun (i : Nat) => (i : Int)
theorem idsOf_mem {f : Fn} {x : Int} : x ∈ idsOf f ↔ ∃ i : Nat, i < 65536 ∧ (f i).isSome = true ∧ x = i := by
  unfold idsOf
  simp only [List.mem_map, List.mem_filter, List.mem_range]
  constructor
  · rintro ⟨i, ⟨h1, h2⟩, rfl⟩; exact ⟨i, h1, h2, rfl⟩
  · rintro ⟨i, h1, h2, rfl⟩; exact ⟨i, ⟨h1, h2⟩, rfl⟩
theorem idsOf_lt (f : Fn) : (idsOf f).Pairwise (· < ·) := by
  unfold idsOf
  rw [List.pairwise_map]
  refine (List.Pairwise.filter _ List.pairwise_lt_range).imp (fun h => ?_)
  omega
theorem idsOf_length (f : Fn) : (idsOf f).length = f.card := by
  unfold idsOf Fn.card
  rw [List.length_map, ← List.countP_eq_length_filter]
theorem idsOf_sort {f : Fn} {w : World} {mb : Nat} {D : DataW Unit} (h : MapIs w mb f D) {ss : List Int} (hs : ss.Perm (intKeys D)) : ss.mergeSort (fun x y => decide (x ≤ y)) = idsOf f := by
  have hc : CollectedI D (fun _ => false) (idsOf f) := by
    refine ⟨(idsOf_lt f).imp (fun h e => by omega), fun x => ?_⟩
    rw [idsOf_mem]
    constructor
    · rintro ⟨i, hi, hf, rfl⟩
      exact ⟨(h.has_eq i).trans hf, rfl⟩
    · rintro ⟨hx, _⟩
      obtain ⟨i, p, hk, hf⟩ := h.keys _ hx
      have e : x = i := by simpa [kl] using hk
      exact ⟨i, (h.vals i p hf).1, by rw [hf]; rfl, e⟩
  have hp := hc.perm h.own law Tryz.underlying3 (fun _ => rfl)
  have := mergeSort_of_perm_i (hs.trans hp.symm)
  have e1 : ss.mergeSort (fun x y => decide (x ≤ y)) = ss.mergeSort leI := rfl
  rw [e1, this]
  exact List.mergeSort_of_pairwise ((idsOf_lt f).imp (fun h => decide_eq_true (by omega)))
theorem sortsA (m : Nat) : AnyZI.SortsIn Tryz.prog Tryz.sortedA_ren Fence.wide m :=
  ⟨fun blk off cap ss W hH hblk hsz => callsIn_wide.2 (AnyM.slices_Sort_int Tryz.sortA blk off cap ss W hH hblk hsz),
   fun p cap W => callsIn_wide.2 (AnyM.slices_Sort_int_none Tryz.sortA p cap W)⟩
theorem keys_call (mb : Nat) (w : World) : Calls Tryz.prog 163 #[.map (some mb)] w fun e w' => e = .returned (.func (.func 184) #[] #[.pointer (some ⟨w.heap.size, 0, none⟩)]) ∧ w' = w.alloc (.cells #[.map (some mb)] 156) :=
  (callsIn_wide (n := 5)).1 (AnyZI.keys_in Tryz.keysA Fence.wide 5 trivial rfl (some mb) w)
theorem sorted_call (mb : Nat) (f : Fn) (D : DataW Unit) (w : World) (h : MapIs w mb f D) : Calls Tryz.prog 162 #[.func (.func 184) #[] #[.pointer (some ⟨w.heap.size, 0, none⟩)]] (w.alloc (.cells #[.map (some mb)] 156)) fun e w' => ∃ v, e = .returned v ∧ w'.ownsRow (w.alloc (.cells #[.map (some mb)] 156)).heap.size 3 1 v f.card ((idsOf f).map encZ) ∧ Below (w.alloc (.cells #[.map (some mb)] 156)).heap.size (w.alloc (.cells #[.map (some mb)] 156)) w' := by
  have hbl := h.own.lt
  have hcard := f.card_le
  have hseq : SeqGives Fence.wide 2 Tryz.prog 184 #[.pointer (some ⟨w.heap.size, 0, none⟩)] encZ (fun ss => ss.Perm (intKeys D)) (Maps.size D) (w.alloc (.cells #[.map (some mb)] 156)) :=
    AnyZI.keys_gives (ρ := Tryz.keysA_ren) { Tryz.keysA with } Fence.wide _ trivial rfl (by omega) w.heap.size mb f.card D _ (by simp) (by simp) (by
      obtain ⟨es, clock, hb, Ft, hs, hD⟩ := h.own
      exact ⟨es, clock, (Below.heap_alloc _ _ mb hbl).trans hb, Ft, hs, hD⟩)
  have cS := AnyZI.sorted_in Tryz.sortedA Fence.wide 5 trivial trivial trivial trivial rfl (by omega) (sortsA _) (enters_of Tryz.func183 (by kernel_rfl) rfl) 184 #[.pointer (some ⟨w.heap.size, 0, none⟩)] trivial (enters_of Tryz.func184 (by kernel_rfl) rfl) _ _ (by rw [h.size]; unfold maxLen; omega) (by rw [h.size]; omega) _ hseq
  refine ((callsIn_wide (n := 5)).1 cS).mono ?_
  rintro e w' ⟨v, ss, he, hS, hrow, _, hb⟩
  have hl : ss.length = f.card := by
    have h1 := hS.length_eq
    have h2 : (idsOf f).length = ss.length := by rw [← idsOf_sort h hS, List.length_mergeSort]
    rw [← h2, idsOf_length]
  rw [idsOf_sort h hS, hl] at hrow
  exact ⟨v, he, hrow, hb⟩
end Go.Proofs.YtmnajomkfnkmeaaGreatDoor
