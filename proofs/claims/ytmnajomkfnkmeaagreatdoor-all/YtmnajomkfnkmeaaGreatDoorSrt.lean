import Derived.Test.YtmnajomkfnkmeaaGreatDoorStaD
import Derived.Test.YtmnajomkfnkmeaaGreatDoorIkeys
import Derived.Shelf.SlIterI.Sorted
import Derived.OwnWalkIn
import Derived.Test.YtmnajomkfnkmeaaGreatDoorSPay
import Derived.Shelf.Strings.Builder1
set_option maxRecDepth 100000
set_option maxHeartbeats 2000000
namespace Go.Proofs.YtmnajomkfnkmeaaGreatDoor
open Go.RowKit Go.Maps Go.Sort Go.Shelf
def idsOf (f : Fn) : List Int := ((List.range 65536).filter fun i => (f i).isSome).map fun (i : Nat) => (i : Int)
theorem idsOf_mem {f : Fn} {x : Int} : x ∈ idsOf f ↔ ∃ i : Nat, i < 65536 ∧ (f i).isSome = true ∧ x = i := by
 unfold idsOf;simp only [List.mem_map, List.mem_filter, List.mem_range];constructor
 ·rintro ⟨i, ⟨h1, h2⟩, rfl⟩; exact ⟨i, h1, h2, rfl⟩
 ·rintro ⟨i, h1, h2, rfl⟩; exact ⟨i, ⟨h1, h2⟩, rfl⟩
theorem idsOf_lt (f : Fn) : (idsOf f).Pairwise (· < ·) := by
 unfold idsOf;rw [List.pairwise_map];refine (List.Pairwise.filter _ List.pairwise_lt_range).imp (fun h => ?_);omega
theorem idsOf_length (f : Fn) : (idsOf f).length = f.card := by
 unfold idsOf Fn.card;rw [List.length_map, ← List.countP_eq_length_filter]
theorem idsOf_sort {f : Fn} {w : World} {mb : Nat} {D : DataW Unit} (h : MapIs w mb f D) {ss : List Int} (hs : ss.Perm (intKeys D)) : ss.mergeSort (fun x y => decide (x ≤ y)) = idsOf f := by
 have hc : CollectedI D (fun _ => false) (idsOf f) := by
  refine ⟨(idsOf_lt f).imp (fun h e => by omega), fun x => ?_⟩;rw [idsOf_mem];constructor
  ·rintro ⟨i, hi, hf, rfl⟩;exact ⟨(h.has_eq i).trans hf, rfl⟩
  ·rintro ⟨hx, _⟩;obtain ⟨i, p, hk, hf⟩ := h.keys _ hx;have e : x = i := by simpa [kl] using hk
   exact ⟨i, (h.vals i p hf).1, by rw [hf]; rfl, e⟩
 have hp := hc.perm h.own law Tryz.underlying3 (fun _ => rfl);have := mergeSort_of_perm_i (hs.trans hp.symm);have e1 : ss.mergeSort (fun x y => decide (x ≤ y)) = ss.mergeSort leI := rfl;rw [e1, this];exact List.mergeSort_of_pairwise ((idsOf_lt f).imp (fun h => decide_eq_true (by omega)))
theorem sortsA (m : Nat) : AnyZI.SortsIn Tryz.prog Tryz.sortedA_ren Fence.wide m :=
 ⟨fun blk off cap ss W hH hblk hsz => callsIn_wide.2 (AnyM.slices_Sort_int Tryz.sortA blk off cap ss W hH hblk hsz),
  fun p cap W => callsIn_wide.2 (AnyM.slices_Sort_int_none Tryz.sortA p cap W)⟩
theorem keys_call (mb : Nat) (w : World) : Calls Tryz.prog 163 #[.map (some mb)] w fun e w' => e = .returned (.func (.func 184) #[] #[.pointer (some ⟨w.heap.size, 0, none⟩)]) ∧ w' = w.alloc (.cells #[.map (some mb)] 156) :=
 (callsIn_wide (n := 5)).1 (AnyZI.keys_in Tryz.keysA Fence.wide 5 trivial rfl (some mb) w)
theorem sorted_call (mb : Nat) (f : Fn) (D : DataW Unit) (w : World) (h : MapIs w mb f D) : Calls Tryz.prog 162 #[.func (.func 184) #[] #[.pointer (some ⟨w.heap.size, 0, none⟩)]] (w.alloc (.cells #[.map (some mb)] 156)) fun e w' => ∃ v, e = .returned v ∧ w'.ownsRow (w.alloc (.cells #[.map (some mb)] 156)).heap.size 3 1 v f.card ((idsOf f).map encZ) ∧ Below (w.alloc (.cells #[.map (some mb)] 156)).heap.size (w.alloc (.cells #[.map (some mb)] 156)) w' := by
 have hbl := h.own.lt;have hcard := f.card_le;have hseq : SeqGives Fence.wide 2 Tryz.prog 184 #[.pointer (some ⟨w.heap.size, 0, none⟩)] encZ (fun ss => ss.Perm (intKeys D)) (Maps.size D) (w.alloc (.cells #[.map (some mb)] 156)) :=
  AnyZI.keys_gives (ρ := Tryz.keysA_ren) { Tryz.keysA with } Fence.wide _ trivial rfl (by omega) w.heap.size mb f.card D _ (by simp) (by simp) (by
   obtain ⟨es, clock, hb, Ft, hs, hD⟩ := h.own
   exact ⟨es, clock, (Below.heap_alloc _ _ mb hbl).trans hb, Ft, hs, hD⟩)
 have cS := AnyZI.sorted_in Tryz.sortedA Fence.wide 5 trivial trivial trivial trivial rfl (by omega) (sortsA _) (enters_of Tryz.func183 (by kernel_rfl) rfl) 184 #[.pointer (some ⟨w.heap.size, 0, none⟩)] trivial (enters_of Tryz.func184 (by kernel_rfl) rfl) _ _ (by rw [h.size]; unfold maxLen; omega) (by rw [h.size]; omega) _ hseq;refine ((callsIn_wide (n := 5)).1 cS).mono ?_;rintro e w' ⟨v, ss, he, hS, hrow, _, hb⟩;have hl : ss.length = f.card := by
  have h1 := hS.length_eq;have h2 : (idsOf f).length = ss.length := by rw [← idsOf_sort h hS, List.length_mergeSort]
  rw [← h2, idsOf_length]
 rw [idsOf_sort h hS, hl] at hrow;exact ⟨v, he, hrow, hb⟩
end Go.Proofs.YtmnajomkfnkmeaaGreatDoor
namespace Go.Proofs.YtmnajomkfnkmeaaGreatDoor
open Go.RowKit
abbrev BldAt (B b : Nat) (p : Value) (bs : List Value) (w : World) : Prop := Lib.BuilderAt 219 5 B b p bs w
theorem bSize : (Tryz.prog.info? 219).map (·.size) = some 2 := by kernel_rfl
theorem bLies : liesAt Tryz.prog Tryz.prog.depth 219 (2 / Tryz.prog.cellsOf 219) 0 219 1 = true := by kernel_rfl
theorem bByte : (Tryz.prog.info? 5).map (fun i => (i.zero, i.size, i.bytes)) = some (some (.int .u8 0), 1, 1) := by kernel_rfl
theorem check_used (b : Nat) (w : World) (h0 : w.cell? ⟨b, 0, none⟩ = some (.pointer (some ⟨b, 0, none⟩))) :
  Calls Tryz.prog 181 #[.pointer (some ⟨b, 0, none⟩)] w fun e w' => e = .returned (.tuple #[]) ∧ w' = w := by
 obtain ⟨j, hj, _⟩ := Option.map_eq_some_iff.1 bSize;go_enter Tryz.func181, Tryz.ntmps181;go_wp2;rw [Lib.run_neq_ptr_same w _ Tryz.underlying217 hj];go_wp2;go_end0;exact ⟨rfl, rfl⟩
theorem check_fresh (b : Nat) (w : World) (h0 : w.cell? ⟨b, 0, none⟩ = some (.pointer none)) (hsh : w.shape? b = some (219, 2)) (hfz : w.frozen? ⟨b, 0, none⟩ = false) :
  Calls Tryz.prog 181 #[.pointer (some ⟨b, 0, none⟩)] w fun e w' => e = .returned (.tuple #[]) ∧ w' = w.setCell ⟨b, 0, none⟩ (.pointer (some ⟨b, 0, none⟩)) := by
 obtain ⟨j, hj, hjs⟩ := Option.map_eq_some_iff.1 bSize;have hto := Lib.run_to_unsafe (P := Tryz.prog) w ⟨b, 0, none⟩ Tryz.underlying217 Tryz.underlying264 hj (by rw [hjs]; decide) hsh (Nat.zero_lt_succ 1);have hfrom := Lib.run_from_unsafe (P := Tryz.prog) w ⟨b, 0, none⟩ Tryz.underlying264 Tryz.underlying217 hj hsh bLies;go_enter Tryz.func181, Tryz.ntmps181;go_wp2;rw [run_callFunc_extern Tryz.func197 (by kernel_rfl) (by kernel_rfl) (by kernel_rfl) (e := Extern.AbiNoEscape.same) (by kernel_rfl)];rw [Lib.run_noEscape];simp only [Result.andThen];rw [Oper.upon_value];go_wp2;go_end0;exact ⟨rfl, rfl⟩
def Others (w w' : World) : Prop := ∀ (j : Nat) (cs : Array Value) (T : TypeId) (fr : Nat × Nat), w.heap[j]? = some (.cells cs T fr) → T ≠ 219 → T ≠ 5 → w'.heap[j]? = some (.cells cs T fr)
theorem Others.refl (w : World) : Others w w := fun _ _ _ _ h _ _ => h
theorem Others.trans {a b c : World} (h1 : Others a b) (h2 : Others b c) : Others a c := fun j cs T fr h x y => h2 j cs T fr (h1 j cs T fr h x y) x y
theorem Others.set {w : World} {b i : Nat} {cs : Array Value} {fr : Nat × Nat} (hb : w.heap[b]? = some (.cells cs 219 fr)) (v : Value) : Others w (w.setCell ⟨b, i, none⟩ v) := fun j cs' T fr' hj h1 _ =>
 (((Fr.refl (· = b) w).setCell ⟨b, i, none⟩ (fun _ => rfl) v).block j (Array.getElem?_eq_some_iff.1 hj).1 (fun e => by
  rw [e, hb] at hj
  injection hj with hj
  injection hj with _ hT _
  exact h1 hT.symm)).trans hj
theorem check_any (B b : Nat) (bs : List Value) (w : World) (h : Lib.IsBuilder 219 5 B b bs w) :
  Calls Tryz.prog 181 #[.pointer (some ⟨b, 0, none⟩)] w fun e w' => e = .returned (.tuple #[]) ∧ BldAt B b (.pointer (some ⟨b, 0, none⟩)) bs w' ∧ Below B w w' ∧ Others w w' := by
 rcases h with h | h
 ·refine (check_fresh b w h.cell0 h.shape h.frozen0).mono ?_;rintro e w' ⟨rfl, rfl⟩;refine ⟨rfl, h.used _, (Below.refl B w).setCell (p := ⟨b, 0, none⟩) h.1 _, ?_⟩;obtain ⟨_, v, hb, _⟩ := h;exact Others.set hb _
 ·refine (check_used b w h.cell0).mono ?_;rintro e w' ⟨rfl, rfl⟩;exact ⟨rfl, h, Below.refl B _, Others.refl _⟩
theorem ownsRow_slice {w : World} {B : Nat} {e : TypeId} {v : Value} {n : Nat} {xs : List Value} (h : w.ownsRow B e 1 v n xs) : ∃ a m c, v = .slice a m c := by
 rcases h.2 with ⟨hv, _⟩ | ⟨g, cap, cur, hv, _⟩
 ·exact ⟨_, _, _, hv⟩
 ·exact ⟨_, _, _, hv⟩
theorem bwrite_any (B b : Nat) (bs : List Value) (s : Bs) (w : World) (h : Lib.IsBuilder 219 5 B b bs w) (hlen : bs.length + s.length ≤ 140737488355328) (hBw : B ≤ w.heap.size) :
  Calls Tryz.prog 161 #[.pointer (some ⟨b, 0, none⟩), .string (ofL s)] w fun e w' => e = .returned (.tuple #[.int .i64 s.length, .nilIface]) ∧ BldAt B b (.pointer (some ⟨b, 0, none⟩)) (bs ++ Lib.strCells (ofL s)) w' ∧ Below B w w' ∧ Others w w' := by
 obtain ⟨i0, hi, hz0, hz1, hz2⟩ := info_parts bByte;have hsz : (ofL s).size = s.length := ofL_size s;have e1 : wrap64 (s.length : Int) = s.length := by unfold wrap64; omega
 go_enter Tryz.func161, Tryz.ntmps161;go_wp2_with fail;refine (check_any B b bs _ h).mono ?_;rintro e w1 ⟨rfl, h1, hb1, ho1⟩;have HO1 : Hid (Others w w1) := ho1;clear ho1;obtain ⟨hB, v, hbk, hown, hne⟩ := h1;have c1 : w1.cell? ⟨b, 1, none⟩ = some v := by rw [Lib.cell_of_heap hbk]; rfl
 have hsz1 := hb1.size;go_wp2_with (at_builtin; refine Lib.wpList_append_own_string _ rfl _ _ 39 9 rfl B 5 i0 Tryz.underlying39 Tryz.underlying9 hi hz0 hz1 hz2 _ _ _ rfl hown (ofL s) rfl (by unfold maxLen; omega) (by omega) (by omega) ?_);intro v' w2 hown' hgrow _;have hlt : b < w1.heap.size := (Array.getElem?_eq_some_iff.1 hbk).1;have hb2 : w2.heap[b]? = some (.cells #[.pointer (some ⟨b, 0, none⟩), v] 219 (0, 0)) := (hgrow.block b hlt (fun e => hne e.symm)).trans hbk;have d1 : w2.cell? ⟨b, 1, none⟩ = some v := by rw [Lib.cell_of_heap hb2]; rfl
 have f1 : w2.frozen? ⟨b, 1, none⟩ = false := Lib.frozen_of_heap hb2 1;obtain ⟨ao, n', cap, rfl⟩ := ownsRow_slice hown';have HO : Hid (w2.ownsRow B 5 1 (.slice ao n' cap) (bs.length + (ofL s).size) (bs ++ Lib.strCells (ofL s)) ∧ w1.grownBy w2 v.ownBlock ∧ w1.ownsRow B 5 1 v bs.length bs ∧ B ≤ w1.heap.size) := ⟨hown', hgrow, hown, by omega⟩;clear hown' hgrow hown;go_wp2_with fail;go_ret2;obtain ⟨hown', hgrow, hown, hB1⟩ := HO.out;refine ⟨rfl, ?_, ?_, ?_⟩
 ·exact Lib.BuilderAt.put (T := 219) (e := 5) hB hb2 (bs' := bs ++ Lib.strCells (ofL s)) (by simpa [Lib.strCells_length] using hown') (by decide)
 ·exact (hb1.grown hgrow hB1 (fun k hk => (hown.lt k hk).1)).setCell (p := ⟨b, 1, none⟩) hB _
 ·refine HO1.out.trans (Others.trans (b := w2) (fun j cs T fr hj _ h5 => (hgrow.block j (Array.getElem?_eq_some_iff.1 hj).1 (fun e => ?_)).trans hj) (Others.set hb2 _));rcases hown.2 with ⟨hv, _⟩ | ⟨g, cap', cur, hv, _, hg, _⟩
  ·rw [hv] at e; cases e
  ·rw [hv] at e;injection e with e
   have e : j = g := e;rw [← e, hj] at hg;injection hg with hg
   injection hg with _ hT _
   exact h5 hT
end Go.Proofs.YtmnajomkfnkmeaaGreatDoor
