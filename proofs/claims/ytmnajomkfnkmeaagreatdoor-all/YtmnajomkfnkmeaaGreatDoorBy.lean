import Derived.Test.YtmnajomkfnkmeaaGreatDoorNum
import Derived.Test.YtmnajomkfnkmeaaGreatDoorPurA
import Derived.Laws.IdiomCopy
import Derived.Lib.SliceRun
import Derived.Lib.LazyBuf
import Derived.Laws.IdiomStrings
namespace Go.Proofs.YtmnajomkfnkmeaaGreatDoor
open Go.RowKit
attribute [local go_sem] ofL_size
def u8V (b : UInt8) : Value := .int .u8 (b.toNat : Int)
def u8s (l : Bs) : List Value := l.map u8V
theorem u8s_length (l : Bs) : (u8s l).length = l.length := by simp [u8s]
structure By (w : World) (b : Nat) (l : Bs) : Prop where
 lt : b < w.heap.size
 cell : ∀ (i : Nat) (h : i < l.length), w.cell? ⟨b, i, none⟩ = some (u8V l[i])
 free : ∀ i, i < l.length → w.frozen? ⟨b, i, none⟩ = false
theorem By.kept {S : Nat → Prop} {w w' : World} {b : Nat} {l : Bs} (h : By w b l) (hf : Fr S w w') (hn : ¬ S b) : By w' b l :=
 ⟨Nat.lt_of_lt_of_le h.lt hf.size, fun i hi => (hf.cell (p := ⟨b, i, none⟩) h.lt hn).trans (h.cell i hi), fun i hi => (hf.frozen (p := ⟨b, i, none⟩) h.lt hn).trans (h.free i hi)⟩
theorem By.drew {w : World} {b : Nat} {l : Bs} (h : By w b l) : By w.drew b l := ⟨h.lt, h.cell, h.free⟩
theorem Fr.setCells {S : Nat → Prop} {a : World} {b : Nat} (hb : b < a.heap.size → S b) : ∀ (vs : List Value) (o : Nat) (w : World), Fr S a w → Fr S a (w.setCells b o vs)
 | [], _, _, h => h
 | v :: r, o, _, h => Fr.setCells hb r (o + 1) _ (h.setCell ⟨b, o, none⟩ hb v)
theorem setCells_size (b : Nat) : ∀ (vs : List Value) (o : Nat) (w : World), (World.setCells w b o vs).heap.size = w.heap.size
 | [], _, _ => rfl
 | v :: r, o, w => by rw [World.setCells, setCells_size b r]; simp [World.setCell]
theorem By.laid {w : World} {b p : Nat} {l r : Bs} (h : By w b l) (hp : p + r.length ≤ l.length) : By (w.setCells b p (u8s r)) b (laidB l p r) := by
 have hl := laidB_length hp;have hg := fun i => laidB_get hp i;refine ⟨by rw [setCells_size]; exact h.lt, fun i hi => ?_, fun i hi => by rw [World.frozen?_setCells]; exact h.free i (by omega)⟩;have hx : (laidB l p r)[i]? = some (laidB l p r)[i] := List.getElem?_eq_getElem hi;rw [hg i] at hx;by_cases c : p ≤ i ∧ i < p + r.length
 ·rw [if_neg (by omega), if_pos c.2, List.getElem?_eq_getElem (show i - p < r.length by omega)] at hx;have := World.cell?_setCells_in b (u8s r) p w (fun j hj => by rw [u8s_length] at hj; rw [h.cell (p + j) (by omega)]; rfl) (i - p) (by rw [u8s_length]; omega);rw [show p + (i - p) = i by omega] at this;rw [this, ← Option.some.inj hx];simp [u8s]
 ·have h2 : (if i < p then l[i]? else if i < p + r.length then r[i - p]? else l[i]?) = l[i]? := by
   by_cases c1 : i < p
   ·rw [if_pos c1]
   ·rw [if_neg c1, if_neg (by omega)]
  rw [h2, List.getElem?_eq_getElem (show i < l.length by omega)] at hx;rw [World.cell?_setCells_out b (u8s r) p w _ (fun _ _ => by rw [u8s_length]; show i < p ∨ p + r.length ≤ i; omega), h.cell i (by omega), ← Option.some.inj hx]
theorem By.copy_text {w : World} {b p n cap : Nat} {l r : Bs} (h : By w b l) (hr : r.length ≤ n) (hp : p + r.length ≤ l.length) (ty : TypeId) :
  (Builtin.copy_ #[39, 9] ty #[.slice (some ⟨b, p, none⟩) n cap, .string (ofL r)]).run Tryz.prog w = .ok (goInt r.length) (w.setCells b p (u8s r)) := by
 have e : (ofL r).data.toList.map (fun x => Value.int .u8 (x.toNat : Int)) = u8s r := by
  show r.toArray.toList.map _ = _;rw [List.toList_toArray]; rfl
 have hz : ∀ w, (Go.sizeOf 5).run Tryz.prog w = .ok 1 w := fun w => by kernel_rfl
 have := run_copy_string (P := Tryz.prog) w 39 9 ty 5 b p n cap (ofL r) Tryz.underlying39 hz (by rw [ofL_size]; exact hr)
  (fun j hj => by rw [ofL_size] at hj; rw [h.cell (p + j) (by omega)]; rfl) (fun j hj => by rw [ofL_size] at hj; exact h.free (p + j) (by omega))
 rw [e, ofL_size] at this;exact this
theorem By.copy_bytes {w : World} {b c p q n cap m cap' k : Nat} {l s : Bs} (h : By w b l) (hc : By w c s) (hk : Nat.min m n = k) (hp : p + k ≤ l.length) (hq : q + k ≤ s.length) (ty : TypeId) :
  (Builtin.copy_ #[39, 39] ty #[.slice (some ⟨b, p, none⟩) n cap, .slice (some ⟨c, q, none⟩) m cap']).run Tryz.prog w = .ok (goInt k) (w.setCells b p (u8s ((s.drop q).take k))) := by
 have hs : (Tryz.prog.info? 5).map (·.size) = some 1 := by kernel_rfl
 have hlen : (u8s ((s.drop q).take k)).length = k := by rw [u8s_length, List.length_take, List.length_drop]; omega
 have := run_copy_cells (P := Tryz.prog) w 39 39 ty 5 b p n cap ⟨c, q, none⟩ m cap' (u8s ((s.drop q).take k)) Tryz.underlying39 hs (by rw [hlen, hk])
  (fun j v hv => by
   have hj : j < k := by
    have := (List.getElem?_eq_some_iff.1 hv).1
    rw [hlen] at this; exact this
   have hadd : (⟨c, q, none⟩ : Addr).add j = ⟨c, q + j, none⟩ := by unfold Addr.add; split <;> simp_all
   rw [hadd, hc.cell (q + j) (by omega)]
   rw [← hv]
   unfold u8s
   rw [List.getElem?_map, List.getElem?_take, if_pos hj, List.getElem?_drop, List.getElem?_eq_getElem (show q + j < s.length by omega)]
   rfl)
  (fun j hj => by rw [hlen] at hj; rw [h.cell (p + j) (by omega)]; rfl) (fun j hj => by rw [hlen] at hj; exact h.free (p + j) (by omega))
  (fun v hv => by obtain ⟨x, _, rfl⟩ := List.mem_map.1 hv; rfl)
 rw [hlen] at this;exact this
theorem By.clear_bytes {w : World} {b p n cap : Nat} {l : Bs} (h : By w b l) (hn : 0 < n) (hp : p + n ≤ l.length) (ty : TypeId) :
  (Builtin.clear_ #[39] ty #[.slice (some ⟨b, p, none⟩) n cap]).run Tryz.prog w = .ok (.tuple #[]) (w.setCells b p (u8s (zeros n))) := by
 have e : u8s (zeros n) = List.replicate n (.int .u8 0) := by unfold u8s zeros; rw [List.map_replicate]; rfl
 have hv : ∀ w, (zeroValue 5).run Tryz.prog w = .ok (.int .u8 0) w := fun w => by kernel_rfl
 rw [e];exact Lib.run_clear_slice w 39 5 ty (.int .u8 0) Tryz.underlying39 hv rfl rfl b p n cap hn (fun j hj => by rw [h.cell (p + j) (by omega)]; rfl) (fun j hj => h.free (p + j) (by omega))
theorem By.made (w : World) (l : Bs) (cap : Nat) : By (w.alloc (.cells (bytesRow (ofL l) cap) 5 ((bytesRow (ofL l) cap).size, (bytesRow (ofL l) cap).size + 1))) w.heap.size l := by
 have hh : (w.alloc (.cells (bytesRow (ofL l) cap) 5 ((bytesRow (ofL l) cap).size, (bytesRow (ofL l) cap).size + 1))).heap[w.heap.size]? = some (.cells (bytesRow (ofL l) cap) 5 ((bytesRow (ofL l) cap).size, (bytesRow (ofL l) cap).size + 1)) := by
  show (w.heap.push _)[w.heap.size]? = _;simp
 have hc : ∀ (k : Nat) (hk : k < l.length), (bytesRow (ofL l) cap)[k]? = some (u8V l[k]) := by
  intro k hk;rw [bytesRow_at _ _ _ (show k < (ofL l).data.size from hk)];rfl
 refine ⟨by simp, fun i hi => ?_, fun i hi => ?_⟩
 ·unfold World.cell?;rw [hh];exact hc i hi
 ·have : i < (bytesRow (ofL l) cap).size := (Array.getElem?_eq_some_iff.1 (hc i hi)).1;unfold World.frozen?;rw [hh];simp;omega
end Go.Proofs.YtmnajomkfnkmeaaGreatDoor
