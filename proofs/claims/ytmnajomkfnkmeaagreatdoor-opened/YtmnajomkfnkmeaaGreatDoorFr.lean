import Derived.Test.YtmnajomkfnkmeaaGreatDoorNum
import Derived.Test.YtmnajomkfnkmeaaGreatDoorPurA
namespace Go.Proofs.YtmnajomkfnkmeaaGreatDoor
open Go.RowKit
/-! WHAT OF OLD MEMORY HAS TURNED: nothing but the blocks of S -/
structure Fr (S : Nat → Prop) (w w' : World) : Prop where
  os : w'.os = w.os
  tape : w'.tape = w.tape
  output : w'.output = w.output
  size : w.heap.size ≤ w'.heap.size
  block : ∀ k, k < w.heap.size → ¬ S k → w'.heap[k]? = w.heap[k]?
theorem Fr.refl (S : Nat → Prop) (w : World) : Fr S w w := ⟨rfl, rfl, rfl, Nat.le_refl _, fun _ _ _ => rfl⟩
theorem Fr.trans {S S' : Nat → Prop} {a b c : World} (h : Fr S a b) (k : Fr S' b c) (hs : ∀ i, i < a.heap.size → S' i → S i) : Fr S a c :=
  ⟨k.os.trans h.os, k.tape.trans h.tape, k.output.trans h.output, Nat.le_trans h.size k.size, fun i hi hn => (k.block i (Nat.lt_of_lt_of_le hi h.size) (fun x => hn (hs i hi x))).trans (h.block i hi hn)⟩
theorem Fr.mono {S S' : Nat → Prop} {a b : World} (h : Fr S a b) (hs : ∀ i, i < a.heap.size → S i → S' i) : Fr S' a b :=
  ⟨h.os, h.tape, h.output, h.size, fun i hi hn => h.block i hi (fun x => hn (hs i hi x))⟩
theorem Fr.of_below {S : Nat → Prop} {a b : World} (h : Below a.heap.size a b) : Fr S a b := ⟨h.os, h.tape, h.output, h.size, fun i hi _ => h.block i hi⟩
theorem Fr.below {a b : World} (h : Fr (fun _ => False) a b) : Below a.heap.size a b := ⟨h.os, h.tape, h.output, h.size, fun i hi => h.block i hi (fun x => x)⟩
theorem Fr.below_of {S : Nat → Prop} {a b : World} (h : Fr S a b) (n : Nat) (hn : n ≤ a.heap.size) (hs : ∀ i, i < n → ¬ S i) : Below n a b := ⟨h.os, h.tape, h.output, h.size, fun i hi => h.block i (Nat.lt_of_lt_of_le hi hn) (hs i hi)⟩
theorem Fr.drew {S : Nat → Prop} {a w : World} (h : Fr S a w) : Fr S a w.drew := ⟨h.os, h.tape, h.output, h.size, h.block⟩
theorem Fr.drewN {S : Nat → Prop} {a w : World} (h : Fr S a w) (n : Nat) : Fr S a (w.drewN n) := ⟨h.os, h.tape, h.output, h.size, h.block⟩
theorem Fr.alloc {S : Nat → Prop} {a w : World} (h : Fr S a w) (o : Obj) : Fr S a (w.alloc o) :=
  ⟨h.os, h.tape, h.output, Nat.le_trans h.size (by simp), fun i hi hn => (Below.heap_alloc w o i (Nat.lt_of_lt_of_le hi h.size)).trans (h.block i hi hn)⟩
theorem Fr.setCell {S : Nat → Prop} {a w : World} (h : Fr S a w) (p : Addr) (hp : p.block < a.heap.size → S p.block) (u : Value) : Fr S a (w.setCell p u) :=
  ⟨h.os, h.tape, h.output, by simpa [World.setCell] using h.size, fun i hi hn => (Below.heap_setCell w p u i (fun e => hn (e ▸ hp (e ▸ hi)))).trans (h.block i hi hn)⟩
theorem Fr.grown {S : Nat → Prop} {a w w' : World} {row : Option Nat} (h : Fr S a w) (hg : w.grownBy w' row) (hr : ∀ k, row = some k → k < a.heap.size → S k) : Fr S a w' :=
  ⟨hg.os.trans h.os, hg.tape.trans h.tape, hg.output.trans h.output, Nat.le_trans h.size hg.size, fun i hi hn => (hg.block i (Nat.lt_of_lt_of_le hi h.size) (fun e => hn (hr i e.symm hi))).trans (h.block i hi hn)⟩
theorem Fr.cell {S : Nat → Prop} {w w' : World} (h : Fr S w w') {p : Addr} (hp : p.block < w.heap.size) (hn : ¬ S p.block) : w'.cell? p = w.cell? p := World.cell?_of_block (w := w) (h.block p.block hp hn)
theorem Fr.frozen {S : Nat → Prop} {w w' : World} (h : Fr S w w') {p : Addr} (hp : p.block < w.heap.size) (hn : ¬ S p.block) : w'.frozen? p = w.frozen? p := World.frozen?_of_block (w := w) (h.block p.block hp hn)

/-! a block of cells, as a whole -/
def Blk (w : World) (b : Nat) (a : Array Value) (T : TypeId) : Prop := w.heap[b]? = some (.cells a T (0, 0))
theorem Blk.lt {w : World} {b : Nat} {a : Array Value} {T : TypeId} (h : Blk w b a T) : b < w.heap.size := (Array.getElem?_eq_some_iff.1 h).1
theorem Blk.cell {w : World} {b : Nat} {a : Array Value} {T : TypeId} (h : Blk w b a T) (i : Nat) : w.cell? ⟨b, i, none⟩ = a[i]? := by unfold World.cell?; rw [h]; rfl
theorem Blk.frozen {w : World} {b : Nat} {a : Array Value} {T : TypeId} (h : Blk w b a T) (i : Nat) : w.frozen? ⟨b, i, none⟩ = false := by unfold World.frozen?; rw [h]; simp
theorem Blk.kept {S : Nat → Prop} {w w' : World} {b : Nat} {a : Array Value} {T : TypeId} (h : Blk w b a T) (hf : Fr S w w') (hn : ¬ S b) : Blk w' b a T := (hf.block b h.lt hn).trans h
theorem Blk.below {w w' : World} {b : Nat} {a : Array Value} {T : TypeId} (h : Blk w b a T) (hf : Below w.heap.size w w') : Blk w' b a T := (hf.block b h.lt).trans h
theorem Blk.drew {w : World} {b : Nat} {a : Array Value} {T : TypeId} (h : Blk w b a T) : Blk w.drew b a T := h
theorem Blk.alloc {w : World} {b : Nat} {a : Array Value} {T : TypeId} (h : Blk w b a T) (o : Obj) : Blk (w.alloc o) b a T := (Below.heap_alloc w o b h.lt).trans h
theorem Blk.new (w : World) (a : Array Value) (T : TypeId) : Blk (w.alloc (.cells a T)) w.heap.size a T := by
  unfold Blk World.alloc; simp
theorem Blk.set {w : World} {b : Nat} {a : Array Value} {T : TypeId} (h : Blk w b a T) (i : Nat) (v : Value) : Blk (w.setCell ⟨b, i, none⟩ v) b (a.setIfInBounds i v) T := by
  unfold Blk World.setCell
  simp only [Array.getElem?_modify]
  rw [show w.heap[b]? = some (.cells a T (0, 0)) from h]
  simp
theorem Blk.other {w : World} {b : Nat} {a : Array Value} {T : TypeId} (h : Blk w b a T) {p : Addr} (hp : b ≠ p.block) (v : Value) : Blk (w.setCell p v) b a T := (Below.heap_setCell w p v b hp).trans h
end Go.Proofs.YtmnajomkfnkmeaaGreatDoor
