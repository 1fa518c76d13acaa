import Derived.Test.YtmnajomkfnkmeaaGreatDoorKopA
import Derived.Test.YtmnajomkfnkmeaaGreatDoorStaD
import Derived.Shelf.SlGeneric
import Derived.Shelf.SlIterI.Nil
import Derived.Shelf.SortM.Plain
import Derived.Shelf.SortM.SortNone
import Derived.Ground.GgzProg
import Derived.Ground.SlgmProg
import Derived.Test.YtmnajomkfnkmeaaGreatDoorProg
import Derived.Shelf.SlIterI.Sorted
import Derived.OwnWalkIn
import Derived.Test.YtmnajomkfnkmeaaGreatDoorSPay
import Derived.Shelf.Strings.Builder1
import Derived.Test.YtmnajomkfnkmeaaGreatDoorGlob
import Derived.Deep.RegionWith
import Derived.BigQuiet
import Derived.Deep.RegionHeld3
import Derived.Test.YtmnajomkfnkmeaaGreatDoorFr
namespace Go.Proofs.YtmnajomkfnkmeaaGreatDoor
open Go.RowKit
/-! A SLICE THAT GROWS, its elements of k cells each -/
def flatV {α : Type} (enc : α → List Value) (l : List α) : List Value := (l.map enc).flatten
theorem flatV_snoc {α : Type} (enc : α → List Value) (l : List α) (x : α) : flatV enc (l ++ [x]) = flatV enc l ++ enc x := by simp [flatV]
theorem flatV_get {α : Type} {enc : α → List Value} {k : Nat} (hk : ∀ x, (enc x).length = k) : ∀ (l : List α) (i : Nat) (hi : i < l.length) (j : Nat), j < k → (flatV enc l)[i * k + j]? = (enc l[i])[j]?
  | a :: l, 0, _, j, hj => by
    have : flatV enc (a :: l) = enc a ++ flatV enc l := rfl
    rw [this, Nat.zero_mul, Nat.zero_add, List.getElem?_append_left (by rw [hk]; exact hj)]
    rfl
  | a :: l, i + 1, hi, j, hj => by
    have : flatV enc (a :: l) = enc a ++ flatV enc l := rfl
    rw [this, List.getElem?_append_right (by rw [hk, Nat.succ_mul]; omega), hk, show (i + 1) * k + j - k = i * k + j by rw [Nat.succ_mul]; omega]
    exact flatV_get hk l i (by simpa using hi) j hj
def Own {α : Type} (w : World) (t : TypeId) (k : Nat) (enc : α → List Value) (s : Value) (l : List α) : Prop := w.ownsRow 0 t k s l.length (flatV enc l)
theorem Own.cases {α : Type} {w : World} {t : TypeId} {k : Nat} {enc : α → List Value} {s : Value} {l : List α} (h : Own w t k enc s l) : (s = .slice none 0 0 ∧ l = []) ∨
    ∃ (q cap : Nat), s = .slice (some ⟨q, 0, none⟩) l.length cap ∧ q < w.heap.size ∧ l.length ≤ cap ∧ cap ≤ maxLen := by
  rcases h.2 with ⟨h1, h2⟩ | ⟨q, cap, cur, h1, _, h3, h4, h5, h6, h7⟩
  · exact Or.inl ⟨h1, List.eq_nil_of_length_eq_zero h2⟩
  · exact Or.inr ⟨q, cap, h1, (Array.getElem?_eq_some_iff.1 h3).1, h4, h5⟩
theorem Own.nil {α : Type} (w : World) (t : TypeId) (k : Nat) (enc : α → List Value) : Own w t k enc (.slice none 0 0) [] := World.ownsRow_nil w 0 t k
theorem Own.kept {α : Type} {S : Nat → Prop} {w w' : World} {t : TypeId} {k : Nat} {enc : α → List Value} {s : Value} {l : List α} (h : Own w t k enc s l) (hf : Fr S w w') (hs : ∀ b, s.ownBlock = some b → ¬ S b) : Own w' t k enc s l := by
  refine ⟨h.1, ?_⟩
  rcases h.2 with ⟨h1, h2⟩ | ⟨q, cap, cur, rfl, h2, h3, h4, h5, h6, h7⟩
  · exact Or.inl ⟨h1, h2⟩
  · exact Or.inr ⟨q, cap, cur, rfl, h2, (hf.block q (Array.getElem?_eq_some_iff.1 h3).1 (hs q rfl)).trans h3, h4, h5, h6, h7⟩
theorem Own.below {α : Type} {w w' : World} {t : TypeId} {k : Nat} {enc : α → List Value} {s : Value} {l : List α} (h : Own w t k enc s l) (hb : Below w.heap.size w w') : Own w' t k enc s l := h.kept (S := fun _ => False) (Fr.of_below hb) (fun _ _ h => h)
theorem Own.lt {α : Type} {w : World} {t : TypeId} {k : Nat} {enc : α → List Value} {s : Value} {l : List α} (h : Own w t k enc s l) {b : Nat} (hb : s.ownBlock = some b) : b < w.heap.size := (World.ownsRow.lt h b hb).2
theorem Own.cell {α : Type} {w : World} {t : TypeId} {k : Nat} {enc : α → List Value} (hk : ∀ x, (enc x).length = k) {q n cap : Nat} {l : List α} (h : Own w t k enc (.slice (some ⟨q, 0, none⟩) n cap) l) (i : Nat) (hi : i < l.length) (j : Nat) (hj : j < k) : w.cell? ⟨q, i * k + j, none⟩ = (enc l[i])[j]? := by
  have hn : n = l.length := by
    rcases h.cases with ⟨h, _⟩ | ⟨q', cap', e, _⟩
    · cases h
    · simp only [Value.slice.injEq] at e; exact e.2.1
  subst hn
  rw [World.ownsRow.cellAt h (i * k + j) (by
    have : (i + 1) * k ≤ l.length * k := Nat.mul_le_mul_right k hi
    rw [Nat.succ_mul] at this; omega)]
  exact flatV_get hk l i hi j hj
theorem Own.pushed {α : Type} {w' : World} {t : TypeId} {k : Nat} {enc : α → List Value} {s : Value} {n : Nat} {l : List α} {x : α} (hn : l.length = n) (ho : w'.ownsRow 0 t k s (n + 1) (flatV enc l ++ enc x)) : Own w' t k enc s (l ++ [x]) := by
  unfold Own
  rw [List.length_append, List.length_singleton, hn, flatV_snoc]
  exact ho
/-- texts -/
def strV (s : Bs) : List Value := [.string (ofL s)]
theorem strV_length (s : Bs) : (strV s).length = 1 := rfl
abbrev SO (w : World) (s : Value) (l : List Bs) : Prop := Own w 9 1 strV s l
theorem SO.cell {w : World} {q n cap : Nat} {l : List Bs} (h : SO w (.slice (some ⟨q, 0, none⟩) n cap) l) (i : Nat) (hi : i < l.length) : w.cell? ⟨q, i, none⟩ = some (.string (ofL l[i])) := by
  have := Own.cell strV_length h i hi 0 (by decide)
  rw [Nat.mul_one, Nat.add_zero] at this
  rw [this]; rfl
theorem info_str : (Tryz.prog.info? 9).map (fun i => (i.zero, i.size, i.bytes)) = some (some (.string ByteArray.empty), 1, 16) := by kernel_rfl
end Go.Proofs.YtmnajomkfnkmeaaGreatDoor
namespace Go.Proofs.YtmnajomkfnkmeaaGreatDoor
open Go.RowKit Go.Conc
attribute [local go_sem] ofL_size
/-! Keeper.Compact; keep.act -/
end Go.Proofs.YtmnajomkfnkmeaaGreatDoor
namespace Go.Proofs.YtmnajomkfnkmeaaGreatDoor
open Go.RowKit Go.Conc
attribute [local go_sem] ofL_size
/-! a keeper, and blocks besides it that stay as they are -/
/-! its calls -/
end Go.Proofs.YtmnajomkfnkmeaaGreatDoor
