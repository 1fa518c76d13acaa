import Derived.Test.YtmnajomkfnkmeaaGreatDoorPow
import Derived.Test.YtmnajomkfnkmeaaGreatDoorPasses
import Derived.Test.YtmnajomkfnkmeaaGreatDoorPurB
import Derived.Test.YtmnajomkfnkmeaaGreatDoorFr
import Derived.Laws.IdiomStrings
namespace Go.Proofs.YtmnajomkfnkmeaaGreatDoor
open Go.RowKit Go.Conc
/-! WHAT THE PACKAGES' VARIABLES HOLD; A SLICE OF NUMBERS THAT GROWS; THE DRIVE IN MEMORY -/
def errV (a : Addr) : Value := .iface 305 (.pointer (some a))
structure Gl where
  num : Addr
  size : Addr
  down : Addr
  full : Addr
  pass : Addr
  head : Addr
  unfit : Addr
  recd : Addr
structure Glob (B : Nat) (G : Gl) (w : World) : Prop where
  le : B ≤ w.heap.size
  digits : DigitsIn w
  digitsB : 4 < B
  num : w.cell? ⟨0, 0, none⟩ = some (errV G.num) ∧ 0 < B
  size : w.cell? ⟨1, 0, none⟩ = some (errV G.size) ∧ 1 < B
  down : w.cell? ⟨2, 0, none⟩ = some (errV G.down) ∧ 2 < B
  full : w.cell? ⟨3, 0, none⟩ = some (errV G.full) ∧ 3 < B
  pass : w.cell? ⟨5, 0, none⟩ = some (errV G.pass) ∧ 5 < B
  head : w.cell? ⟨7, 0, none⟩ = some (errV G.head) ∧ 7 < B
  unfit : w.cell? ⟨8, 0, none⟩ = some (errV G.unfit) ∧ 8 < B
  recd : w.cell? ⟨9, 0, none⟩ = some (errV G.recd) ∧ 9 < B
  downAt : (∃ c t, w.heap[G.down.block]? = some (.cells c t (0, 0))) ∧ G.down.block < B
  fullAt : (∃ c t, w.heap[G.full.block]? = some (.cells c t (0, 0))) ∧ G.full.block < B
  ne : G.full ≠ G.down
theorem below_cell {B : Nat} {w w' : World} (h : Below B w w') {g i : Nat} (hg : g < B) : w'.cell? ⟨g, i, none⟩ = w.cell? ⟨g, i, none⟩ := World.cell?_of_block (w := w) (h.block g hg)
theorem Glob.below {B : Nat} {G : Gl} {w w' : World} (h : Glob B G w) (hb : Below B w w') : Glob B G w' := by
  have hs : B ≤ w'.heap.size := Nat.le_trans h.le hb.size
  refine ⟨hs, ?_, h.digitsB, ⟨(below_cell hb h.num.2).trans h.num.1, h.num.2⟩, ⟨(below_cell hb h.size.2).trans h.size.1, h.size.2⟩, ⟨(below_cell hb h.down.2).trans h.down.1, h.down.2⟩, ⟨(below_cell hb h.full.2).trans h.full.1, h.full.2⟩,
    ⟨(below_cell hb h.pass.2).trans h.pass.1, h.pass.2⟩, ⟨(below_cell hb h.head.2).trans h.head.1, h.head.2⟩, ⟨(below_cell hb h.unfit.2).trans h.unfit.1, h.unfit.2⟩, ⟨(below_cell hb h.recd.2).trans h.recd.1, h.recd.2⟩, ?_, ?_, h.ne⟩
  · exact ⟨Nat.lt_of_lt_of_le h.digitsB hs, fun i hi => (below_cell hb h.digitsB).trans (h.digits.2 i hi)⟩
  · obtain ⟨⟨c, t, hc⟩, hl⟩ := h.downAt
    exact ⟨⟨c, t, (hb.block _ hl).trans hc⟩, hl⟩
  · obtain ⟨⟨c, t, hc⟩, hl⟩ := h.fullAt
    exact ⟨⟨c, t, (hb.block _ hl).trans hc⟩, hl⟩
theorem bstep {w0 w1 w2 : World} (h : Below w0.heap.size w0 w1) (hb : Below w1.heap.size w1 w2) : Below w0.heap.size w0 w2 := h.trans (hb.mono h.size)
theorem Glob.drew {B : Nat} {G : Gl} {w : World} (h : Glob B G w) : Glob B G w.drew := h.below ((Below.refl _ w).drew)
theorem Fr.belowB {S : Nat → Prop} {w w' : World} {B : Nat} (h : Fr S w w') (hB : B ≤ w.heap.size) (hs : ∀ b, S b → B ≤ b) : Below B w w' := h.below_of B hB (fun i hi hx => by have := hs i hx; omega)
theorem Glob.fr {B : Nat} {G : Gl} {S : Nat → Prop} {w w' : World} (h : Glob B G w) (hf : Fr S w w') (hs : ∀ b, S b → B ≤ b) : Glob B G w' := h.below (hf.belowB h.le hs)
/-- a slice of numbers that grows -/
def nums (l : List Nat) : List Value := l.map fun (n : Nat) => .int .i64 (n : Int)
theorem nums_length (l : List Nat) : (nums l).length = l.length := by simp [nums]
def WO (w : World) (s : Value) (l : List Nat) : Prop := w.ownsRow 0 3 1 s l.length (nums l)
theorem WO.cases {w : World} {s : Value} {l : List Nat} (h : WO w s l) : (s = .slice none 0 0 ∧ l = []) ∨
    ∃ (q cap : Nat) (cur : List Value), s = .slice (some ⟨q, 0, none⟩) l.length cap ∧ Blk w q cur.toArray 3 ∧ l.length ≤ cap ∧ cap ≤ maxLen ∧ cur.length = cap ∧ cur.take l.length = nums l := by
  rcases h.2 with ⟨h1, h2⟩ | ⟨q, cap, cur, h1, _, h3, h4, h5, h6, h7⟩
  · exact Or.inl ⟨h1, List.eq_nil_of_length_eq_zero h2⟩
  · exact Or.inr ⟨q, cap, cur.toList, h1, by simpa [Blk] using h3, h4, h5, by simpa using h6, by simpa using h7⟩
theorem WO.of {w : World} {q cap : Nat} {cur : List Value} {l : List Nat} (h1 : Blk w q cur.toArray 3) (h2 : l.length ≤ cap) (h3 : cap ≤ maxLen) (h4 : cur.length = cap) (h5 : cur.take l.length = nums l) :
    WO w (.slice (some ⟨q, 0, none⟩) l.length cap) l := ⟨by rw [nums_length, Nat.mul_one], .inr ⟨q, cap, cur.toArray, rfl, Nat.zero_le _, h1, h2, h3, by simpa using h4, by simpa using h5⟩⟩
theorem WO.nil (w : World) : WO w (.slice none 0 0) [] := World.ownsRow_nil w 0 _ 1
theorem WO.kept {S : Nat → Prop} {w w' : World} {s : Value} {l : List Nat} (h : WO w s l) (hf : Fr S w w') (hs : ∀ b, s.ownBlock = some b → ¬ S b) : WO w' s l := by
  rcases h.cases with ⟨rfl, rfl⟩ | ⟨q, cap, cur, rfl, hb, hn, hm, hc, ht⟩
  · exact WO.nil w'
  · exact WO.of (hb.kept hf (hs q rfl)) hn hm hc ht
theorem WO.lt {w : World} {s : Value} {l : List Nat} (h : WO w s l) (b : Nat) (hb : s.ownBlock = some b) : b < w.heap.size := (World.ownsRow.lt h b hb).2
theorem WO.cell {w : World} {q cap n : Nat} {l : List Nat} (h : WO w (.slice (some ⟨q, 0, none⟩) n cap) l) (i : Nat) (hi : i < l.length) : w.cell? ⟨q, i, none⟩ = some (.int .i64 (l[i] : Int)) := by
  rcases h.cases with ⟨h, _⟩ | ⟨q', cap', cur, e, hb, hn, hm, hc, ht⟩
  · cases h
  · simp only [Value.slice.injEq, Option.some.injEq, Addr.mk.injEq, and_true] at e
    obtain ⟨rfl, rfl, rfl⟩ := e
    have hg : (nums l)[i]? = some (.int .i64 (l[i] : Int)) := by unfold nums; rw [List.getElem?_map, List.getElem?_eq_getElem hi]; rfl
    rw [← ht, List.getElem?_take, if_pos hi] at hg
    rw [Blk.cell hb]
    simpa using hg
end Go.Proofs.YtmnajomkfnkmeaaGreatDoor
