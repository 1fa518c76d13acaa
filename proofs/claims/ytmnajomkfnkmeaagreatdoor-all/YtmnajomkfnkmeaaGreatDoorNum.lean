import Derived.Test.YtmnajomkfnkmeaaGreatDoorOct
import Derived.Deep.OwnRows
import Derived.Test.YtmnajomkfnkmeaaGreatDoorPurA
import Derived.Test.YtmnajomkfnkmeaaGreatDoorPurB
import Derived.Laws.IdiomStrings
set_option maxRecDepth 20000
set_option maxHeartbeats 1000000
namespace Go.Proofs.YtmnajomkfnkmeaaGreatDoor
open Go.RowKit
theorem nB_snoc (w : Nat) (n : Int) : nB (w + 1) n = nB w n ++ [UInt8.ofNat (n / 256 ^ w % 256).toNat] := by
 induction w generalizing n with
 | zero => simp [nB]
 | succ w ih =>
  rw [nB, ih (n / 256), nB, List.cons_append];have e : n / 256 / 256 ^ w = n / 256 ^ (w + 1) := by
   rw [Int.pow_succ', Int.ediv_ediv_of_nonneg (by decide)]
  rw [e]
theorem nA_snoc (w : Nat) (n : Int) : nA w n ++ strOfNums [n / 256 ^ w % 256] = nA (w + 1) n := by
 unfold nA;rw [nB_snoc];apply ByteArray.ext;simp [strOfNums]
theorem conv_nums (W : World) (g : Nat) (cap : Nat) (xs : List Int) (hc : ∀ j, j < xs.length → W.cell? ⟨g, j, none⟩ = some (.int .u8 (xs.getD j 0))) (n : Nat) (hn : xs.length = n) :
  (convert 39 9 (.slice (some ⟨g, 0, none⟩) n cap)).run Tryz.prog W = .ok (.string (strOfNums xs)) W :=
 run_convert_bytes_arg W 39 5 Tryz.underlying39 Tryz.underlying5 g 0 n cap xs hn (fun i hi => by
  rw [Nat.zero_add]; exact hc i (by omega)) 9 Tryz.underlying9
theorem cv1 (w : World) (x : Int) : (convert 39 9 (.slice (some ⟨w.heap.size, 0, none⟩) 1 1)).run Tryz.prog (w.alloc (.cells #[.int .u8 x] 5)) = .ok (.string (strOfNums [x])) (w.alloc (.cells #[.int .u8 x] 5)) :=
 conv_nums _ _ 1 [x] (fun j hj => by
  have hj2 : j < 1 := hj
  match j, hj2 with
  | 0, _ => simp [go_sem]) 1 rfl
theorem cv2 (w : World) (x y : Int) : (convert 39 9 (.slice (some ⟨w.heap.size, 0, none⟩) 2 2)).run Tryz.prog (w.alloc (.cells #[.int .u8 x, .int .u8 y] 5)) = .ok (.string (strOfNums [x, y])) (w.alloc (.cells #[.int .u8 x, .int .u8 y] 5)) :=
 conv_nums _ _ 2 [x, y] (fun j hj => by
  have hj2 : j < 2 := hj
  match j, hj2 with
  | 0, _ => simp [go_sem]
  | 1, _ => simp [go_sem]) 2 rfl
theorem cv4 (w : World) (x y z v : Int) : (convert 39 9 (.slice (some ⟨w.heap.size, 0, none⟩) 4 4)).run Tryz.prog (w.alloc (.cells #[.int .u8 x, .int .u8 y, .int .u8 z, .int .u8 v] 5)) = .ok (.string (strOfNums [x, y, z, v])) (w.alloc (.cells #[.int .u8 x, .int .u8 y, .int .u8 z, .int .u8 v] 5)) :=
 conv_nums _ _ 4 [x, y, z, v] (fun j hj => by
  have hj2 : j < 4 := hj
  match j, hj2 with
  | 0, _ => simp [go_sem]
  | 1, _ => simp [go_sem]
  | 2, _ => simp [go_sem]
  | 3, _ => simp [go_sem]) 4 rfl
theorem i64_and255 (n : Int) : bits .and .i64 n 255 = n % 256 := by
 have h15 : (BitVec.ofInt 64 255).toNat = 2 ^ 8 - 1 := by decide
 have key : (BitVec.ofInt 64 n &&& BitVec.ofInt 64 255).toNat = (n % ((2 ^ 64 : Nat) : Int)).toNat % 2 ^ 8 := by
  rw [BitVec.toNat_and, BitVec.toNat_ofInt, h15, Nat.and_two_pow_sub_one_eq_mod]
 show IntKind.i64.wrap ((BitVec.ofInt 64 n &&& BitVec.ofInt 64 255).toNat : Nat) = n % 256;rw [key, IntKind.wrap_i64];omega
theorem size_strOfNums (xs : List Int) : (strOfNums xs).size = xs.length := strOfNums_size xs
attribute [local go_sem] cv1 cv2 cv4 i64_and255 nA_size size_strOfNums
theorem N_any (k : Nat) (n : Int) (w : World) (hk : k ≤ 1000) (h0 : 0 ≤ n) (h1 : n ≤ 9223372036854775807) :
  Calls Tryz.prog 87 #[.int .i64 k, .int .i64 n] w fun e w' => e = .returned (.string (nA k n)) ∧ Below w.heap.size w w' := by
 go_enter Tryz.func87, Tryz.ntmps87;go_wp2
 go_loopw [1, 5, 6] (fun m s i wx => ∃ j : Nat, j ≤ k ∧ i = .int .i64 j ∧ m = .int .i64 (n / 256 ^ j) ∧ s = .string (nA j n) ∧ Below w.heap.size w wx) (fun _ _ i _ => k - (intOf i).toNat)
 case atStart => exact ⟨0, Nat.zero_le _, rfl, by simp, rfl, Below.refl _ _⟩
 case round =>
  obtain ⟨j, hj, rfl, rfl, rfl, hb⟩ := hrel;have hm0 : 0 ≤ n / 256 ^ j := Int.ediv_nonneg h0 (Int.pow_nonneg (by decide));have hm1 : n / 256 ^ j ≤ 9223372036854775807 := Int.le_trans (Int.ediv_le_self _ h0) h1;have HN : Hid (nA j n ++ strOfNums [n / 256 ^ j % 256] = nA (j + 1) n) := nA_snoc j n;have HM : Hid (n / 256 ^ j / 256 = n / 256 ^ (j + 1)) := by
   show n / 256 ^ j / 256 = n / 256 ^ (j + 1);rw [Int.pow_succ, Int.ediv_ediv_of_nonneg (Int.pow_nonneg (by decide))]
  by_cases hlt : j < k
  ·generalize n / 256 ^ j = m at *
   go_wp2;go_roundw
   case rel => exact ⟨j + 1, by omega, by go_num, by rw [HM.out], by rw [HN.out], hb.alloc hb.size _⟩
   case measure => simp [intOf]; omega
  ·go_wp2;go_ret;exact ⟨by rw [show k = j by omega]; rfl, hb⟩
theorem N1 (n : Int) (w : World) (h0 : 0 ≤ n) (h1 : n ≤ 9223372036854775807) :
  Calls Tryz.prog 87 #[.int .i64 1, .int .i64 n] w fun e w' => e = .returned (.string (nA 1 n)) ∧ Below w.heap.size w w' := N_any 1 n w (by decide) h0 h1
theorem N2 (n : Int) (w : World) (h0 : 0 ≤ n) (h1 : n ≤ 9223372036854775807) :
  Calls Tryz.prog 87 #[.int .i64 2, .int .i64 n] w fun e w' => e = .returned (.string (nA 2 n)) ∧ Below w.heap.size w w' := N_any 2 n w (by decide) h0 h1
theorem N4 (n : Int) (w : World) (h0 : 0 ≤ n) (h1 : n ≤ 9223372036854775807) :
  Calls Tryz.prog 87 #[.int .i64 4, .int .i64 n] w fun e w' => e = .returned (.string (nA 4 n)) ∧ Below w.heap.size w w' := N_any 4 n w (by decide) h0 h1
theorem one_of (n : Int) (h0 : 0 ≤ n) (h1 : n < 256) : strOfNums [n] = nA 1 n := by
 simp [strOfNums, nA, nB, show n % 256 = n by omega]
theorem two_of (n : Int) : strOfNums [n % 256, n / 256 % 256] = nA 2 n := rfl
theorem four_of (n : Int) : strOfNums [n % 256, n / 256 % 256, n / 65536 % 256, n / 16777216 % 256] = nA 4 n := by
 simp only [nA, nB, strOfNums, List.map_cons, List.map_nil];rw [show n / 256 / 256 = n / 65536 by omega, show n / 65536 / 256 = n / 16777216 by omega]
theorem One_any (n : Int) (w : World) (h0 : 0 ≤ n) (h1 : n < 256) :
  Calls Tryz.prog 147 #[.int .u8 n] w fun e w' => e = .returned (.string (nA 1 n)) ∧ Below w.heap.size w w' := by
 have H : Hid (strOfNums [n] = nA 1 n) := one_of n h0 h1;go_enter Tryz.func147, Tryz.ntmps147;go_wp2;go_ret;exact ⟨congrArg (fun b => Ending.returned (Value.string b)) H.out, bA⟩
theorem Two_any (n : Int) (w : World) (h0 : 0 ≤ n) (h1 : n < 65536) :
  Calls Tryz.prog 149 #[.int .u16 n] w fun e w' => e = .returned (.string (nA 2 n)) ∧ Below w.heap.size w w' := by
 have H : Hid (strOfNums [n % 256, n / 256] = nA 2 n) := by
  have := two_of n
  rwa [show n / 256 % 256 = n / 256 by omega] at this
 go_enter Tryz.func149, Tryz.ntmps149;go_wp2;go_ret;exact ⟨congrArg (fun b => Ending.returned (Value.string b)) H.out, bA⟩
theorem Four_any (n : Int) (w : World) (h0 : 0 ≤ n) (h1 : n < 4294967296) :
  Calls Tryz.prog 146 #[.int .u32 n] w fun e w' => e = .returned (.string (nA 4 n)) ∧ Below w.heap.size w w' := by
 have H : Hid (strOfNums [n % 256, n / 256 % 256, n / 65536 % 256, n / 16777216] = nA 4 n) := by
  have := four_of n
  rwa [show n / 16777216 % 256 = n / 16777216 by omega] at this
 go_enter Tryz.func146, Tryz.ntmps146;go_wp2;go_ret;exact ⟨congrArg (fun b => Ending.returned (Value.string b)) H.out, bA⟩
def zA (n : Nat) : ByteArray := ⟨Array.replicate n 0⟩
theorem zA_size (n : Nat) : (zA n).size = n := by simp [zA, ByteArray.size]
theorem info_byte : (Tryz.prog.info? 5).map (fun i => (i.zero, i.size, i.bytes)) = some (some (.int .u8 0), 1, 1) := by kernel_rfl
theorem cvz (w : World) (n : Nat) : (convert 39 9 (.slice (some ⟨w.heap.size, 0, none⟩) n n)).run Tryz.prog (w.alloc (.cells (madeCells #[.int .u8 0] n) 5)) = .ok (.string (zA n)) (w.alloc (.cells (madeCells #[.int .u8 0] n) 5)) := by
 rw [conv_nums (w.alloc (.cells (madeCells #[.int .u8 0] n) 5)) w.heap.size n (List.replicate n 0) (fun j hj => by
  have hj2 : j < n := by simpa using hj
  simp [go_sem, madeCells, hj2, Nat.mod_one]) n (by simp)]
 simp [strOfNums, zA]
theorem noughts_any (n : Nat) (w : World) (h1 : n ≤ 281474976710656) :
  Calls Tryz.prog 83 #[.int .i64 n] w fun e w' => e = .returned (.string (zA n)) ∧ Below w.heap.size w w' := by
 have hmk := run_make_row' (P := Tryz.prog) 39 5 (.int .u8 0) 1 Tryz.underlying39 info_byte rfl .i64 .i64 n (by omega) (by omega);have hcv := fun w => cvz w n;go_enter Tryz.func83, Tryz.ntmps83;go_wp2;go_ret;exact ⟨rfl, bA⟩
def sumA (s : ByteArray) : Nat := sumL 1 s.data.toList
theorem sumA_lt (s : ByteArray) : sumA s < 65521 := sumL_lt _ _ (by decide)
def summedA (s : ByteArray) : ByteArray := s ++ nA 2 (sumA s)
theorem summedA_size (s : ByteArray) : (summedA s).size = s.size + 2 := by simp [summedA, ByteArray.size_append, nA_size]
def headA (g r : Int) : ByteArray := summedA ({ data := #[68, 75] } ++ nA 4 g ++ nA 1 r)
theorem headA_size (g r : Int) : (headA g r).size = 9 := by rw [headA, summedA_size]; simp [ByteArray.size_append, nA_size]; rfl
def sectorA (g r : Int) : ByteArray := headA g r ++ zA 23
theorem sectorA_size (g r : Int) : (sectorA g r).size = 32 := by simp [sectorA, ByteArray.size_append, headA_size, zA_size]
def recA (g k : Int) (p : ByteArray) : ByteArray := summedA (nA 2 p.size ++ nA 4 g ++ nA 2 k ++ p)
theorem recA_size (g k : Int) (p : ByteArray) : (recA g k p).size = p.size + 10 := by rw [recA, summedA_size]; simp [ByteArray.size_append, nA_size]; omega
end Go.Proofs.YtmnajomkfnkmeaaGreatDoor
namespace Go.Proofs.YtmnajomkfnkmeaaGreatDoor
open Go.RowKit
structure Fr (S : Nat → Prop) (w w' : World) : Prop where
 os : w'.os = w.os
 tape : w'.tape = w.tape
 output : w'.output = w.output
 size : w.heap.size ≤ w'.heap.size
 block : ∀ k, k < w.heap.size → ¬ S k → w'.heap[k]? = w.heap[k]?
theorem Fr.refl (S : Nat → Prop) (w : World) : Fr S w w := ⟨rfl, rfl, rfl, Nat.le_refl _, fun _ _ _ => rfl⟩
theorem Fr.trans {S S' : Nat → Prop} {a b c : World} (h : Fr S a b) (k : Fr S' b c) (hs : ∀ i, i < a.heap.size → S' i → S i) : Fr S a c :=
 ⟨k.os.trans h.os, k.tape.trans h.tape, k.output.trans h.output, Nat.le_trans h.size k.size, fun i hi hn => (k.block i (Nat.lt_of_lt_of_le hi h.size) (fun x => hn (hs i hi x))).trans (h.block i hi hn)⟩
theorem Fr.mono {S S' : Nat → Prop} {a b : World} (h : Fr S a b) (hs : ∀ i, i < a.heap.size → S i → S' i) : Fr S' a b :=
 ⟨h.os, h.tape, h.output, h.size, fun i hi hn => h.block i hi (fun x => hn (hs i hi x))⟩
theorem Fr.of_below {S : Nat → Prop} {a b : World} (h : Below a.heap.size a b) : Fr S a b := ⟨h.os, h.tape, h.output, h.size, fun i hi _ => h.block i hi⟩
theorem Fr.below {a b : World} (h : Fr (fun _ => False) a b) : Below a.heap.size a b := ⟨h.os, h.tape, h.output, h.size, fun i hi => h.block i hi (fun x => x)⟩
theorem Fr.below_of {S : Nat → Prop} {a b : World} (h : Fr S a b) (n : Nat) (hn : n ≤ a.heap.size) (hs : ∀ i, i < n → ¬ S i) : Below n a b := ⟨h.os, h.tape, h.output, h.size, fun i hi => h.block i (Nat.lt_of_lt_of_le hi hn) (hs i hi)⟩
theorem Fr.drew {S : Nat → Prop} {a w : World} (h : Fr S a w) : Fr S a w.drew := ⟨h.os, h.tape, h.output, h.size, h.block⟩
theorem Fr.drewN {S : Nat → Prop} {a w : World} (h : Fr S a w) (n : Nat) : Fr S a (w.drewN n) := ⟨h.os, h.tape, h.output, h.size, h.block⟩
theorem Fr.alloc {S : Nat → Prop} {a w : World} (h : Fr S a w) (o : Obj) : Fr S a (w.alloc o) :=
 ⟨h.os, h.tape, h.output, Nat.le_trans h.size (by simp), fun i hi hn => (Below.heap_alloc w o i (Nat.lt_of_lt_of_le hi h.size)).trans (h.block i hi hn)⟩
theorem Fr.setCell {S : Nat → Prop} {a w : World} (h : Fr S a w) (p : Addr) (hp : p.block < a.heap.size → S p.block) (u : Value) : Fr S a (w.setCell p u) :=
 ⟨h.os, h.tape, h.output, by simpa [World.setCell] using h.size, fun i hi hn => (Below.heap_setCell w p u i (fun e => hn (e ▸ hp (e ▸ hi)))).trans (h.block i hi hn)⟩
theorem Fr.grown {S : Nat → Prop} {a w w' : World} {row : Option Nat} (h : Fr S a w) (hg : w.grownBy w' row) (hr : ∀ k, row = some k → k < a.heap.size → S k) : Fr S a w' :=
 ⟨hg.os.trans h.os, hg.tape.trans h.tape, hg.output.trans h.output, Nat.le_trans h.size hg.size, fun i hi hn => (hg.block i (Nat.lt_of_lt_of_le hi h.size) (fun e => hn (hr i e.symm hi))).trans (h.block i hi hn)⟩
theorem Fr.cell {S : Nat → Prop} {w w' : World} (h : Fr S w w') {p : Addr} (hp : p.block < w.heap.size) (hn : ¬ S p.block) : w'.cell? p = w.cell? p := World.cell?_of_block (w := w) (h.block p.block hp hn)
theorem Fr.frozen {S : Nat → Prop} {w w' : World} (h : Fr S w w') {p : Addr} (hp : p.block < w.heap.size) (hn : ¬ S p.block) : w'.frozen? p = w.frozen? p := World.frozen?_of_block (w := w) (h.block p.block hp hn)
def Blk (w : World) (b : Nat) (a : Array Value) (T : TypeId) : Prop := w.heap[b]? = some (.cells a T (0, 0))
theorem Blk.lt {w : World} {b : Nat} {a : Array Value} {T : TypeId} (h : Blk w b a T) : b < w.heap.size := (Array.getElem?_eq_some_iff.1 h).1
theorem Blk.cell {w : World} {b : Nat} {a : Array Value} {T : TypeId} (h : Blk w b a T) (i : Nat) : w.cell? ⟨b, i, none⟩ = a[i]? := by unfold World.cell?; rw [h]; rfl
theorem Blk.frozen {w : World} {b : Nat} {a : Array Value} {T : TypeId} (h : Blk w b a T) (i : Nat) : w.frozen? ⟨b, i, none⟩ = false := by unfold World.frozen?; rw [h]; simp
theorem Blk.kept {S : Nat → Prop} {w w' : World} {b : Nat} {a : Array Value} {T : TypeId} (h : Blk w b a T) (hf : Fr S w w') (hn : ¬ S b) : Blk w' b a T := (hf.block b h.lt hn).trans h
theorem Blk.below {w w' : World} {b : Nat} {a : Array Value} {T : TypeId} (h : Blk w b a T) (hf : Below w.heap.size w w') : Blk w' b a T := (hf.block b h.lt).trans h
theorem Blk.drew {w : World} {b : Nat} {a : Array Value} {T : TypeId} (h : Blk w b a T) : Blk w.drew b a T := h
theorem Blk.alloc {w : World} {b : Nat} {a : Array Value} {T : TypeId} (h : Blk w b a T) (o : Obj) : Blk (w.alloc o) b a T := (Below.heap_alloc w o b h.lt).trans h
theorem Blk.new (w : World) (a : Array Value) (T : TypeId) : Blk (w.alloc (.cells a T)) w.heap.size a T := by
 unfold Blk World.alloc; simp
theorem Blk.set {w : World} {b : Nat} {a : Array Value} {T : TypeId} (h : Blk w b a T) (i : Nat) (v : Value) : Blk (w.setCell ⟨b, i, none⟩ v) b (a.setIfInBounds i v) T := by
 unfold Blk World.setCell;simp only [Array.getElem?_modify];rw [show w.heap[b]? = some (.cells a T (0, 0)) from h];simp
theorem Blk.other {w : World} {b : Nat} {a : Array Value} {T : TypeId} (h : Blk w b a T) {p : Addr} (hp : b ≠ p.block) (v : Value) : Blk (w.setCell p v) b a T := (Below.heap_setCell w p v b hp).trans h
end Go.Proofs.YtmnajomkfnkmeaaGreatDoor
namespace Go.Proofs.YtmnajomkfnkmeaaGreatDoor
open Go.RowKit
attribute [local go_sem] ofL_size
theorem passB_L (s : Bs) (id : Nat) : passB (ofL s) id = ofL (passL s id) := rfl
theorem pvalue_any (b : UInt8) (w : World) :
  Calls Tryz.prog 154 #[.int .u8 b.toNat] w fun e w' => e = .returned (.int .i64 (undig b)) ∧ w' = w := by
 have hb := b.toNat_lt;have HU : Hid (undig b = if 48 ≤ b.toNat ∧ b.toNat ≤ 57 then b.toNat - 48 else if 97 ≤ b.toNat ∧ b.toNat ≤ 102 then b.toNat - 97 + 10 else 0) := rfl;generalize undig b = u at *
 generalize b.toNat = n at *
 go_enter Tryz.func154, Tryz.ntmps154;go_wp2
 all_goals go_ret
 all_goals refine ⟨?_, rfl⟩
 all_goals (rw [HU.out])
 all_goals (congr 2; (try split) <;> (try split) <;> simp_all <;> omega)
def preadV (v : Value) : Option Nat → Value
 | some id => .tuple #[.int .i64 id, .nilIface]
 | none => .tuple #[.int .i64 0, v]
theorem i64_or16 (a v : Nat) (ha : a < 16777216) (hv : v < 16) : bits .or .i64 ((a : Int) * 16) (v : Int) = ((16 * a + v : Nat) : Int) := by
 have e1 : (BitVec.ofInt 64 ((a : Int) * 16)).toNat = a <<< 4 := by
  rw [BitVec.toNat_ofInt, Nat.shiftLeft_eq]; omega
 have e2 : (BitVec.ofInt 64 (v : Int)).toNat = v := by rw [BitVec.toNat_ofInt]; omega
 have key : (BitVec.ofInt 64 ((a : Int) * 16) ||| BitVec.ofInt 64 (v : Int)).toNat = 16 * a + v := by
  rw [BitVec.toNat_or, e1, e2, ← Nat.shiftLeft_add_eq_or_of_lt (by omega : v < 2 ^ 4), Nat.shiftLeft_eq]; omega
 show IntKind.i64.wrap ((BitVec.ofInt 64 ((a : Int) * 16) ||| BitVec.ofInt 64 (v : Int)).toNat : Nat) = _;rw [key, IntKind.wrap_i64];omega
theorem preadV_some {s t : Bs} {v : Value} (h9 : t.length = 9) (h : passL s (passId t) = t) : preadV v (passOf s t) = .tuple #[.int .i64 (passId t), .nilIface] := by
 unfold passOf; rw [if_pos ⟨h9, h⟩]; rfl
theorem preadV_none {s t : Bs} {v : Value} (h : ¬ (t.length = 9 ∧ passL s (passId t) = t)) : preadV v (passOf s t) = .tuple #[.int .i64 0, v] := by
 unfold passOf; rw [if_neg h]; rfl
def idK (l : Bs) (k : Nat) : Nat := (l.take k).foldl (fun a b => 16 * a + undig b) 0
theorem idK_succ (l : Bs) (k : Nat) (h : k < l.length) : idK l (k + 1) = 16 * idK l k + undig l[k] := by
 unfold idK;rw [List.take_succ_eq_append_getElem h, List.foldl_append]; rfl
theorem idK_lt (l : Bs) : ∀ k, k ≤ l.length → idK l k < 16 ^ k
 | 0, _ => by simp [idK]
 | k + 1, h => by
  have := idK_lt l k (by omega);have h2 := undig_lt l[k];rw [idK_succ l k (by omega), Nat.pow_succ]; omega
theorem pread_any (s t : Bs) (v : Value) (w : World) (hs : s.length ≤ 9223372036854775000) (hl : t.length ≤ 9223372036854775000) (ht : DigitsIn w) (he : w.cell? ⟨5, 0, none⟩ = some v) (hg : 5 < w.heap.size) :
  Calls Tryz.prog 114 #[.string (ofL s), .string (ofL t)] w fun e w' => e = .returned (preadV v (passOf s t)) ∧ Below w.heap.size w w' := by
 have HT : Hid (DigitsIn w) := ht;have HE : Hid (w.cell? ⟨5, 0, none⟩ = some v ∧ 5 < w.heap.size) := ⟨he, hg⟩;have HSZ : Hid (s.length ≤ 9223372036854775000) := hs;clear ht he hg hs;by_cases h9 : t.length = 9
 ·have hn := preadV_none (s := s) (t := t) (v := v);have hy := preadV_some (s := s) (v := v) h9;have HN : Hid (_ → _) := hn;have HY : Hid (_ → _) := hy;clear hn hy;have HID : Hid (passId t = idK ((t.drop 2).take 3) 3) := by
   match t, h9 with
   | [a0, a1, a2, a3, a4, a5, a6, a7, a8], _ =>
    show 256 * undig a2 + 16 * undig a3 + undig a4 = 16 * (16 * (16 * 0 + undig a2) + undig a3) + undig a4;omega
  have hd3 : ((t.drop 2).take 3).length = 3 := by simp; omega
  have HC := fun w => run_bytes_of_string (P := Tryz.prog) w 9 39 5 (ofL ((t.drop 2).take 3)) Tryz.underlying9 Tryz.underlying39 Tryz.underlying5;go_enter Tryz.func114, Tryz.ntmps114;go_wp2_with fail;rw [extract_ofL, show 5 - 2 = 3 from rfl];rw [HC w];clear HC;have HD : Hid (((t.drop 2).take 3).length = 3) := hd3;have hsz : (ofL ((t.drop 2).take 3)).size = 3 := by rw [ofL_size]; exact hd3
  have hck : ∀ (k : Nat) (hk : k < ((t.drop 2).take 3).length), (bytesRow (ofL ((t.drop 2).take 3)) (grownCap w (ofL ((t.drop 2).take 3)).size 0 5))[k]? = some (.int .u8 (((t.drop 2).take 3)[k].toNat : Int)) := by
   intro k hk;rw [bytesRow_at _ _ _ (show k < (ofL ((t.drop 2).take 3)).data.size from hk)];rfl
  rw [hsz] at hck ⊢;clear hd3 hsz;generalize hdd : (t.drop 2).take 3 = dd at *
  have HDD : Hid _ := hdd;generalize grownCap w 3 0 5 = cap at *
  generalize bytesRow (ofL dd) cap = row at *
  have hcell : ∀ (k : Nat) (hk : k < dd.length), (w.drew.alloc (.cells row 5 (row.size, row.size + 1))).cell? ⟨w.heap.size, k, none⟩ = some (.int .u8 (dd[k].toNat : Int)) := by
   intro k hk;rw [← hck k hk];have hh : (w.drew.alloc (.cells row 5 (row.size, row.size + 1))).heap[w.heap.size]? = some (.cells row 5 (row.size, row.size + 1)) := by
    show (w.heap.push (.cells row 5 (row.size, row.size + 1)))[w.heap.size]? = _;simp
   unfold World.cell?;rw [hh]; rfl
  have HB : Hid (Below w.heap.size w (w.drew.alloc (.cells row 5 (row.size, row.size + 1)))) := (Below.refl _ w).drew.alloc (Nat.le_refl _) _;clear hdd hck hl;generalize w.drew.alloc (.cells row 5 (row.size, row.size + 1)) = w1 at *
  go_wp2_with fail
  go_loop [6, 19] (fun n i => ∃ k : Nat, k ≤ 3 ∧ i = .int .i64 k ∧ n = .int .i64 (idK dd k)) (fun _ i => 3 - (intOf i).toNat)
  case atStart => exact ⟨0, Nat.zero_le _, rfl, rfl⟩
  case round =>
   obtain ⟨k, hk, rfl, rfl⟩ := hrel;have hdd3 := HD.out;by_cases hlt : k < 3
   ·have hb := hcell k (by omega);have HS : Hid (idK dd (k + 1) = 16 * idK dd k + undig (dd[k]'(by omega))) := idK_succ dd k (by omega);have hlt1 := idK_lt dd k (by omega);have hlt2 : idK dd k < 4096 := Nat.lt_of_lt_of_le hlt1 (Nat.pow_le_pow_right (n := 16) (by decide) (show k ≤ 3 by omega));have hu := undig_lt (dd[k]'(by omega));have hor := i64_or16 (idK dd k) (undig (dd[k]'(by omega))) (by omega) hu;generalize dd[k]'(by omega) = b at *
    clear hlt1;generalize hi1 : idK dd (k + 1) = i1 at *
    have HI : Hid (idK dd (k + 1) = i1) := hi1;clear hi1;generalize idK dd k = i0 at *
    have HU : Hid (undig b < 16) := hu;have HL2 : Hid (i0 < 4096) := hlt2;have HOR : Hid _ := hor;clear hor hlt2 hu hdd3;go_wp2_with fail;refine (pvalue_any b _).mono ?_;rintro e w2 ⟨rfl, rfl⟩;generalize undig b = u at *
    have hw : wrap64 ((i0 : Int) * 16) = (i0 : Int) * 16 := by have := HL2.out; unfold wrap64; omega
    have hor : bits .or .i64 ((i0 : Int) * 16) (u : Int) = (i1 : Int) := by rw [HOR.out, HS.out]
    rw [hw];have HI1 : Hid (idK dd (k + 1) = i1) := HI;clear hw HOR HS HL2 HU;generalize (i0 : Int) * 16 = m at *
    go_wp2_with fail
    go_round
    case rel => exact ⟨k + 1, by omega, by go_num, by rw [HI1.out]⟩
    case measure => simp [intOf]; omega
   ·have hk3 : k = 3 := by omega
    subst hk3;have hid := HID.out;have HPL : Hid (passId t < 4096) := passId_lt t;rw [← hid];clear hid;have hty : (ofL (passL s (passId t)) = ofL t) = (passL s (passId t) = t) := by rw [eq_iff_iff]; exact ⟨ofL_inj, congrArg ofL⟩
    have HTY : Hid (_ = _) := hty;clear hty;generalize passId t = id at *
    go_wp2_with fail;refine (make_ok (ofL s) id _ (by omega) (by have := HPL.out; omega) (by rw [ofL_size]; have := HSZ.out; omega) (HT.out.below HB.out)).mono ?_;rintro e w2 ⟨rfl, hb2⟩;rw [passB_L];have HB2 : Hid (Below w.heap.size w w2) := HB.out.trans (hb2.mono HB.out.size);have he : w2.cell? ⟨5, 0, none⟩ = some v := (HB2.out.cell (p := ⟨5, 0, none⟩) HE.out.2).trans HE.out.1;have hq : ((ofL (passL s id)).toList == (ofL t).toList) = decide (passL s id = t) := by
     rw [eq_toList, Bool.eq_iff_iff, beq_iff_eq, decide_eq_true_iff]; rfl
    clear hcell;by_cases c : passL s id = t
    ·rw [c, decide_eq_true rfl] at hq;rw [c];have HC : Hid (passL s id = t) := c;clear c;go_wp2_with fail;refine bodyPost_ret (v := .tuple #[.int .i64 id, .nilIface]) (by simp [results, Tryz.results114, go_sem]) rfl ⟨?_, HB2.out⟩;rw [HY.out HC.out]
    ·rw [decide_eq_false c] at hq;have HC : Hid (¬ passL s id = t) := c;clear c;generalize ofL (passL s id) = mb at *
     go_wp2_with fail
     go_quiet (fail)
     go_wp2;refine bodyPost_ret (v := .tuple #[.int .i64 0, v]) (by simp [results, Tryz.results114, go_sem]) rfl ⟨?_, below_drewN HB2.out _⟩;rw [HN.out (fun h => HC.out h.2)]
 ·have hp : preadV v (passOf s t) = .tuple #[.int .i64 0, v] := preadV_none (fun h => h9 h.1);have HP : Hid (_ = _) := hp;clear hp;have he := HE.out.1;go_enter Tryz.func114, Tryz.ntmps114;go_wp2_with fail
  go_quiet (fail)
  go_wp2;refine bodyPost_ret (v := .tuple #[.int .i64 0, v]) (by simp [results, Tryz.results114, go_sem]) rfl ⟨?_, below_drewN (Below.refl _ _) _⟩;rw [HP.out]
end Go.Proofs.YtmnajomkfnkmeaaGreatDoor
namespace Go.Proofs.YtmnajomkfnkmeaaGreatDoor
open Go.RowKit
theorem number_any (s : ByteArray) (w : World) (hs : s.size ≤ 4) :
  Calls Tryz.prog 131 #[.string s] w fun e w' => e = .returned (.int .i64 (numL (toL s))) ∧ w' = w := by
 have hL : (toL s).length = s.size := rfl;go_enter Tryz.func131, Tryz.ntmps131;go_wp2
 go_loop [3, 4] (fun n i => ∃ k : Nat, k ≤ s.size ∧ i = .int .i64 ((k : Int) - 1) ∧ n = .int .i64 (numL ((toL s).drop k))) (fun _ i => (intOf i + 1).toNat)
 case atStart => exact ⟨s.size, Nat.le_refl _, rfl, by rw [List.drop_of_length_le (by rw [hL]; exact Nat.le_refl _)]; rfl⟩
 case round =>
  obtain ⟨k, hk, rfl, rfl⟩ := hrel;have hb := numL_lt ((toL s).drop k);have hlen : ((toL s).drop k).length ≤ 4 := by rw [List.length_drop, hL]; omega
  have hp : 256 ^ ((toL s).drop k).length ≤ 256 ^ 4 := Nat.pow_le_pow_right (by decide) hlen;have hp4 : (256 : Nat) ^ 4 = 4294967296 := by decide
  by_cases hlt : 0 < k
  ·obtain ⟨j, rfl⟩ : ∃ j, k = j + 1 := ⟨k - 1, by omega⟩;have hj : j < s.size := by omega
   have HS : Hid (numL ((toL s).drop j) = s[j].toNat + 256 * numL ((toL s).drop (j + 1))) := by
    show _ = _;have hj2 : j < (toL s).length := by rw [hL]; exact hj
    rw [List.drop_eq_getElem_cons hj2];rfl
   have hb2 : s[j].toNat < 256 := s[j].toNat_lt;have hN : numL ((toL s).drop (j + 1)) < 4294967296 := by omega
   clear hp hb hlen;generalize numL ((toL s).drop (j + 1)) = N at *
   go_wp2
   go_round
   case rel => exact ⟨j, by omega, by rfl, by rw [HS.out]; exact congrArg _ (by omega)⟩
   case measure => simp [intOf]
  ·obtain rfl : k = 0 := by omega
   go_wp2;go_ret;exact ⟨rfl, rfl⟩
def SpotAt (w : World) (b : Nat) (p : Sp) : Prop := Blk w b #[.string (ofL p.s), .int .i64 p.pos, .bool p.bad] 191
theorem ers {a b : ByteArray} (h : a = b) : Ending.returned (.string a) = .returned (.string b) := by rw [h]
theorem noughtsB (n : Nat) : zA n = ofL (zeros n) := by unfold zA ofL zeros; simp
theorem SpotAt.setBad {w : World} {b : Nat} {p : Sp} (h : SpotAt w b p) : SpotAt (w.setCell ⟨b, 2, none⟩ (.bool true)) b ⟨p.s, p.pos, true⟩ := by
 have := Blk.set h 2 (.bool true);simpa [SpotAt] using this
theorem SpotAt.setPos {w : World} {b : Nat} {p : Sp} (h : SpotAt w b p) (n : Nat) : SpotAt (w.setCell ⟨b, 1, none⟩ (.int .i64 (n : Int))) b ⟨p.s, n, p.bad⟩ := by
 have := Blk.set h 1 (.int .i64 (n : Int));simpa [SpotAt] using this
theorem take_any (b : Nat) (p : Sp) (n : Nat) (w : World) (h : SpotAt w b p) (hp : p.pos ≤ p.s.length) (hl : p.s.length ≤ 1000000) (hn : n ≤ 1000) :
  Calls Tryz.prog 136 #[.pointer (some ⟨b, 0, none⟩), .int .i64 n] w fun e w' => e = .returned (.string (ofL (spTake n p).1)) ∧ SpotAt w' b (spTake n p).2 ∧ Fr (· = b) w w' := by
 have c0 : w.cell? ⟨b, 0, none⟩ = some (.string (ofL p.s)) := Blk.cell h 0;have c1 : w.cell? ⟨b, 1, none⟩ = some (.int .i64 p.pos) := Blk.cell h 1;have c2 : w.cell? ⟨b, 2, none⟩ = some (.bool p.bad) := Blk.cell h 2;have f1 : w.frozen? ⟨b, 1, none⟩ = false := Blk.frozen h 1;have f2 : w.frozen? ⟨b, 2, none⟩ = false := Blk.frozen h 2;have HH : Hid (SpotAt w b p) := h;clear h;have hz : (ofL p.s).size = p.s.length := rfl;by_cases hb : p.bad = true
 ·have HT : Hid (spTake n p = (zeros n, ⟨p.s, p.pos, true⟩)) := by show _ = _; unfold spTake; rw [if_pos (Or.inl hb)]
  rw [hb] at c2;go_enter Tryz.func136, Tryz.ntmps136;go_wp2_with fail
  go_quiet (fail)
  go_wp2_with fail;refine (noughts_any n _ (by omega)).mono ?_;rintro e w1 ⟨rfl, hb1⟩;go_wp2_with fail;go_ret;rw [HT.out];have hs : SpotAt ((w.drewN nq).setCell ⟨b, 2, none⟩ (.bool true)) b ⟨p.s, p.pos, true⟩ := SpotAt.setBad (w := w.drewN nq) HH.out;exact ⟨ers (noughtsB n), Blk.below hs hb1, (((Fr.refl (· = b) w).drewN nq).setCell _ (fun _ => rfl) _).trans (Fr.of_below hb1) (fun _ _ h => h)⟩
 ·have hb0 : p.bad = false := by simpa using hb
  by_cases hc : p.s.length - p.pos < n
  ·have HT : Hid (spTake n p = (zeros n, ⟨p.s, p.pos, true⟩)) := by show _ = _; unfold spTake; rw [if_pos (Or.inr hc)]
   rw [hb0] at c2;go_enter Tryz.func136, Tryz.ntmps136;go_wp2_with fail
   go_quiet (fail)
   go_wp2_with fail;refine (noughts_any n _ (by omega)).mono ?_;rintro e w1 ⟨rfl, hb1⟩;go_wp2_with fail;go_ret;rw [HT.out];have hs : SpotAt ((w.drewN nq).setCell ⟨b, 2, none⟩ (.bool true)) b ⟨p.s, p.pos, true⟩ := SpotAt.setBad (w := w.drewN nq) HH.out;exact ⟨ers (noughtsB n), Blk.below hs hb1, (((Fr.refl (· = b) w).drewN nq).setCell _ (fun _ => rfl) _).trans (Fr.of_below hb1) (fun _ _ h => h)⟩
  ·have HT : Hid (spTake n p = ((p.s.drop p.pos).take n, ⟨p.s, p.pos + n, p.bad⟩)) := by show _ = _; unfold spTake; rw [if_neg (by rw [hb0]; simp; omega)]
   rw [hb0] at c2;go_enter Tryz.func136, Tryz.ntmps136;go_wp2_with fail
   go_quiet (fail)
   go_wp2_with fail
   go_quiet (fail)
   go_wp2_with fail;go_ret;rw [HT.out];refine ⟨ers (by rw [extract_ofL, Nat.add_sub_cancel_left]), ?_, ?_⟩
   ·exact SpotAt.setPos (w := w.drewN _) HH.out (p.pos + n)
   ·exact (((Fr.refl (· = b) w).drewN _).setCell _ (fun _ => rfl) _).drewN _
attribute [local go_sem] ofL_size
theorem take2 (b : Nat) (p : Sp) (n : Nat) (m : Int) (w : World) (h : SpotAt w b p) (hp : p.pos ≤ p.s.length) (hl : p.s.length ≤ 1000000) (hn : n ≤ 1000) (hm : m = n) :
  Calls Tryz.prog 136 #[.pointer (some ⟨b, 0, none⟩), .int .i64 m] w fun e w' => e = .returned (.string (ofL (spTake n p).1)) ∧ SpotAt w' b (spTake n p).2 ∧ Fr (· = b) w w' := hm ▸ take_any b p n w h hp hl hn
theorem spn_any (b : Nat) (p : Sp) (wd lo hi : Nat) (w : World) (h : SpotAt w b p) (hp : p.pos ≤ p.s.length) (hl : p.s.length ≤ 1000000) (hn : wd ≤ 4) :
  Calls Tryz.prog 133 #[.pointer (some ⟨b, 0, none⟩), .int .i64 wd, .int .i64 lo, .int .i64 hi] w fun e w' => e = .returned (.int .i64 (spN wd lo hi p).1) ∧ SpotAt w' b (spN wd lo hi p).2 ∧ Fr (· = b) w w' := by
 have HH : Hid (SpotAt w b p) := h;clear h;have hlen := spTake_length wd p;have HE : Hid (spN wd lo hi p = if numL (spTake wd p).1 < lo ∨ hi < numL (spTake wd p).1 then (lo, ⟨(spTake wd p).2.s, (spTake wd p).2.pos, true⟩) else (numL (spTake wd p).1, (spTake wd p).2)) := rfl;have hnl := numL_lt (spTake wd p).1;rw [hlen] at hnl;have hnl4 : 256 ^ wd ≤ 256 ^ 4 := Nat.pow_le_pow_right (by decide) hn;have hp4 : (256 : Nat) ^ 4 = 4294967296 := by decide
 have hN : numL (spTake wd p).1 < 4294967296 := by omega
 clear hnl hnl4 hp4;go_enter Tryz.func133, Tryz.ntmps133;go_wp2_with fail;refine (take_any b p wd _ HH.out hp hl (by omega)).mono ?_;rintro e w1 ⟨rfl, h1, hf1⟩;have HS1 : Hid (SpotAt w1 b (spTake wd p).2) := h1;clear h1;generalize spTake wd p = q at *
 obtain ⟨q1, q2⟩ := q;go_wp2_with fail;refine (number_any (ofL q1) _ (by rw [ofL_size, hlen]; exact hn)).mono ?_;rintro e w2 ⟨rfl, rfl⟩;rw [toL_ofL];have c2 : w2.cell? ⟨b, 2, none⟩ = some (.bool q2.bad) := Blk.cell HS1.out 2;have f2 : w2.frozen? ⟨b, 2, none⟩ = false := Blk.frozen HS1.out 2;generalize numL q1 = m at *
 by_cases c : m < lo
 ·have HF : Hid (spN wd lo hi p = (lo, ⟨q2.s, q2.pos, true⟩)) := HE.out.trans (if_pos (Or.inl c));go_wp2_with fail;go_ret;rw [HF.out];exact ⟨rfl, SpotAt.setBad HS1.out, hf1.setCell _ (fun _ => rfl) _⟩
 ·by_cases d : hi < m
  ·have HF : Hid (spN wd lo hi p = (lo, ⟨q2.s, q2.pos, true⟩)) := HE.out.trans (if_pos (Or.inr d));go_wp2_with fail;go_ret;rw [HF.out];exact ⟨rfl, SpotAt.setBad HS1.out, hf1.setCell _ (fun _ => rfl) _⟩
  ·have HF : Hid (spN wd lo hi p = (m, q2)) := HE.out.trans (if_neg (by omega));go_wp2_with fail;go_ret;rw [HF.out];exact ⟨rfl, HS1.out, hf1⟩
theorem spnI (b : Nat) (p : Sp) (wd lo hi : Nat) (wd' lo' hi' : Int) (w : World) (h : SpotAt w b p) (hp : p.pos ≤ p.s.length) (hl : p.s.length ≤ 1000000) (hn : wd ≤ 4) (e1 : wd' = wd) (e2 : lo' = lo) (e3 : hi' = hi) :
  Calls Tryz.prog 133 #[.pointer (some ⟨b, 0, none⟩), .int .i64 wd', .int .i64 lo', .int .i64 hi'] w fun e w' => e = .returned (.int .i64 (spN wd lo hi p).1) ∧ SpotAt w' b (spN wd lo hi p).2 ∧ Fr (· = b) w w' := by
 subst e1; subst e2; subst e3; exact spn_any b p wd lo hi w h hp hl hn
theorem spx_any (b : Nat) (p : Sp) (lo hi : Nat) (w : World) (h : SpotAt w b p) (hp : p.pos ≤ p.s.length) (hl : p.s.length ≤ 1000000) (hh : hi ≤ 255) (hlo : lo ≤ hi) :
  Calls Tryz.prog 134 #[.pointer (some ⟨b, 0, none⟩), .int .i64 lo, .int .i64 hi] w fun e w' => e = .returned (.string (ofL (spX lo hi p).1)) ∧ SpotAt w' b (spX lo hi p).2 ∧ Fr (· = b) w w' := by
 have HH : Hid (SpotAt w b p) := h;clear h;have HE : Hid (spX lo hi p = spTake (spN 1 lo hi p).1 (spN 1 lo hi p).2) := rfl;have hle := (spN_le (w := 1) (p := p) hlo).1;have hpos := spN_pos (w := 1) (lo := lo) (hi := hi) hp;have hss := spN_s 1 lo hi p;go_enter Tryz.func134, Tryz.ntmps134;go_wp2_with fail;refine (spnI b p 1 lo hi 1 lo hi _ HH.out hp hl (by omega) rfl rfl rfl).mono ?_;rintro e w1 ⟨rfl, h1, hf1⟩;have HS1 : Hid (SpotAt w1 b (spN 1 lo hi p).2) := h1;have HSS : Hid ((spN 1 lo hi p).2.s = p.s) := hss;clear h1 hss;generalize spN 1 lo hi p = q at *
 obtain ⟨q1, q2⟩ := q;go_wp2_with fail;refine (take_any b q2 q1 _ HS1.out (by have := HSS.out; rw [this]; exact hpos) (by have := HSS.out; rw [this]; exact hl) (by omega)).mono ?_;rintro e w2 ⟨rfl, h2, hf2⟩;go_wp2_with fail;go_ret;rw [HE.out];exact ⟨rfl, h2, hf1.trans hf2 (fun _ _ h => h)⟩
end Go.Proofs.YtmnajomkfnkmeaaGreatDoor
