import Derived.Test.YtmnajomkfnkmeaaGreatDoorOct
import Derived.Deep.OwnRows
namespace Go.Proofs.YtmnajomkfnkmeaaGreatDoor
open Go.RowKit

theorem nB_snoc (w : Nat) (n : Int) : nB (w + 1) n = nB w n ++ [UInt8.ofNat (n / 256 ^ w % 256).toNat] := by
  induction w generalizing n with
  | zero => simp [nB]
  | succ w ih =>
    rw [nB, ih (n / 256), nB, List.cons_append]
    have e : n / 256 / 256 ^ w = n / 256 ^ (w + 1) := by
      rw [Int.pow_succ', Int.ediv_ediv_of_nonneg (by decide)]
    rw [e]
theorem nA_snoc (w : Nat) (n : Int) : nA w n ++ strOfNums [n / 256 ^ w % 256] = nA (w + 1) n := by
  unfold nA
  rw [nB_snoc]
  apply ByteArray.ext
  simp [strOfNums]

theorem conv_nums (W : World) (g : Nat) (cap : Nat) (xs : List Int) (hc : ∀ j, j < xs.length → W.cell? ⟨g, j, none⟩ = some (.int .u8 (xs.getD j 0))) (n : Nat) (hn : xs.length = n) :
    (convert 39 9 (.slice (some ⟨g, 0, none⟩) n cap)).run Tryz.prog W = .ok (.string (strOfNums xs)) W :=
  run_convert_bytes_arg W 39 5 Tryz.underlying39 Tryz.underlying5 g 0 n cap xs hn (fun i hi => by
    rw [Nat.zero_add]; exact hc i (by omega)) 9 Tryz.underlying9
theorem cv1 (w : World) (x : Int) : (convert 39 9 (.slice (some ⟨w.heap.size, 0, none⟩) 1 1)).run Tryz.prog (w.alloc (.cells #[.int .u8 x] 5)) = .ok (.string (strOfNums [x])) (w.alloc (.cells #[.int .u8 x] 5)) :=
  conv_nums _ _ 1 [x] (fun j hj => by
    have hj2 : j < 1 := hj
    match j, hj2 with
    | 0, _ => simp [go_sem]) 1 rfl
theorem cv2 (w : World) (x y : Int) : (convert 39 9 (.slice (some ⟨w.heap.size, 0, none⟩) 2 2)).run Tryz.prog (w.alloc (.cells #[.int .u8 x, .int .u8 y] 5)) = .ok (.string (strOfNums [x, y])) (w.alloc (.cells #[.int .u8 x, .int .u8 y] 5)) :=
  conv_nums _ _ 2 [x, y] (fun j hj => by
    have hj2 : j < 2 := hj
    match j, hj2 with
    | 0, _ => simp [go_sem]
    | 1, _ => simp [go_sem]) 2 rfl
theorem cv4 (w : World) (x y z v : Int) : (convert 39 9 (.slice (some ⟨w.heap.size, 0, none⟩) 4 4)).run Tryz.prog (w.alloc (.cells #[.int .u8 x, .int .u8 y, .int .u8 z, .int .u8 v] 5)) = .ok (.string (strOfNums [x, y, z, v])) (w.alloc (.cells #[.int .u8 x, .int .u8 y, .int .u8 z, .int .u8 v] 5)) :=
  conv_nums _ _ 4 [x, y, z, v] (fun j hj => by
    have hj2 : j < 4 := hj
    match j, hj2 with
    | 0, _ => simp [go_sem]
    | 1, _ => simp [go_sem]
    | 2, _ => simp [go_sem]
    | 3, _ => simp [go_sem]) 4 rfl
theorem i64_and255 (n : Int) : bits .and .i64 n 255 = n % 256 := by
  have h15 : (BitVec.ofInt 64 255).toNat = 2 ^ 8 - 1 := by decide
  have key : (BitVec.ofInt 64 n &&& BitVec.ofInt 64 255).toNat = (n % ((2 ^ 64 : Nat) : Int)).toNat % 2 ^ 8 := by
    rw [BitVec.toNat_and, BitVec.toNat_ofInt, h15, Nat.and_two_pow_sub_one_eq_mod]
  show IntKind.i64.wrap ((BitVec.ofInt 64 n &&& BitVec.ofInt 64 255).toNat : Nat) = n % 256
  rw [key, IntKind.wrap_i64]
  omega
theorem size_strOfNums (xs : List Int) : (strOfNums xs).size = xs.length := strOfNums_size xs
attribute [local go_sem] cv1 cv2 cv4 i64_and255 nA_size size_strOfNums

set_option maxHeartbeats 400000 in
theorem N_any (k : Nat) (n : Int) (w : World) (hk : k ≤ 1000) (h0 : 0 ≤ n) (h1 : n ≤ 9223372036854775807) :
    Calls Tryz.prog 87 #[.int .i64 k, .int .i64 n] w fun e w' => e = .returned (.string (nA k n)) ∧ Below w.heap.size w w' := by
  go_enter Tryz.func87, Tryz.ntmps87
  go_wp2
  go_loopw [1, 5, 6] (fun m s i wx => ∃ j : Nat, j ≤ k ∧ i = .int .i64 j ∧ m = .int .i64 (n / 256 ^ j) ∧ s = .string (nA j n) ∧ Below w.heap.size w wx) (fun _ _ i _ => k - (intOf i).toNat)
  case atStart => exact ⟨0, Nat.zero_le _, rfl, by simp, rfl, Below.refl _ _⟩
  case round =>
    obtain ⟨j, hj, rfl, rfl, rfl, hb⟩ := hrel
    have hm0 : 0 ≤ n / 256 ^ j := Int.ediv_nonneg h0 (Int.pow_nonneg (by decide))
    have hm1 : n / 256 ^ j ≤ 9223372036854775807 := Int.le_trans (Int.ediv_le_self _ h0) h1
    have HN : Hid (nA j n ++ strOfNums [n / 256 ^ j % 256] = nA (j + 1) n) := nA_snoc j n
    have HM : Hid (n / 256 ^ j / 256 = n / 256 ^ (j + 1)) := by
      show n / 256 ^ j / 256 = n / 256 ^ (j + 1)
      rw [Int.pow_succ, Int.ediv_ediv_of_nonneg (Int.pow_nonneg (by decide))]
    by_cases hlt : j < k
    · generalize n / 256 ^ j = m at *
      go_wp2
      go_roundw
      case rel => exact ⟨j + 1, by omega, by go_num, by rw [HM.out], by rw [HN.out], hb.alloc hb.size _⟩
      case measure => simp [intOf]; omega
    · go_wp2
      go_ret
      exact ⟨by rw [show k = j by omega]; rfl, hb⟩
theorem N1 (n : Int) (w : World) (h0 : 0 ≤ n) (h1 : n ≤ 9223372036854775807) :
    Calls Tryz.prog 87 #[.int .i64 1, .int .i64 n] w fun e w' => e = .returned (.string (nA 1 n)) ∧ Below w.heap.size w w' := N_any 1 n w (by decide) h0 h1
theorem N2 (n : Int) (w : World) (h0 : 0 ≤ n) (h1 : n ≤ 9223372036854775807) :
    Calls Tryz.prog 87 #[.int .i64 2, .int .i64 n] w fun e w' => e = .returned (.string (nA 2 n)) ∧ Below w.heap.size w w' := N_any 2 n w (by decide) h0 h1
theorem N4 (n : Int) (w : World) (h0 : 0 ≤ n) (h1 : n ≤ 9223372036854775807) :
    Calls Tryz.prog 87 #[.int .i64 4, .int .i64 n] w fun e w' => e = .returned (.string (nA 4 n)) ∧ Below w.heap.size w w' := N_any 4 n w (by decide) h0 h1

/-! the code's own -/
theorem one_of (n : Int) (h0 : 0 ≤ n) (h1 : n < 256) : strOfNums [n] = nA 1 n := by
  simp [strOfNums, nA, nB, show n % 256 = n by omega]
theorem two_of (n : Int) : strOfNums [n % 256, n / 256 % 256] = nA 2 n := rfl
theorem four_of (n : Int) : strOfNums [n % 256, n / 256 % 256, n / 65536 % 256, n / 16777216 % 256] = nA 4 n := by
  simp only [nA, nB, strOfNums, List.map_cons, List.map_nil]
  rw [show n / 256 / 256 = n / 65536 by omega, show n / 65536 / 256 = n / 16777216 by omega]
set_option maxHeartbeats 400000 in
theorem One_any (n : Int) (w : World) (h0 : 0 ≤ n) (h1 : n < 256) :
    Calls Tryz.prog 147 #[.int .u8 n] w fun e w' => e = .returned (.string (nA 1 n)) ∧ Below w.heap.size w w' := by
  have H : Hid (strOfNums [n] = nA 1 n) := one_of n h0 h1
  go_enter Tryz.func147, Tryz.ntmps147
  go_wp2
  go_ret
  exact ⟨congrArg (fun b => Ending.returned (Value.string b)) H.out, (Below.refl _ _).alloc (Nat.le_refl _) _⟩
set_option maxHeartbeats 400000 in
theorem Two_any (n : Int) (w : World) (h0 : 0 ≤ n) (h1 : n < 65536) :
    Calls Tryz.prog 149 #[.int .u16 n] w fun e w' => e = .returned (.string (nA 2 n)) ∧ Below w.heap.size w w' := by
  have H : Hid (strOfNums [n % 256, n / 256] = nA 2 n) := by
    have := two_of n
    rwa [show n / 256 % 256 = n / 256 by omega] at this
  go_enter Tryz.func149, Tryz.ntmps149
  go_wp2
  go_ret
  exact ⟨congrArg (fun b => Ending.returned (Value.string b)) H.out, (Below.refl _ _).alloc (Nat.le_refl _) _⟩
set_option maxHeartbeats 400000 in
theorem Four_any (n : Int) (w : World) (h0 : 0 ≤ n) (h1 : n < 4294967296) :
    Calls Tryz.prog 146 #[.int .u32 n] w fun e w' => e = .returned (.string (nA 4 n)) ∧ Below w.heap.size w w' := by
  have H : Hid (strOfNums [n % 256, n / 256 % 256, n / 65536 % 256, n / 16777216] = nA 4 n) := by
    have := four_of n
    rwa [show n / 16777216 % 256 = n / 16777216 by omega] at this
  go_enter Tryz.func146, Tryz.ntmps146
  go_wp2
  go_ret
  exact ⟨congrArg (fun b => Ending.returned (Value.string b)) H.out, (Below.refl _ _).alloc (Nat.le_refl _) _⟩

/-! noughts -/
def zA (n : Nat) : ByteArray := ⟨Array.replicate n 0⟩
theorem zA_size (n : Nat) : (zA n).size = n := by simp [zA, ByteArray.size]
theorem info_byte : (Tryz.prog.info? 5).map (fun i => (i.zero, i.size, i.bytes)) = some (some (.int .u8 0), 1, 1) := by kernel_rfl
theorem cvz (w : World) (n : Nat) : (convert 39 9 (.slice (some ⟨w.heap.size, 0, none⟩) n n)).run Tryz.prog (w.alloc (.cells (madeCells #[.int .u8 0] n) 5)) = .ok (.string (zA n)) (w.alloc (.cells (madeCells #[.int .u8 0] n) 5)) := by
  rw [conv_nums (w.alloc (.cells (madeCells #[.int .u8 0] n) 5)) w.heap.size n (List.replicate n 0) (fun j hj => by
    have hj2 : j < n := by simpa using hj
    simp [go_sem, madeCells, hj2, Nat.mod_one]) n (by simp)]
  simp [strOfNums, zA]
set_option maxHeartbeats 400000 in
theorem noughts_any (n : Nat) (w : World) (h1 : n ≤ 281474976710656) :
    Calls Tryz.prog 83 #[.int .i64 n] w fun e w' => e = .returned (.string (zA n)) ∧ Below w.heap.size w w' := by
  have hmk := run_make_row' (P := Tryz.prog) 39 5 (.int .u8 0) 1 Tryz.underlying39 info_byte rfl .i64 .i64 n (by omega) (by omega)
  have hcv := fun w => cvz w n
  go_enter Tryz.func83, Tryz.ntmps83
  go_wp2
  go_ret
  exact ⟨rfl, (Below.refl _ _).alloc (Nat.le_refl _) _⟩

/-! records and sectors, as bytes -/
def sumA (s : ByteArray) : Nat := sumL 1 s.data.toList
theorem sumA_lt (s : ByteArray) : sumA s < 65521 := sumL_lt _ _ (by decide)
def summedA (s : ByteArray) : ByteArray := s ++ nA 2 (sumA s)
theorem summedA_size (s : ByteArray) : (summedA s).size = s.size + 2 := by simp [summedA, ByteArray.size_append, nA_size]
def headA (g r : Int) : ByteArray := summedA ({ data := #[68, 75] } ++ nA 4 g ++ nA 1 r)
theorem headA_size (g r : Int) : (headA g r).size = 9 := by rw [headA, summedA_size]; simp [ByteArray.size_append, nA_size]; rfl
def sectorA (g r : Int) : ByteArray := headA g r ++ zA 23
def recA (g k : Int) (p : ByteArray) : ByteArray := summedA (nA 2 p.size ++ nA 4 g ++ nA 2 k ++ p)
theorem recA_size (g k : Int) (p : ByteArray) : (recA g k p).size = p.size + 10 := by rw [recA, summedA_size]; simp [ByteArray.size_append, nA_size]; omega
end Go.Proofs.YtmnajomkfnkmeaaGreatDoor
