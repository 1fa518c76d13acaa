import Derived.Test.YtmnajomkfnkmeaaGreatDoorRows
import Derived.Test.YtmnajomkfnkmeaaGreatDoorPure
import Derived.WalkKit
import Derived.WalkSpells
import Derived.WalkLawsBesides
import Derived.BigQuiet
import Derived.Deep.QuietTactic
import Derived.BigRegion
set_option maxHeartbeats 400000
namespace Go.Proofs.YtmnajomkfnkmeaaGreatDoor
open Go.RowKit
theorem bA {w : World} {o : Obj} : Below w.heap.size w (w.alloc o) := (Below.refl _ _).alloc (Nat.le_refl _) _
def hexDig (n : Nat) : UInt8 := [48, 49, 50, 51, 52, 53, 54, 55, 56, 57, 97, 98, 99, 100, 101, 102].getD n 0
def hexB (n : Int) : ByteArray := ⟨#[hexDig (n / 16).toNat, hexDig (n % 16).toNat]⟩
def hexTab : ByteArray := { data := #[48, 49, 50, 51, 52, 53, 54, 55, 56, 57, 97, 98, 99, 100, 101, 102] }
theorem hexTab_one (i : Nat) (h : i < 16) : (hexTab.extract i (i + 1)) = ⟨#[hexDig i]⟩ := by
 have : ∀ i : Fin 16, (hexTab.extract i.val (i.val + 1)) = ⟨#[hexDig i.val]⟩ := by decide +kernel
 exact this ⟨i, h⟩
theorem hexB_size (n : Int) : (hexB n).size = 2 := rfl
theorem hexB_of (n : Int) (h0 : 0 ≤ n) (h1 : n < 256) : hexTab.extract (n / 16).toNat (n / 16 + 1).toNat ++ hexTab.extract (n % 16).toNat (n % 16 + 1).toNat = hexB n := by
 rw [show (n / 16 + 1).toNat = (n / 16).toNat + 1 by omega, show (n % 16 + 1).toNat = (n % 16).toNat + 1 by omega, hexTab_one _ (by omega), hexTab_one _ (by omega)];rfl
theorem hex_any (n : Int) (w : World) (h0 : 0 ≤ n) (h1 : n < 256) :
  Calls Tryz.prog 139 #[.int .i64 n] w fun e w' => e = .returned (.string (hexB n)) ∧ ∃ nq, w' = w.drewN nq := by
 go_enter Tryz.func139, Tryz.ntmps139;go_wp2
 go_quiet (fail)
 go_wp2;go_ret;exact ⟨congrArg (fun b => Ending.returned (Value.string b)) (hexB_of n h0 h1), _, rfl⟩
theorem conv_new (W : World) (g : Nat) (cap : Nat) (l : List UInt8) (hc : ∀ j (hj : j < l.length), W.cell? ⟨g, j, none⟩ = some (.int .u8 (l[j].toNat : Int))) (n : Nat) (hn : n = l.length) :
  (convert 39 9 (.slice (some ⟨g, 0, none⟩) n cap)).run Tryz.prog W = .ok (.string ⟨l.toArray⟩) W := by
 subst hn;exact run_convert_bytes_back W 39 9 5 ⟨g, 0, none⟩ cap l Tryz.underlying39 Tryz.underlying5 Tryz.underlying9 (fun j hj => by
  have e : (⟨g, 0, none⟩ : Addr).add j = ⟨g, j, none⟩ := by unfold Addr.add; split <;> simp_all
  rw [e]; exact hc j hj)
theorem conv2 (w : World) (x y : UInt8) : (convert 39 9 (.slice (some ⟨w.heap.size, 0, none⟩) 2 2)).run Tryz.prog ((w.alloc (.cells #[.int .u8 x.toNat, .int .u8 y.toNat] 5)).drew) = .ok (.string ⟨#[x, y]⟩) ((w.alloc (.cells #[.int .u8 x.toNat, .int .u8 y.toNat] 5)).drew) :=
 conv_new _ _ 2 [x, y] (fun j hj => by
  have hj2 : j < 2 := hj
  match j, hj2 with
  | 0, _ => simp [go_sem]
  | 1, _ => simp [go_sem]) 2 rfl
attribute [local go_sem] conv2
theorem two_any (b : Int) (w : World) (h0 : 0 ≤ b) (h1 : b < 256) (ht : ∀ i : Nat, i < 16 → w.cell? ⟨4, i, none⟩ = some (.int .u8 (hexDig i).toNat)) :
  Calls Tryz.prog 103 #[.int .u8 b] w fun e w' => e = .returned (.string (hexB b)) ∧ Below w.heap.size w w' := by
 have c1 := ht (b / 16).toNat (by omega);have c2 := ht (b % 16).toNat (by omega);clear ht;go_enter Tryz.func103, Tryz.ntmps103;go_wp2
 go_region
 go_wp2;go_ret;exact ⟨rfl, (bA).drew⟩
def threeB (id : Int) : ByteArray := ⟨#[hexDig (id / 256 % 16).toNat, hexDig (id / 16 % 16).toNat, hexDig (id % 16).toNat]⟩
theorem conv3 (w : World) (x y z : UInt8) : (convert 39 9 (.slice (some ⟨w.heap.size, 0, none⟩) 3 3)).run Tryz.prog ((w.alloc (.cells #[.int .u8 x.toNat, .int .u8 y.toNat, .int .u8 z.toNat] 5)).drew) = .ok (.string ⟨#[x, y, z]⟩) ((w.alloc (.cells #[.int .u8 x.toNat, .int .u8 y.toNat, .int .u8 z.toNat] 5)).drew) :=
 conv_new _ _ 3 [x, y, z] (fun j hj => by
  have hj2 : j < 3 := hj
  match j, hj2 with
  | 0, _ => simp [go_sem]
  | 1, _ => simp [go_sem]
  | 2, _ => simp [go_sem]) 3 rfl
attribute [local go_sem] conv3
theorem i64_and15 (n : Int) : bits .and .i64 n 15 = n % 16 := by
 have h15 : (BitVec.ofInt 64 15).toNat = 2 ^ 4 - 1 := by decide
 have key : (BitVec.ofInt 64 n &&& BitVec.ofInt 64 15).toNat = (n % ((2 ^ 64 : Nat) : Int)).toNat % 2 ^ 4 := by
  rw [BitVec.toNat_and, BitVec.toNat_ofInt, h15, Nat.and_two_pow_sub_one_eq_mod]
 show IntKind.i64.wrap ((BitVec.ofInt 64 n &&& BitVec.ofInt 64 15).toNat : Nat) = n % 16;rw [key, IntKind.wrap_i64];omega
attribute [local go_sem] i64_and15
theorem three_any (id : Int) (w : World) (ht : ∀ i : Nat, i < 16 → w.cell? ⟨4, i, none⟩ = some (.int .u8 (hexDig i).toNat)) :
  Calls Tryz.prog 101 #[.int .i64 id] w fun e w' => e = .returned (.string (threeB id)) ∧ Below w.heap.size w w' := by
 have c1 := ht (id / 256 % 16).toNat (by omega);have c2 := ht (id / 16 % 16).toNat (by omega);have c3 := ht (id % 16).toNat (by omega);clear ht;go_enter Tryz.func101, Tryz.ntmps101;go_wp2
 go_region
 go_wp2;go_ret;exact ⟨rfl, (bA).drew⟩
def sumL (a : Nat) (l : List UInt8) : Nat := l.foldl (fun s b => (263 * s + b.toNat + 1) % 65521) a
theorem sumL_snoc (a : Nat) (l : List UInt8) (b : UInt8) : sumL a (l ++ [b]) = (263 * sumL a l + b.toNat + 1) % 65521 := by simp [sumL, List.foldl_append]
theorem sumL_append (a : Nat) (l m : List UInt8) : sumL a (l ++ m) = sumL (sumL a l) m := by simp [sumL, List.foldl_append]
theorem sumL_lt (a : Nat) (l : List UInt8) (h : a < 65521) : sumL a l < 65521 := by
 induction l generalizing a with
 | nil => exact h
 | cons b l ih => exact ih _ (Nat.mod_lt _ (by decide))
theorem take_snoc (s : ByteArray) (k : Nat) (h : k < s.size) : s.data.toList.take (k + 1) = s.data.toList.take k ++ [s[k]] := by
 rw [List.take_succ_eq_append_getElem (by simpa using h)]; rfl
theorem refsum_any (s : ByteArray) (w : World) (hs : s.size ≤ maxLen) :
  Calls Tryz.prog 140 #[.string s] w fun e w' => e = .returned (.int .i64 (sumL 1 s.data.toList)) ∧ w' = w := by
 unfold maxLen at hs;go_enter Tryz.func140, Tryz.ntmps140;go_wp2
 go_loop [3, 4] (fun n i => ∃ k : Nat, k ≤ s.size ∧ i = .int .i64 k ∧ n = .int .i64 (sumL 1 (s.data.toList.take k))) (fun _ i => s.size - (intOf i).toNat)
 case atStart => exact ⟨0, Nat.zero_le _, rfl, rfl⟩
 case round =>
  obtain ⟨k, hk, rfl, rfl⟩ := hrel;have hd := sumL_lt 1 (s.data.toList.take k) (by decide);by_cases hlt : k < s.size
  ·have hsn := sumL_snoc 1 (s.data.toList.take k) s[k];have hts := take_snoc s k hlt;have hb : s[k].toNat < 256 := s[k].toNat_lt;have HS : Hid (sumL 1 (s.data.toList.take (k + 1)) = (263 * sumL 1 (s.data.toList.take k) + s[k].toNat + 1) % 65521) := by rw [hts]; exact hsn
   clear hsn hts;go_wp2
   go_round
   case rel => exact ⟨k + 1, by omega, by go_num, by rw [HS.out]; go_num⟩
   case measure => simp [intOf]; omega
  ·go_wp2;go_ret;exact ⟨by rw [List.take_of_length_le (by simp; omega)]; rfl, rfl⟩
theorem sumOn_any (a : Nat) (s : ByteArray) (w : World) (hs : s.size ≤ maxLen) (ha : a < 65521) :
  Calls Tryz.prog 144 #[.int .u32 a, .string s] w fun e w' => e = .returned (.int .u32 (sumL a s.data.toList)) ∧ w' = w := by
 unfold maxLen at hs;go_enter Tryz.func144, Tryz.ntmps144;go_wp2
 go_loop [0, 5] (fun n i => ∃ k : Nat, k ≤ s.size ∧ i = .int .i64 k ∧ n = .int .u32 (sumL a (s.data.toList.take k))) (fun _ i => s.size - (intOf i).toNat)
 case atStart => exact ⟨0, Nat.zero_le _, rfl, rfl⟩
 case round =>
  obtain ⟨k, hk, rfl, rfl⟩ := hrel;have hd := sumL_lt a (s.data.toList.take k) ha;by_cases hlt : k < s.size
  ·have hsn := sumL_snoc a (s.data.toList.take k) s[k];have hts := take_snoc s k hlt;have hb : s[k].toNat < 256 := s[k].toNat_lt;have HS : Hid (sumL a (s.data.toList.take (k + 1)) = (263 * sumL a (s.data.toList.take k) + s[k].toNat + 1) % 65521) := by rw [hts]; exact hsn
   clear hsn hts;go_wp2
   go_round
   case rel => exact ⟨k + 1, by omega, by go_num, by rw [HS.out]; go_num⟩
   case measure => simp [intOf]; omega
  ·go_wp2;go_ret;exact ⟨by rw [List.take_of_length_le (by simp; omega)]; rfl, rfl⟩
def joinL (l : List ByteArray) : List UInt8 := (l.map fun s => s.data.toList).flatten
theorem joinL_snoc (l : List ByteArray) (s : ByteArray) : joinL (l ++ [s]) = joinL l ++ s.data.toList := by simp [joinL]
theorem take_snocB (l : List ByteArray) (k : Nat) (h : k < l.length) : l.take (k + 1) = l.take k ++ [l.getD k ByteArray.empty] := by
 rw [List.take_succ_eq_append_getElem h]; simp [List.getD, List.getElem?_eq_getElem h]
theorem octsum_any (b : Nat) (l : List ByteArray) (c : Nat) (w : World) (hl : l.length < 9223372036854775807) (hs : ∀ s ∈ l, s.size ≤ maxLen)
  (hc : ∀ i, i < l.length → w.cell? ⟨b, i, none⟩ = some (.string (l.getD i ByteArray.empty))) :
  Calls Tryz.prog 102 #[.slice (some ⟨b, 0, none⟩) l.length c] w fun e w' => e = .returned (.int .u16 (sumL 1 (joinL l))) ∧ w' = w := by
 go_enter Tryz.func102, Tryz.ntmps102;go_wp2
 go_loop [3, 8] (fun n i => ∃ k : Nat, k ≤ l.length ∧ i = .int .i64 k ∧ n = .int .u32 (sumL 1 (joinL (l.take k)))) (fun _ i => l.length - (intOf i).toNat)
 case atStart => exact ⟨0, Nat.zero_le _, rfl, rfl⟩
 case round =>
  obtain ⟨k, hk, rfl, rfl⟩ := hrel;have hd := sumL_lt 1 (joinL (l.take k)) (by decide);by_cases hlt : k < l.length
  ·have hck := hc k hlt;have hsk : (l.getD k ByteArray.empty).size ≤ maxLen := hs _ (by simp [List.getD, List.getElem?_eq_getElem hlt]);have HS : Hid (sumL 1 (joinL (l.take (k + 1))) = sumL (sumL 1 (joinL (l.take k))) (l.getD k ByteArray.empty).data.toList) := by
    rw [take_snocB l k hlt, joinL_snoc, sumL_append]; rfl
   generalize l.getD k ByteArray.empty = t at *
   generalize hk1 : sumL 1 (joinL (l.take (k + 1))) = sk1 at *
   generalize sumL 1 (joinL (l.take k)) = sk at *
   have HK : Hid _ := hk1;clear hk1;clear hc hs;go_wp2_with fail;refine (sumOn_any _ _ _ hsk hd).mono ?_;rintro e w' ⟨rfl, rfl⟩;go_wp2_with fail
   go_round
   case rel => exact ⟨k + 1, by omega, by go_num, by rw [HK.out, HS.out]⟩
   case measure => simp [intOf]; omega
  ·go_wp2;go_ret;exact ⟨by rw [List.take_of_length_le (by omega)]; rfl, rfl⟩
def frontB (id : Int) : ByteArray := ⟨#[118, 49]⟩ ++ threeB id
def passSum (secret : ByteArray) (id : Int) : Nat := sumL 1 (secret.data.toList ++ (frontB id).data.toList)
def passB (secret : ByteArray) (id : Int) : ByteArray :=
 frontB id ++ hexB ((passSum secret id : Int) % 256) ++ hexB ((passSum secret id : Int) / 256)
theorem front_of (id : Int) (h0 : 0 ≤ id) (h1 : id < 4096) : ({ data := #[118, 49] } ++ hexB (id / 16) ++ (hexB (id % 16)).extract 1 2 : ByteArray) = frontB id := by
 unfold frontB hexB threeB;rw [show id / 16 / 16 = id / 256 % 16 by omega, show id % 16 % 16 = id % 16 by omega];generalize hexDig (id / 256 % 16).toNat = x;generalize hexDig (id / 16 % 16).toNat = y;generalize hexDig (id % 16 / 16).toNat = z;generalize hexDig (id % 16).toNat = v;rfl
theorem front_size (id : Int) : (frontB id).size = 5 := rfl
attribute [local go_sem] hexB_size
theorem refpass_any (secret : ByteArray) (id : Int) (w : World) (hs : secret.size < 9223372036854775800) (h0 : 0 ≤ id) (h1 : id < 4096) :
  Calls Tryz.prog 88 #[.string secret, .int .i64 id] w fun e w' => e = .returned (.string (passB secret id)) ∧ ∃ nq, w' = w.drewN nq := by
 have hf := front_of id h0 h1;have hfs := front_size id;go_enter Tryz.func88, Tryz.ntmps88;go_wp2_with fail;refine (hex_any _ _ (by omega) (by omega)).mono ?_;rintro e w1 ⟨rfl, q1, rfl⟩;go_wp2_with fail;refine (hex_any _ _ (by omega) (by omega)).mono ?_;rintro e w1 ⟨rfl, q2, rfl⟩;go_wp2_with fail;refine (refsum_any _ _ ?_).mono ?_
 ·unfold maxLen; simp [ByteArray.size_append]; omega
 rintro e w1 ⟨rfl, rfl⟩;rw [show sumL 1 (secret ++ frontB id).data.toList = passSum secret id by unfold passSum; simp];have hb : passSum secret id < 65521 := sumL_lt _ _ (by decide);have HB : Hid (frontB id ++ hexB ((passSum secret id : Int) % 256) ++ hexB ((passSum secret id : Int) / 256) = passB secret id) := rfl;generalize passSum secret id = n at *
 go_wp2_with fail;refine (hex_any _ _ (by omega) (by omega)).mono ?_;rintro e w1 ⟨rfl, q3, rfl⟩;go_wp2_with fail;refine (hex_any _ _ (by omega) (by omega)).mono ?_;rintro e w1 ⟨rfl, q4, rfl⟩;go_wp2_with fail;go_ret;exact ⟨congrArg (fun b => Ending.returned (Value.string b)) HB.out, _, rfl⟩
end Go.Proofs.YtmnajomkfnkmeaaGreatDoor
namespace Go.Proofs.YtmnajomkfnkmeaaGreatDoor
open Go.RowKit
attribute [local go_sem] hexB_size
def DigitsIn (w : World) : Prop := 4 < w.heap.size ∧ ∀ i : Nat, i < 16 → w.cell? ⟨4, i, none⟩ = some (.int .u8 (hexDig i).toNat)
theorem DigitsIn.below {w w1 : World} (h : DigitsIn w) (hb : Below w.heap.size w w1) : DigitsIn w1 :=
 ⟨Nat.lt_of_lt_of_le h.1 hb.size, fun i hi => (hb.cell (p := ⟨4, i, none⟩) h.1).trans (h.2 i hi)⟩
theorem make_ok (secret : ByteArray) (id : Int) (w : World) (h0 : 0 ≤ id) (h1 : id < 4096) (hs : secret.size < 9223372036854775800) (ht : DigitsIn w) :
  Calls Tryz.prog 52 #[.string secret, .int .i64 id] w fun e w' => e = .returned (.tuple #[.string (passB secret id), .nilIface]) ∧ Below w.heap.size w w' := by
 have HT : Hid (DigitsIn w) := ht;clear ht;go_enter Tryz.func52, Tryz.ntmps52;go_wp2_with fail;refine (three_any _ _ HT.out.2).mono ?_;rintro e w1 ⟨rfl, hb1⟩;go_wp2_with fail;have Hs : ∀ t ∈ [secret, frontB id], t.size ≤ maxLen := by
  intro t ht; simp at ht; rcases ht with rfl | rfl
  ·unfold maxLen; omega
  ·rw [front_size]; decide
 refine (octsum_any w1.heap.size [secret, frontB id] 2 _ (by simp) Hs ?_).mono ?_
 ·intro i hi;have hi2 : i < 2 := hi
  match i, hi2 with
  | 0, _ => simp [go_sem]
  | 1, _ => simp [go_sem]; rfl
 rintro e w2 ⟨rfl, rfl⟩;rw [show sumL 1 (joinL [secret, frontB id]) = passSum secret id by simp [joinL, passSum]];have hb : passSum secret id < 65521 := sumL_lt _ _ (by decide);have HB : Hid (frontB id ++ hexB ((passSum secret id : Int) % 256) ++ hexB ((passSum secret id : Int) / 256) = passB secret id) := rfl;generalize passSum secret id = n at *
 have HT1 : Hid (DigitsIn (w1.alloc (Obj.cells #[Value.string secret, Value.string ({ data := #[118, 49] } ++ threeB id)] 9))) := HT.out.below (hb1.alloc hb1.size _);have hbX : Below w.heap.size w (w1.alloc (Obj.cells #[Value.string secret, Value.string ({ data := #[118, 49] } ++ threeB id)] 9)) := hb1.alloc hb1.size _;generalize w1.alloc (Obj.cells #[Value.string secret, Value.string ({ data := #[118, 49] } ++ threeB id)] 9) = w2 at *
 go_wp2_with fail;refine (two_any _ _ (by omega) (by omega) HT1.out.2).mono ?_;rintro e w3 ⟨rfl, hb3⟩;go_wp2_with fail;have HT3 : Hid (DigitsIn w3) := HT1.out.below hb3;refine (two_any _ _ (by omega) (by omega) HT3.out.2).mono ?_;rintro e w4 ⟨rfl, hb4⟩;go_wp2_with fail;go_ret2;refine ⟨?_, hbX.trans ((hb3.trans (hb4.mono hb3.size)).mono hbX.size)⟩;exact congrArg (fun b => Ending.returned (Value.tuple #[.string b, .nilIface])) HB.out
theorem pass_ok (secret : ByteArray) (id : Int) (w : World) (h0 : 0 ≤ id) (h1 : id < 4096) (hs : secret.size < 9223372036854775800) (ht : DigitsIn w) :
  Calls Tryz.prog 16 #[.string secret, .int .i64 id] w fun e w' => e = .returned (.tuple #[.string (passB secret id), .int .i64 0]) ∧ Below w.heap.size w w' := by
 have HT : Hid (DigitsIn w) := ht;clear ht;go_enter Tryz.func16, Tryz.ntmps16;go_wp2_with fail;refine (make_ok _ _ _ h0 h1 hs HT.out).mono ?_;rintro e w1 ⟨rfl, hb1⟩;go_wp2_with fail;go_ret2;exact ⟨rfl, hb1⟩
end Go.Proofs.YtmnajomkfnkmeaaGreatDoor
