import Derived.Test.YtmnajomkfnkmeaaGreatDoorNum
import Derived.Test.YtmnajomkfnkmeaaGreatDoorShelf
set_option maxHeartbeats 400000
namespace Go.Proofs.YtmnajomkfnkmeaaGreatDoor
open Go.RowKit
attribute [local go_sem] nA_size zA_size
attribute [local go_sem] summedA_size headA_size sectorA_size recA_size
theorem summed_any (s : ByteArray) (w : World) (h1 : s.size ≤ 9223372036854775000) :
  Calls Tryz.prog 148 #[.string s] w fun e w' => e = .returned (.string (summedA s)) ∧ Below w.heap.size w w' := by
 have hb := sumA_lt s;have HS : Hid (s ++ nA 2 (sumA s) = summedA s) := rfl;go_enter Tryz.func148, Tryz.ntmps148;go_wp2_with fail;refine (octsum_any w.heap.size [s] 1 _ (by simp) (by simp; unfold maxLen; omega) ?_).mono ?_
 ·intro i hi;have hi2 : i < 1 := hi
  match i, hi2 with
  | 0, _ => simp [go_sem]
 rintro e w2 ⟨rfl, rfl⟩;rw [show sumL 1 (joinL [s]) = sumA s by simp [joinL, sumA]];generalize sumA s = n at *
 go_wp2_with fail;refine (Two_any _ _ (by omega) (by omega)).mono ?_;rintro e w2 ⟨rfl, hb2⟩;go_wp2_with fail;go_ret;exact ⟨congrArg (fun b => Ending.returned (Value.string b)) HS.out, (bA).trans (hb2.mono (by simp))⟩
theorem repeat_zero (c : Nat) : (⟨(Lib.repeatL [0] c).toArray⟩ : ByteArray) = zA c := by
 have : Lib.repeatL [(0 : UInt8)] c = List.replicate c 0 := by
  have := Lib.repeatL_replicate (0 : UInt8) 1 c;simpa using this
 rw [this]; simp [zA]
theorem fill_any (t : ByteArray) (n : Nat) (w : World) (h1 : t.size ≤ n) (h2 : n ≤ 140737488355328) :
  Calls Tryz.prog 105 #[.string t, .int .i64 n] w fun e w' => e = .returned (.string (t ++ zA (n - t.size))) ∧ Below w.heap.size w w' := by
 have hz := repeat_zero (n - t.size);have hs1 : ({ data := #[0] } : ByteArray).size = 1 := rfl;go_enter Tryz.func105, Tryz.ntmps105;go_wp2_with fail;rw [show (n : Int) - (t.size : Int) = ((n - t.size : Nat) : Int) by omega];refine (Tryz.strings_Repeat { data := #[0] } (n - t.size) w (by omega) (by rw [hs1]; omega)).mono ?_;rintro e w1 ⟨rfl, hb1⟩;rw [show ({ data := #[0] } : ByteArray).data.toList = [0] from rfl, hz];go_wp2_with fail;go_ret;exact ⟨rfl, hb1⟩
theorem fill32 (t : ByteArray) (w : World) (h1 : t.size ≤ 32) :
  Calls Tryz.prog 105 #[.string t, .int .i64 32] w fun e w' => e = .returned (.string (t ++ zA (32 - t.size))) ∧ Below w.heap.size w w' := fill_any t 32 w h1 (by decide)
theorem fill64 (t : ByteArray) (w : World) (h1 : t.size ≤ 64) :
  Calls Tryz.prog 105 #[.string t, .int .i64 64] w fun e w' => e = .returned (.string (t ++ zA (64 - t.size))) ∧ Below w.heap.size w w' := fill_any t 64 w h1 (by decide)
theorem head_any (g r : Int) (w : World) (h0 : 0 ≤ g) (h1 : g < 4294967296) (h2 : 0 ≤ r) (h3 : r < 256) :
  Calls Tryz.prog 106 #[.int .u32 g, .int .u8 r] w fun e w' => e = .returned (.string (sectorA g r)) ∧ Below w.heap.size w w' := by
 have HS : Hid (summedA ({ data := #[68, 75] } ++ nA 4 g ++ nA 1 r) = headA g r) := rfl;go_enter Tryz.func106, Tryz.ntmps106;go_wp2_with fail;refine (Four_any _ _ h0 h1).mono ?_;rintro e w1 ⟨rfl, hb1⟩;go_wp2_with fail;refine (One_any _ _ h2 h3).mono ?_;rintro e w2 ⟨rfl, hb2⟩;go_wp2_with fail;refine (summed_any _ _ (by simp [ByteArray.size_append, nA_size]; decide)).mono ?_;rintro e w3 ⟨rfl, hb3⟩;rw [HS.out];go_wp2_with fail;refine (fill32 (headA g r) w3 (by rw [headA_size]; decide)).mono ?_;rintro e w4 ⟨rfl, hb4⟩;rw [headA_size];go_wp2_with fail;go_ret;exact ⟨rfl, hb1.trans ((hb2.trans ((hb3.trans (hb4.mono hb3.size)).mono hb2.size)).mono hb1.size)⟩
theorem record_any (g k : Int) (p : ByteArray) (w : World) (h0 : 0 ≤ g) (h1 : g < 4294967296) (h2 : 0 ≤ k) (h3 : k < 65536) (h4 : p.size < 65536) :
  Calls Tryz.prog 107 #[.int .u32 g, .int .u16 k, .string p] w fun e w' => e = .returned (.string (recA g k p)) ∧ Below w.heap.size w w' := by
 have HS : Hid (summedA (nA 2 p.size ++ nA 4 g ++ nA 2 k ++ p) = recA g k p) := rfl;go_enter Tryz.func107, Tryz.ntmps107;go_wp2_with fail;refine (Two_any _ _ (by omega) (by omega)).mono ?_;rintro e w1 ⟨rfl, hb1⟩;go_wp2_with fail;refine (Four_any _ _ h0 h1).mono ?_;rintro e w2 ⟨rfl, hb2⟩;go_wp2_with fail;refine (Two_any _ _ h2 h3).mono ?_;rintro e w3 ⟨rfl, hb3⟩;go_wp2_with fail;refine (summed_any _ _ (by simp [ByteArray.size_append, nA_size]; omega)).mono ?_;rintro e w4 ⟨rfl, hb4⟩;rw [HS.out];go_wp2_with fail;go_ret;exact ⟨rfl, hb1.trans ((hb2.trans ((hb3.trans (hb4.mono hb3.size)).mono hb2.size)).mono hb1.size)⟩
def emptyRec : ByteArray := recA 1 0 ⟨#[0]⟩
theorem emptyRec_size : emptyRec.size = 11 := rfl
def frontA : ByteArray := sectorA 1 0 ++ zA 32 ++ emptyRec
theorem frontA_size : frontA.size = 75 := rfl
def blankA (n : Nat) : ByteArray := frontA ++ zA (32 * n - 75)
attribute [local go_sem] emptyRec_size frontA_size
theorem isSize_any (n : Int) (w : World) :
  Calls Tryz.prog 104 #[.int .i64 n] w fun e w' => e = .returned (.bool (decide (12 ≤ n) && decide (n ≤ 200))) ∧ w' = w := by
 go_enter Tryz.func104, Tryz.ntmps104;go_wp2
 all_goals go_ret
 all_goals (simp_all; try omega)
theorem blank_err (n : Int) (v : Value) (w : World) (h : n < 12 ∨ 200 < n) (he : w.cell? ⟨1, 0, none⟩ = some v) :
  Calls Tryz.prog 53 #[.int .i64 n] w fun e w' => e = .returned (.tuple #[.string ByteArray.empty, v]) ∧ Below w.heap.size w w' := by
 have hb : (decide (12 ≤ n) && decide (n ≤ 200)) = false := by
  rcases h with h | h
  ·rw [decide_eq_false (by omega)]; rfl
  ·rw [decide_eq_false (show ¬ n ≤ 200 by omega), Bool.and_false]
 go_enter Tryz.func53, Tryz.ntmps53;go_wp2_with fail;refine (isSize_any _ _).mono ?_;rintro e w1 ⟨rfl, rfl⟩;rw [hb];go_wp2_with fail
 go_quiet (fail)
 go_wp2;go_ret2;exact ⟨rfl, below_drewN (Below.refl _ _) _⟩
theorem blank_ok (n : Nat) (w : World) (h0 : 12 ≤ n) (h1 : n ≤ 200) :
  Calls Tryz.prog 53 #[.int .i64 n] w fun e w' => e = .returned (.tuple #[.string (blankA n), .nilIface]) ∧ Below w.heap.size w w' := by
 have hb : (decide ((12 : Int) ≤ n) && decide ((n : Int) ≤ 200)) = true := by
  rw [decide_eq_true (by omega), decide_eq_true (by omega)]; rfl
 go_enter Tryz.func53, Tryz.ntmps53;go_wp2_with fail;refine (isSize_any _ _).mono ?_;rintro e w0 ⟨rfl, rfl⟩;rw [hb];go_wp2_with fail;refine (head_any 1 0 w0 (by decide) (by decide) (by decide) (by decide)).mono ?_;rintro e w1 ⟨rfl, hb1⟩;go_wp2_with fail;refine (fill64 (sectorA 1 0) w1 (by rw [sectorA_size]; decide)).mono ?_;rintro e w2 ⟨rfl, hb2⟩;rw [sectorA_size];go_wp2_with fail;refine (record_any 1 0 ⟨#[0]⟩ w2 (by decide) (by decide) (by decide) (by decide) (by decide)).mono ?_;rintro e w3 ⟨rfl, hb3⟩;rw [show recA 1 0 ⟨#[0]⟩ = emptyRec from rfl];go_wp2_with fail;rw [show sectorA 1 0 ++ zA (64 - 32) ++ emptyRec = frontA from rfl];rw [show (n : Int) * 32 = ((32 * n : Nat) : Int) by omega];refine (fill_any frontA (32 * n) w3 (by rw [frontA_size]; omega) (by omega)).mono ?_;rintro e w4 ⟨rfl, hb4⟩;rw [frontA_size, show frontA ++ zA (32 * n - 75) = blankA n from rfl];go_wp2_with fail;go_ret2;exact ⟨rfl, hb1.trans ((hb2.trans ((hb3.trans (hb4.mono hb3.size)).mono hb2.size)).mono hb1.size)⟩
theorem format_err (n : Int) (t : TypeId) (v : Value) (w : World) (h : n < 12 ∨ 200 < n) (he : w.cell? ⟨1, 0, none⟩ = some (.iface t v)) :
  Calls Tryz.prog 17 #[.int .i64 n] w fun e w' => e = .returned (.tuple #[.string ByteArray.empty, .int .i64 1]) ∧ Below w.heap.size w w' := by
 have HE : Hid (w.cell? ⟨1, 0, none⟩ = some (.iface t v)) := he;clear he;go_enter Tryz.func17, Tryz.ntmps17;go_wp2_with fail;refine (blank_err _ _ _ h HE.out).mono ?_;rintro e w1 ⟨rfl, hb1⟩;go_wp2_with fail;go_ret2;exact ⟨rfl, hb1⟩
theorem format_ok (n : Nat) (w : World) (h0 : 12 ≤ n) (h1 : n ≤ 200) :
  Calls Tryz.prog 17 #[.int .i64 n] w fun e w' => e = .returned (.tuple #[.string (blankA n), .int .i64 0]) ∧ Below w.heap.size w w' := by
 go_enter Tryz.func17, Tryz.ntmps17;go_wp2_with fail;refine (blank_ok _ _ h0 h1).mono ?_;rintro e w1 ⟨rfl, hb1⟩;go_wp2_with fail;go_ret2;exact ⟨rfl, hb1⟩
end Go.Proofs.YtmnajomkfnkmeaaGreatDoor
