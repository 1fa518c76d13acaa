import Derived.Test.YtmnajomkfnkmeaaGreatDoorStaD
import Derived.Test.YtmnajomkfnkmeaaGreatDoorLay
namespace Go.Proofs.YtmnajomkfnkmeaaGreatDoor
open Go.RowKit
attribute [local go_sem] ofL_size
def half (n : Nat) : Nat := (n - 2) / 2 * 32
def beginOf (n r : Nat) : Nat := 64 + r * half n
theorem two_end {a b c d : Int} (h1 : a = c) (h2 : b = d) : Ending.returned (.tuple #[.int .i64 a, .int .i64 b]) = .returned (.tuple #[.int .i64 c, .int .i64 d]) := by rw [h1, h2]
set_option maxHeartbeats 400000 in
theorem region_any (n r : Nat) (w : World) (h0 : 12 ≤ n) (h1 : n ≤ 200) (hr : r ≤ 1) :
    Calls Tryz.prog 160 #[.int .i64 n, .int .u8 r] w fun e w' => e = .returned (.tuple #[.int .i64 (beginOf n r), .int .i64 (beginOf n r + half n : Nat)]) ∧ w' = w := by
  have hq : ((n : Int) - 2).tdiv 2 = (((n - 2) / 2 : Nat) : Int) := by
    rw [show (n : Int) - 2 = ((n - 2 : Nat) : Int) by omega]
    rfl
  have hh : (n - 2) / 2 ≤ 99 := by omega
  have HB : Hid (beginOf n r = 64 + r * ((n - 2) / 2 * 32) ∧ half n = (n - 2) / 2 * 32) := ⟨rfl, rfl⟩
  generalize (n - 2) / 2 = q at *
  go_enter Tryz.func160, Tryz.ntmps160
  go_wp2_with fail
  go_ret2
  have hb := HB.out
  rw [hb.1, hb.2]
  refine ⟨two_end ?_ ?_, rfl⟩
  · rcases (show r = 0 ∨ r = 1 by omega) with rfl | rfl <;> (unfold wrap64; omega)
  · rcases (show r = 0 ∨ r = 1 by omega) with rfl | rfl <;> (unfold wrap64; omega)
/-- a disk's bytes are so many sectors -/
def sectorsOk (n : Nat) : Bool := decide (n % 32 = 0) && (decide (12 ≤ n / 32) && decide (n / 32 ≤ 200))
set_option maxHeartbeats 400000 in
theorem sectors_ok (n : Nat) (w : World) (h : sectorsOk n = true) :
    Calls Tryz.prog 166 #[.int .i64 n] w fun e w' => e = .returned (.tuple #[.int .i64 (n / 32 : Nat), .nilIface]) ∧ w' = w := by
  unfold sectorsOk at h
  simp only [Bool.and_eq_true, decide_eq_true_eq] at h
  obtain ⟨h0, h1, h2⟩ := h
  have hq : (n : Int).tdiv 32 = ((n / 32 : Nat) : Int) := rfl
  have hm : (n : Int).tmod 32 = 0 := by rw [show (n : Int).tmod 32 = ((n % 32 : Nat) : Int) from rfl, h0]; rfl
  have hb : (decide ((12 : Int) ≤ (n / 32 : Nat)) && decide (((n / 32 : Nat) : Int) ≤ 200)) = true := by
    rw [decide_eq_true (by omega), decide_eq_true (by omega)]; rfl
  clear h0
  generalize n / 32 = q at *
  go_enter Tryz.func166, Tryz.ntmps166
  go_wp2_with fail
  refine (isSize_any _ _).mono ?_
  rintro e w1 ⟨rfl, rfl⟩
  rw [hb]
  go_wp2_with fail
  go_ret2
  exact ⟨rfl, rfl⟩
set_option maxHeartbeats 400000 in
theorem sectors_no (n : Nat) (v : Value) (w : World) (he : w.cell? ⟨1, 0, none⟩ = some v) (hn : n ≤ 9223372036854775807) (h : sectorsOk n = false) :
    Calls Tryz.prog 166 #[.int .i64 n] w fun e w' => e = .returned (.tuple #[.int .i64 0, v]) ∧ Below w.heap.size w w' := by
  have hq : (n : Int).tdiv 32 = ((n / 32 : Nat) : Int) := rfl
  have hm : (n : Int).tmod 32 = ((n % 32 : Nat) : Int) := rfl
  have HW : Hid (wrap64 ((n / 32 : Nat) : Int) = ((n / 32 : Nat) : Int)) := by
    show wrap64 ((n / 32 : Nat) : Int) = ((n / 32 : Nat) : Int)
    unfold wrap64; omega
  clear hn
  by_cases h0 : n % 32 = 0
  · have hb : (decide ((12 : Int) ≤ (n / 32 : Nat)) && decide (((n / 32 : Nat) : Int) ≤ 200)) = false := by
      unfold sectorsOk at h
      rw [decide_eq_true h0, Bool.true_and] at h
      rw [← h]
      congr 1
      · rw [Bool.eq_iff_iff]; simp; omega
      · rw [Bool.eq_iff_iff]; simp; omega
    rw [h0] at hm
    clear h h0
    generalize n / 32 = q at *
    go_enter Tryz.func166, Tryz.ntmps166
    go_wp2_with fail
    refine (isSize_any _ _).mono ?_
    rintro e w1 ⟨rfl, rfl⟩
    rw [HW.out, hb]
    go_wp2_with fail
    go_quiet (fail)
    go_wp2
    go_ret2
    exact ⟨rfl, below_drewN (Below.refl _ _) _⟩
  · have hne : ((n % 32 : Nat) : Int) ≠ 0 := by omega
    clear h h0
    generalize n / 32 = q at *
    generalize n % 32 = m at *
    go_enter Tryz.func166, Tryz.ntmps166
    go_wp2_with fail
    go_quiet (fail)
    go_wp2
    go_ret2
    exact ⟨rfl, below_drewN (Below.refl _ _) _⟩
end Go.Proofs.YtmnajomkfnkmeaaGreatDoor
