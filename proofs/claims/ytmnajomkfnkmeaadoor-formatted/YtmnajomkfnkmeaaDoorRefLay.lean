import Derived.Test.YtmnajomkfnkmeaaDoorLay
import Derived.Deep.RegionHeld3
namespace Go.Proofs.YtmnajomkfnkmeaaDoor
open Go.RowKit
attribute [local go_sem] nA_size zA_size summedA_size headA_size sectorA_size recA_size

theorem step2 {w0 w1 w2 : World} {b : Nat} {u v : Value} (h : w1.cell? ⟨b, 0, none⟩ = some u ∧ w1.cell? ⟨b, 1, none⟩ = some v ∧ b < w1.heap.size ∧ Below w0.heap.size w0 w1) (hb : Below w1.heap.size w1 w2) :
    w2.cell? ⟨b, 0, none⟩ = some u ∧ w2.cell? ⟨b, 1, none⟩ = some v ∧ b < w2.heap.size ∧ Below w0.heap.size w0 w2 :=
  ⟨(hb.cell (p := ⟨b, 0, none⟩) h.2.2.1).trans h.1, (hb.cell (p := ⟨b, 1, none⟩) h.2.2.1).trans h.2.1, Nat.lt_of_lt_of_le h.2.2.1 hb.size, h.2.2.2.trans (hb.mono h.2.2.2.size)⟩

set_option maxHeartbeats 1000000 in
theorem sector_any (g r : Int) (w : World) (h0 : 0 ≤ g) (h1 : g ≤ 9223372036854775807) (h2 : 0 ≤ r) (h3 : r ≤ 9223372036854775807) :
    Calls Tryd.prog 15 #[.agg #[.int .i64 g, .int .i64 r]] w fun e w' => e = .returned (.string (sectorA g r)) ∧ Below w.heap.size w w' := by
  have HS : Hid (summedA ({ data := #[68, 75] } ++ nA 4 g ++ nA 1 r) = headA g r) := rfl
  go_enter Tryd.func15, Tryd.ntmps15
  go_wp2_with fail
  go_region_held3 (fun w' => w'.cell? ⟨w.heap.size, 0, none⟩ = some (.int .i64 g) ∧ w'.cell? ⟨w.heap.size, 1, none⟩ = some (.int .i64 r) ∧ w.heap.size < w'.heap.size ∧ Below w.heap.size w w')
    (first
      | exact step2 (by assumption) (by assumption)
      | (refine ⟨by simp [go_sem], by simp [go_sem], by simp, (Below.alloc (Below.refl _ _) (Nat.le_refl _) _).drew⟩))
    (first
      | (go_at_call_of 26 (Value.int .i64 4); refine (N4 _ _ h0 h1).mono ?_; rintro e w' ⟨rfl, hbN⟩)
      | (go_at_call_of 26 (Value.int .i64 1); refine (N1 _ _ h2 h3).mono ?_; rintro e w' ⟨rfl, hbN⟩))
  rename_i hHeld
  obtain ⟨-, -, -, hb2⟩ := hHeld
  clear hbN
  go_wp2_with fail
  refine (refsum_any _ _ (by simp [ByteArray.size_append, nA_size]; decide)).mono ?_
  rintro e w3 ⟨rfl, rfl⟩
  have hsm := sumA_lt ({ data := #[68, 75] } ++ nA 4 g ++ nA 1 r)
  rw [show sumL 1 ({ data := #[68, 75] } ++ nA 4 g ++ nA 1 r : ByteArray).data.toList = sumA ({ data := #[68, 75] } ++ nA 4 g ++ nA 1 r) from rfl]
  have HS2 : Hid ({ data := #[68, 75] } ++ nA 4 g ++ nA 1 r ++ nA 2 (sumA ({ data := #[68, 75] } ++ nA 4 g ++ nA 1 r)) = headA g r) := HS
  generalize sumA ({ data := #[68, 75] } ++ nA 4 g ++ nA 1 r) = m at *
  go_wp2_with fail
  refine (N2 _ _ (by omega) (by omega)).mono ?_
  rintro e w4 ⟨rfl, hb4⟩
  go_wp2_with fail
  refine (noughts_any 23 _ (by decide)).mono ?_
  rintro e w5 ⟨rfl, hb5⟩
  go_wp2_with fail
  go_ret
  refine ⟨congrArg (fun b => Ending.returned (Value.string (b ++ zA 23))) HS2.out, hb2.trans ((hb4.trans (hb5.mono hb4.size)).mono hb2.size)⟩

set_option maxHeartbeats 400000 in
theorem refrecord_any (g k : Int) (p : ByteArray) (w : World) (h0 : 0 ≤ g) (h1 : g ≤ 9223372036854775807) (h2 : 0 ≤ k) (h3 : k ≤ 9223372036854775807) (h4 : p.size ≤ 9223372036854775000) :
    Calls Tryd.prog 17 #[.int .i64 g, .int .i64 k, .string p] w fun e w' => e = .returned (.string (recA g k p)) ∧ Below w.heap.size w w' := by
  have hsm := sumA_lt (nA 2 p.size ++ nA 4 g ++ nA 2 k ++ p)
  have HS2 : Hid (nA 2 p.size ++ nA 4 g ++ nA 2 k ++ p ++ nA 2 (sumA (nA 2 p.size ++ nA 4 g ++ nA 2 k ++ p)) = recA g k p) := rfl
  have HU : Hid (sumL 1 (nA 2 p.size ++ nA 4 g ++ nA 2 k ++ p : ByteArray).data.toList = sumA (nA 2 p.size ++ nA 4 g ++ nA 2 k ++ p)) := rfl
  go_enter Tryd.func17, Tryd.ntmps17
  go_wp2_with fail
  refine (N2 _ _ (by omega) (by omega)).mono ?_
  rintro e w1 ⟨rfl, hb1⟩
  go_wp2_with fail
  refine (N4 _ _ h0 h1).mono ?_
  rintro e w2 ⟨rfl, hb2⟩
  go_wp2_with fail
  refine (N2 _ _ h2 h3).mono ?_
  rintro e w3 ⟨rfl, hb3⟩
  go_wp2_with fail
  refine (refsum_any _ _ (by simp [ByteArray.size_append, nA_size]; unfold maxLen; omega)).mono ?_
  rintro e w4 ⟨rfl, rfl⟩
  rw [HU.out]
  generalize sumA (nA 2 p.size ++ nA 4 g ++ nA 2 k ++ p) = m at *
  go_wp2_with fail
  refine (N2 _ _ (by omega) (by omega)).mono ?_
  rintro e w5 ⟨rfl, hb5⟩
  go_wp2_with fail
  go_ret
  exact ⟨congrArg (fun b => Ending.returned (Value.string b)) HS2.out, hb1.trans ((hb2.trans ((hb3.trans (hb5.mono hb3.size)).mono hb2.size)).mono hb1.size)⟩

/-! a table of all numbers in which nothing is live -/
def zeroSess : List Value := [.bool false, .int .i64 0, .int .i64 0, .int .i64 0, .slice none 0 0, .slice none 0 0]
def Dead (w : World) (b : Nat) : Prop := b < w.heap.size ∧ ∀ i j, i < 4096 → j < 6 → w.cell? ⟨b, 6 * i + j, none⟩ = zeroSess[j]?
theorem Dead.below {w w1 : World} {b : Nat} (h : Dead w b) (hb : Below w.heap.size w w1) : Dead w1 b :=
  ⟨Nat.lt_of_lt_of_le h.1 hb.size, fun i j hi hj => (hb.cell (p := ⟨b, 6 * i + j, none⟩) h.1).trans (h.2 i j hi hj)⟩
theorem Dead.six {w : World} {b : Nat} (h : Dead w b) (k : Nat) (hk : k < 4096) :
    w.cell? ⟨b, k * 6, none⟩ = some (.bool false) ∧ w.cell? ⟨b, k * 6 + 1, none⟩ = some (.int .i64 0) ∧ w.cell? ⟨b, k * 6 + 2, none⟩ = some (.int .i64 0) ∧
    w.cell? ⟨b, k * 6 + 3, none⟩ = some (.int .i64 0) ∧ w.cell? ⟨b, k * 6 + 4, none⟩ = some (.slice none 0 0) ∧ w.cell? ⟨b, k * 6 + 5, none⟩ = some (.slice none 0 0) := by
  have e := h.2 k
  rw [Nat.mul_comm k 6]
  exact ⟨e 0 hk (by decide), e 1 hk (by decide), e 2 hk (by decide), e 3 hk (by decide), e 4 hk (by decide), e 5 hk (by decide)⟩
theorem info_sess : (Tryd.prog.info? 57).map (fun i => (i.zero, i.size, i.bytes)) = some (some (.agg zeroSess.toArray), 6, 80) := by kernel_rfl
def table0 : Array Value := madeCells zeroSess.toArray 24576
theorem zero_cells : (Value.agg zeroSess.toArray).cells = zeroSess.toArray := by rfl
theorem make_table (w : World) : (Instr.makeSlice 37 (.int .i64 4096) (.int .i64 4096)).run Tryd.prog w = .ok (.slice (some ⟨w.heap.size, 0, none⟩) 4096 4096) (w.alloc (.cells table0 57)) := by
  obtain ⟨i, hi, hzz⟩ := Option.map_eq_some_iff.1 info_sess
  simp only [Prod.mk.injEq] at hzz
  obtain ⟨hz, hs, hb⟩ := hzz
  have := run_make (P := Tryd.prog) w 37 57 i _ Tryd.underlying37 hi hz .i64 .i64 4096 4096 (by decide) (by decide) (by rw [hb]; decide) (by decide)
  rw [this, hs, zero_cells]
  rfl
theorem table0_at (i j : Nat) (hi : i < 4096) (hj : j < 6) : table0[6 * i + j]? = zeroSess[j]? := by
  have e : (6 * i + j) % 6 = j := by omega
  have hsz : zeroSess.toArray.size = 6 := rfl
  have hj2 : j < zeroSess.length := hj
  unfold table0 madeCells
  rw [Array.getElem?_map, hsz]
  have : 6 * i + j < 24576 := by omega
  simp [this, e, hj2]
theorem dead_new (w : World) : Dead (w.alloc (.cells table0 57)) w.heap.size :=
  ⟨by simp, fun i j hi hj => by rw [World.cell?_alloc_mark]; exact table0_at i j hi hj⟩
set_option maxHeartbeats 400000 in
theorem new_any (w : World) :
    Calls Tryd.prog 14 #[] w fun e w' => e = .returned (.slice (some ⟨w.heap.size, 0, none⟩) 4096 4096) ∧ Dead w' w.heap.size ∧ Below w.heap.size w w' := by
  have hmk := make_table
  have hd := dead_new w
  go_enter Tryd.func14, Tryd.ntmps14
  go_wp2
  go_ret
  exact ⟨rfl, hd, (Below.refl _ _).alloc (Nat.le_refl _) _⟩

set_option maxHeartbeats 400000 in
theorem live_dead (b n : Nat) (w : World) (hn : n ≤ 4096) (hd : Dead w b) :
    Calls Tryd.prog 27 #[.slice (some ⟨b, 0, none⟩) n n] w fun e w' => e = .returned (.int .i64 0) ∧ w' = w := by
  go_enter Tryd.func27, Tryd.ntmps27
  go_wp2
  go_loop [3, 4] (fun m i => ∃ k : Nat, k ≤ n ∧ i = .int .i64 k ∧ m = .int .i64 0) (fun _ i => n - (intOf i).toNat)
  case atStart => exact ⟨0, Nat.zero_le _, rfl, rfl⟩
  case round =>
    obtain ⟨k, hk, rfl, rfl⟩ := hrel
    by_cases hlt : k < n
    · have hc : w.cell? ⟨b, k * 6, none⟩ = some (.bool false) := by
        have := hd.2 k 0 (by omega) (by decide)
        rwa [Nat.add_zero, Nat.mul_comm] at this
      clear hd
      go_wp2
      go_round
      case rel => exact ⟨k + 1, by omega, by go_num, rfl⟩
      case measure => simp [intOf]; omega
    · go_wp2
      go_ret
      exact ⟨rfl, rfl⟩

set_option maxHeartbeats 400000 in
theorem snap_dead (b n : Nat) (w : World) (hn : n ≤ 4096) (hd : Dead w b) :
    Calls Tryd.prog 18 #[.slice (some ⟨b, 0, none⟩) n n] w fun e w' => e = .returned (.string (nA 1 0)) ∧ Below w.heap.size w w' := by
  have HD : Hid (Dead w b) := hd
  clear hd
  go_enter Tryd.func18, Tryd.ntmps18
  go_wp2_with fail
  refine (live_dead b n w hn HD.out).mono ?_
  rintro e w1 ⟨rfl, rfl⟩
  go_wp2_with fail
  refine (N1 0 _ (by decide) (by decide)).mono ?_
  rintro e w2 ⟨rfl, hb2⟩
  have HD2 : Hid (Dead w2 b) := HD.out.below hb2
  go_wp2_with fail
  go_loopw [4, 5] (fun s i wx => ∃ k : Nat, k ≤ n ∧ i = .int .i64 k ∧ s = .string (nA 1 0) ∧ Below w2.heap.size w2 wx) (fun _ i _ => n - (intOf i).toNat)
  case atStart => exact ⟨0, Nat.zero_le _, rfl, rfl, Below.refl _ _⟩
  case round =>
    obtain ⟨k, hk, rfl, rfl, hbx⟩ := hrel
    by_cases hlt : k < n
    · have hdx := HD2.out.below hbx
      obtain ⟨c0, c1, c2, c3, c4, c5⟩ := hdx.six k (by omega)
      clear hdx
      go_wp2_with fail
      go_roundw
      case rel => exact ⟨k + 1, by omega, by go_num, rfl, hbx.alloc hbx.size _⟩
      case measure => simp [intOf]; omega
    · go_wp2_with fail
      go_ret
      exact ⟨rfl, hb2.trans (hbx.mono hb2.size)⟩

theorem noughts32 (w : World) :
    Calls Tryd.prog 16 #[.int .i64 32] w fun e w' => e = .returned (.string (zA 32)) ∧ Below w.heap.size w w' := noughts_any 32 w (by decide)
set_option maxHeartbeats 400000 in
theorem refformat_err (n : Int) (w : World) (h : n < 12 ∨ 200 < n) :
    Calls Tryd.prog 8 #[.int .i64 n] w fun e w' => e = .returned (.tuple #[.string ByteArray.empty, .int .i64 1]) ∧ Below w.heap.size w w' := by
  have hb : (decide (12 ≤ n) && decide (n ≤ 200)) = false := by
    rcases h with h | h
    · rw [decide_eq_false (by omega)]; rfl
    · rw [decide_eq_false (show ¬ n ≤ 200 by omega), Bool.and_false]
  go_enter Tryd.func8, Tryd.ntmps8
  go_wp2_with fail
  refine (in_any _ _ _ _).mono ?_
  rintro e w1 ⟨rfl, rfl⟩
  rw [hb]
  go_wp2_with fail
  go_ret2
  exact ⟨rfl, Below.refl _ _⟩
set_option maxHeartbeats 400000 in
theorem refformat_ok (n : Nat) (w : World) (h0 : 12 ≤ n) (h1 : n ≤ 200) :
    Calls Tryd.prog 8 #[.int .i64 n] w fun e w' => e = .returned (.tuple #[.string (blankA n), .int .i64 0]) ∧ Below w.heap.size w w' := by
  have hb : (decide ((12 : Int) ≤ n) && decide ((n : Int) ≤ 200)) = true := by
    rw [decide_eq_true (by omega), decide_eq_true (by omega)]; rfl
  go_enter Tryd.func8, Tryd.ntmps8
  go_wp2_with fail
  refine (in_any _ _ _ _).mono ?_
  rintro e w1 ⟨rfl, rfl⟩
  rw [hb]
  go_wp2_with fail
  refine (new_any _).mono ?_
  rintro e w2 ⟨rfl, hd2, hb2⟩
  have HD2 : Hid (Dead w2 w1.heap.size) := hd2
  clear hd2
  go_wp2_with fail
  refine (sector_any 1 0 _ (by decide) (by decide) (by decide) (by decide)).mono ?_
  rintro e w3 ⟨rfl, hb3⟩
  go_wp2_with fail
  refine (noughts32 _).mono ?_
  rintro e w4 ⟨rfl, hb4⟩
  have HD4 : Hid (Dead w4 w1.heap.size) := (HD2.out.below hb3).below hb4
  go_wp2_with fail
  refine (snap_dead _ 4096 _ (by decide) HD4.out).mono ?_
  rintro e w5 ⟨rfl, hb5⟩
  go_wp2_with fail
  refine (refrecord_any 1 0 _ _ (by decide) (by decide) (by decide) (by decide) (by rw [nA_size]; decide)).mono ?_
  rintro e w6 ⟨rfl, hb6⟩
  rw [show recA 1 0 (nA 1 0) = emptyRec from rfl]
  go_wp2_with fail
  rw [show (32 * (n : Int) - (64 + (emptyRec.size : Int))) = ((32 * n - 75 : Nat) : Int) by rw [emptyRec_size]; omega]
  refine (noughts_any _ _ (by omega)).mono ?_
  rintro e w7 ⟨rfl, hb7⟩
  rw [show sectorA 1 0 ++ zA 32 ++ emptyRec = frontA from rfl]
  have hfs := frontA_size
  have hzs := zA_size (32 * n - 75)
  go_wp2_with fail
  go_ret2
  exact ⟨rfl, hb2.trans ((hb3.trans ((hb4.trans ((hb5.trans ((hb6.trans (hb7.mono hb6.size)).mono hb5.size)).mono hb4.size)).mono hb3.size)).mono hb2.size)⟩

end Go.Proofs.YtmnajomkfnkmeaaDoor
