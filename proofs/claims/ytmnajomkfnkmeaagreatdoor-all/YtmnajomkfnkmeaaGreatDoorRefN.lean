import Derived.Test.YtmnajomkfnkmeaaGreatDoorNum
import Derived.Deep.RegionHeld3
set_option maxHeartbeats 1000000
namespace Go.Proofs.YtmnajomkfnkmeaaGreatDoor
open Go.RowKit
attribute [local go_sem] nA_size zA_size summedA_size headA_size sectorA_size recA_size
theorem rstep2 {w0 w1 w2 : World} {b : Nat} {u v : Value} (h : w1.cell? ⟨b, 0, none⟩ = some u ∧ w1.cell? ⟨b, 1, none⟩ = some v ∧ b < w1.heap.size ∧ Below w0.heap.size w0 w1) (hb : Below w1.heap.size w1 w2) :
  w2.cell? ⟨b, 0, none⟩ = some u ∧ w2.cell? ⟨b, 1, none⟩ = some v ∧ b < w2.heap.size ∧ Below w0.heap.size w0 w2 :=
 ⟨(hb.cell (p := ⟨b, 0, none⟩) h.2.2.1).trans h.1, (hb.cell (p := ⟨b, 1, none⟩) h.2.2.1).trans h.2.1, Nat.lt_of_lt_of_le h.2.2.1 hb.size, h.2.2.2.trans (hb.mono h.2.2.2.size)⟩
theorem sector_any (g r : Int) (w : World) (h0 : 0 ≤ g) (h1 : g ≤ 9223372036854775807) (h2 : 0 ≤ r) (h3 : r ≤ 9223372036854775807) :
  Calls Tryz.prog 93 #[.agg #[.int .i64 g, .int .i64 r]] w fun e w' => e = .returned (.string (sectorA g r)) ∧ Below w.heap.size w w' := by
 have HS : Hid (summedA ({ data := #[68, 75] } ++ nA 4 g ++ nA 1 r) = headA g r) := rfl;go_enter Tryz.func93, Tryz.ntmps93;go_wp2_with fail
 go_region_held3 (fun w' => w'.cell? ⟨w.heap.size, 0, none⟩ = some (.int .i64 g) ∧ w'.cell? ⟨w.heap.size, 1, none⟩ = some (.int .i64 r) ∧ w.heap.size < w'.heap.size ∧ Below w.heap.size w w')
  (first
   | exact rstep2 (by assumption) (by assumption)
   | (refine ⟨by simp [go_sem], by simp [go_sem], by simp, (Below.alloc (Below.refl _ _) (Nat.le_refl _) _).drew⟩))
  (first
   | (go_at_call_of 87 (Value.int .i64 4); refine (N4 _ _ h0 h1).mono ?_; rintro e w' ⟨rfl, hbN⟩)
   | (go_at_call_of 87 (Value.int .i64 1); refine (N1 _ _ h2 h3).mono ?_; rintro e w' ⟨rfl, hbN⟩))
 rename_i hHeld;obtain ⟨-, -, -, hb2⟩ := hHeld;clear hbN;go_wp2_with fail;refine (refsum_any _ _ (by simp [ByteArray.size_append, nA_size]; decide)).mono ?_;rintro e w3 ⟨rfl, rfl⟩;have hsm := sumA_lt ({ data := #[68, 75] } ++ nA 4 g ++ nA 1 r);rw [show sumL 1 ({ data := #[68, 75] } ++ nA 4 g ++ nA 1 r : ByteArray).data.toList = sumA ({ data := #[68, 75] } ++ nA 4 g ++ nA 1 r) from rfl];have HS2 : Hid ({ data := #[68, 75] } ++ nA 4 g ++ nA 1 r ++ nA 2 (sumA ({ data := #[68, 75] } ++ nA 4 g ++ nA 1 r)) = headA g r) := HS;generalize sumA ({ data := #[68, 75] } ++ nA 4 g ++ nA 1 r) = m at *
 go_wp2_with fail;refine (N2 _ _ (by omega) (by omega)).mono ?_;rintro e w4 ⟨rfl, hb4⟩;go_wp2_with fail;refine (noughts_any 23 _ (by decide)).mono ?_;rintro e w5 ⟨rfl, hb5⟩;go_wp2_with fail;go_ret;refine ⟨congrArg (fun b => Ending.returned (Value.string (b ++ zA 23))) HS2.out, hb2.trans ((hb4.trans (hb5.mono hb4.size)).mono hb2.size)⟩
theorem refrecord_any (g k : Int) (p : ByteArray) (w : World) (h0 : 0 ≤ g) (h1 : g ≤ 9223372036854775807) (h2 : 0 ≤ k) (h3 : k ≤ 9223372036854775807) (h4 : p.size ≤ 9223372036854775000) :
  Calls Tryz.prog 90 #[.int .i64 g, .int .i64 k, .string p] w fun e w' => e = .returned (.string (recA g k p)) ∧ Below w.heap.size w w' := by
 have hsm := sumA_lt (nA 2 p.size ++ nA 4 g ++ nA 2 k ++ p);have HS2 : Hid (nA 2 p.size ++ nA 4 g ++ nA 2 k ++ p ++ nA 2 (sumA (nA 2 p.size ++ nA 4 g ++ nA 2 k ++ p)) = recA g k p) := rfl;have HU : Hid (sumL 1 (nA 2 p.size ++ nA 4 g ++ nA 2 k ++ p : ByteArray).data.toList = sumA (nA 2 p.size ++ nA 4 g ++ nA 2 k ++ p)) := rfl;go_enter Tryz.func90, Tryz.ntmps90;go_wp2_with fail;refine (N2 _ _ (by omega) (by omega)).mono ?_;rintro e w1 ⟨rfl, hb1⟩;go_wp2_with fail;refine (N4 _ _ h0 h1).mono ?_;rintro e w2 ⟨rfl, hb2⟩;go_wp2_with fail;refine (N2 _ _ h2 h3).mono ?_;rintro e w3 ⟨rfl, hb3⟩;go_wp2_with fail;refine (refsum_any _ _ (by simp [ByteArray.size_append, nA_size]; unfold maxLen; omega)).mono ?_;rintro e w4 ⟨rfl, rfl⟩;rw [HU.out];generalize sumA (nA 2 p.size ++ nA 4 g ++ nA 2 k ++ p) = m at *
 go_wp2_with fail;refine (N2 _ _ (by omega) (by omega)).mono ?_;rintro e w5 ⟨rfl, hb5⟩;go_wp2_with fail;go_ret;exact ⟨congrArg (fun b => Ending.returned (Value.string b)) HS2.out, hb1.trans ((hb2.trans ((hb3.trans (hb5.mono hb3.size)).mono hb2.size)).mono hb1.size)⟩
def zeroSess : List Value := [.bool false, .int .i64 0, .int .i64 0, .int .i64 0, .slice none 0 0, .slice none 0 0]
theorem info_sess : (Tryz.prog.info? 194).map (fun i => (i.zero, i.size, i.bytes)) = some (some (.agg zeroSess.toArray), 6, 80) := by kernel_rfl
def table0 : Array Value := madeCells zeroSess.toArray 24576
theorem zero_cells : (Value.agg zeroSess.toArray).cells = zeroSess.toArray := by rfl
theorem make_table (w : World) : (Instr.makeSlice 128 (.int .i64 4096) (.int .i64 4096)).run Tryz.prog w = .ok (.slice (some ⟨w.heap.size, 0, none⟩) 4096 4096) (w.alloc (.cells table0 194)) := by
 obtain ⟨i, hi, hzz⟩ := Option.map_eq_some_iff.1 info_sess;simp only [Prod.mk.injEq] at hzz;obtain ⟨hz, hs, hb⟩ := hzz;have := run_make (P := Tryz.prog) w 128 194 i _ Tryz.underlying128 hi hz .i64 .i64 4096 4096 (by decide) (by decide) (by rw [hb]; decide) (by decide);rw [this, hs, zero_cells];rfl
theorem table0_at (i j : Nat) (hi : i < 4096) (hj : j < 6) : table0[6 * i + j]? = zeroSess[j]? := by
 have e : (6 * i + j) % 6 = j := by omega
 have hsz : zeroSess.toArray.size = 6 := rfl;have hj2 : j < zeroSess.length := hj;unfold table0 madeCells;rw [Array.getElem?_map, hsz];have : 6 * i + j < 24576 := by omega
 simp [this, e, hj2]
end Go.Proofs.YtmnajomkfnkmeaaGreatDoor
