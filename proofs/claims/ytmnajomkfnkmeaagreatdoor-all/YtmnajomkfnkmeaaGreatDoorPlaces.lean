import Derived.Test.YtmnajomkfnkmeaaGreatDoorStaD
import Derived.Test.YtmnajomkfnkmeaaGreatDoorLay
import Derived.Test.YtmnajomkfnkmeaaGreatDoorPurB
set_option maxRecDepth 20000
set_option maxHeartbeats 1000000
namespace Go.Proofs.YtmnajomkfnkmeaaGreatDoor
open Go.RowKit
attribute [local go_sem] ofL_size
def half (n : Nat) : Nat := (n - 2) / 2 * 32
def beginOf (n r : Nat) : Nat := 64 + r * half n
theorem two_end {a b c d : Int} (h1 : a = c) (h2 : b = d) : Ending.returned (.tuple #[.int .i64 a, .int .i64 b]) = .returned (.tuple #[.int .i64 c, .int .i64 d]) := by rw [h1, h2]
theorem region_any (n r : Nat) (w : World) (h0 : 12 ≤ n) (h1 : n ≤ 200) (hr : r ≤ 1) :
  Calls Tryz.prog 160 #[.int .i64 n, .int .u8 r] w fun e w' => e = .returned (.tuple #[.int .i64 (beginOf n r), .int .i64 (beginOf n r + half n : Nat)]) ∧ w' = w := by
 have hq : ((n : Int) - 2).tdiv 2 = (((n - 2) / 2 : Nat) : Int) := by
  rw [show (n : Int) - 2 = ((n - 2 : Nat) : Int) by omega];rfl
 have hh : (n - 2) / 2 ≤ 99 := by omega
 have HB : Hid (beginOf n r = 64 + r * ((n - 2) / 2 * 32) ∧ half n = (n - 2) / 2 * 32) := ⟨rfl, rfl⟩;generalize (n - 2) / 2 = q at *
 go_enter Tryz.func160, Tryz.ntmps160;go_wp2_with fail;go_ret2;have hb := HB.out;rw [hb.1, hb.2];refine ⟨two_end ?_ ?_, rfl⟩
 ·rcases (show r = 0 ∨ r = 1 by omega) with rfl | rfl <;> (unfold wrap64; omega)
 ·rcases (show r = 0 ∨ r = 1 by omega) with rfl | rfl <;> (unfold wrap64; omega)
def sectorsOk (n : Nat) : Bool := decide (n % 32 = 0) && (decide (12 ≤ n / 32) && decide (n / 32 ≤ 200))
theorem sectors_ok (n : Nat) (w : World) (h : sectorsOk n = true) :
  Calls Tryz.prog 166 #[.int .i64 n] w fun e w' => e = .returned (.tuple #[.int .i64 (n / 32 : Nat), .nilIface]) ∧ w' = w := by
 unfold sectorsOk at h;simp only [Bool.and_eq_true, decide_eq_true_eq] at h;obtain ⟨h0, h1, h2⟩ := h;have hq : (n : Int).tdiv 32 = ((n / 32 : Nat) : Int) := rfl;have hm : (n : Int).tmod 32 = 0 := by rw [show (n : Int).tmod 32 = ((n % 32 : Nat) : Int) from rfl, h0]; rfl
 have hb : (decide ((12 : Int) ≤ (n / 32 : Nat)) && decide (((n / 32 : Nat) : Int) ≤ 200)) = true := by
  rw [decide_eq_true (by omega), decide_eq_true (by omega)]; rfl
 clear h0;generalize n / 32 = q at *
 go_enter Tryz.func166, Tryz.ntmps166;go_wp2_with fail;refine (isSize_any _ _).mono ?_;rintro e w1 ⟨rfl, rfl⟩;rw [hb];go_wp2_with fail;go_ret2;exact ⟨rfl, rfl⟩
theorem sectors_no (n : Nat) (v : Value) (w : World) (he : w.cell? ⟨1, 0, none⟩ = some v) (hn : n ≤ 9223372036854775807) (h : sectorsOk n = false) :
  Calls Tryz.prog 166 #[.int .i64 n] w fun e w' => e = .returned (.tuple #[.int .i64 0, v]) ∧ Below w.heap.size w w' := by
 have hq : (n : Int).tdiv 32 = ((n / 32 : Nat) : Int) := rfl;have hm : (n : Int).tmod 32 = ((n % 32 : Nat) : Int) := rfl;have HW : Hid (wrap64 ((n / 32 : Nat) : Int) = ((n / 32 : Nat) : Int)) := by
  show wrap64 ((n / 32 : Nat) : Int) = ((n / 32 : Nat) : Int);unfold wrap64; omega
 clear hn;by_cases h0 : n % 32 = 0
 ·have hb : (decide ((12 : Int) ≤ (n / 32 : Nat)) && decide (((n / 32 : Nat) : Int) ≤ 200)) = false := by
   unfold sectorsOk at h;rw [decide_eq_true h0, Bool.true_and] at h;rw [← h];congr 1
   ·rw [Bool.eq_iff_iff]; simp; omega
   ·rw [Bool.eq_iff_iff]; simp; omega
  rw [h0] at hm;clear h h0;generalize n / 32 = q at *
  go_enter Tryz.func166, Tryz.ntmps166;go_wp2_with fail;refine (isSize_any _ _).mono ?_;rintro e w1 ⟨rfl, rfl⟩;rw [HW.out, hb];go_wp2_with fail
  go_quiet (fail)
  go_wp2;go_ret2;exact ⟨rfl, below_drewN (Below.refl _ _) _⟩
 ·have hne : ((n % 32 : Nat) : Int) ≠ 0 := by omega
  clear h h0;generalize n / 32 = q at *
  generalize n % 32 = m at *
  go_enter Tryz.func166, Tryz.ntmps166;go_wp2_with fail
  go_quiet (fail)
  go_wp2;go_ret2;exact ⟨rfl, below_drewN (Below.refl _ _) _⟩
end Go.Proofs.YtmnajomkfnkmeaaGreatDoor
namespace Go.Proofs.YtmnajomkfnkmeaaGreatDoor
open Go.RowKit
attribute [local go_sem] ofL_size recA_size
def recRead (g k : Int) (l : Bs) : Option Bs :=
 let m := (rdTwo ⟨l, false, false⟩).1
 let p := (l.drop 8).take m
 if 8 + m ≤ l.length ∧ Lib.hasPrefix l (toL (recA g k (ofL p))) = true then some p else none
def recRes (v : Value) : Option Bs → Value
 | some p => .tuple #[.string (ofL p), .int .i64 (p.length + 10 : Nat), .nilIface]
 | none => .tuple #[.string (ofL []), .int .i64 0, v]
theorem readRecord_any (g k : Int) (l : Bs) (v : Value) (w : World) (h0 : 0 ≤ g) (h1 : g < 4294967296) (h2 : 0 ≤ k) (h3 : k < 65536) (he : w.cell? ⟨9, 0, none⟩ = some v) (hg : 9 < w.heap.size) (hl : l.length ≤ 9223372036854775000) :
  Calls Tryz.prog 202 #[.string (ofL l), .int .u32 g, .int .u16 k] w fun e w' => e = .returned (recRes v (recRead g k l)) ∧ Below w.heap.size w w' := by
 have HE : Hid (w.cell? ⟨9, 0, none⟩ = some v ∧ 9 < w.heap.size) := ⟨he, hg⟩;have HK : Hid (0 ≤ g ∧ g < 4294967296 ∧ 0 ≤ k ∧ k < 65536) := ⟨h0, h1, h2, h3⟩;have HL : Hid (l.length ≤ 9223372036854775000) := hl;clear he hg h0 h1 h2 h3 hl;go_enter Tryz.func202, Tryz.ntmps202;go_wp2_with fail;refine (newR_any _ _).mono ?_;rintro e w1 ⟨rfl, hb1⟩;have HB1 : Hid (Below w.heap.size w w1) := hb1;clear hb1;go_wp2_with fail;have hr : RAt (w1.alloc (.cells #[.string (ofL l), .bool false] 273)) w1.heap.size ⟨l, false, false⟩ [] 273 := Blk.new _ _ _;have HR : Hid (RAt _ _ _ _ _) := hr;have hb2 : Below w.heap.size w (w1.alloc (.cells #[.string (ofL l), .bool false] 273)) := HB1.out.alloc HB1.out.size _;have HB2 : Hid (Below _ _ _) := hb2;clear hr hb2;have hn : w.heap.size ≤ w1.heap.size := HB1.out.size;generalize w1.alloc (Obj.cells _ _ _) = w2 at *
 refine (rtwo_any _ _ _ _ _ HR.out).mono ?_;rintro e w3 ⟨rfl, -, hf3⟩;have HB3 : Hid (Below w.heap.size w w3) := HB2.out.trans (hf3.below_of _ HB2.out.size (fun i hi e => by omega));have ce : w3.cell? ⟨9, 0, none⟩ = some v := (HB3.out.cell (p := ⟨9, 0, none⟩) HE.out.2).trans HE.out.1;have HM : Hid ((rdTwo ⟨l, false, false⟩).1 < 65536) := rdTwo_lt _;have HD : Hid (recRead g k l = if 8 + (rdTwo ⟨l, false, false⟩).1 ≤ l.length ∧ Lib.hasPrefix l (toL (recA g k (ofL ((l.drop 8).take (rdTwo ⟨l, false, false⟩).1)))) = true then some ((l.drop 8).take (rdTwo ⟨l, false, false⟩).1) else none) := rfl;generalize (rdTwo ⟨l, false, false⟩).1 = m at *
 clear hf3 HB2 HB1 HR;by_cases hm : 8 + m ≤ l.length
 ·have hm2 := HM.out;go_wp2_with fail;rw [extract_ofL, show 8 + m - 8 = m by omega];have hpl : ((l.drop 8).take m).length = m := by simp; omega
  have HP : Hid (((l.drop 8).take m).length = m) := hpl;have HM8 : Hid (8 + m ≤ l.length) := hm;have hps : ((l.drop 8).take m).length < 65536 := by omega
  generalize (l.drop 8).take m = p at *
  clear hpl hm hm2;refine (record_any g k (ofL p) w3 HK.out.1 HK.out.2.1 HK.out.2.2.1 HK.out.2.2.2 (by rw [ofL_size]; exact hps)).mono ?_;rintro e w4 ⟨rfl, hb4⟩;have HB4 : Hid (Below w.heap.size w w4) := HB3.out.trans (hb4.mono HB3.out.size);have ce4 : w4.cell? ⟨9, 0, none⟩ = some v := (HB4.out.cell (p := ⟨9, 0, none⟩) HE.out.2).trans HE.out.1;clear hb4 ce;go_wp2_with fail;refine (Tryz.strings_HasPrefix _ _ _).mono ?_;rintro e w5 ⟨rfl, rfl⟩;have HH : Hid (Lib.hasPrefix (ofL l).data.toList (recA g k (ofL p)).data.toList = Lib.hasPrefix l (toL (recA g k (ofL p)))) := rfl;cases hx : Lib.hasPrefix l (toL (recA g k (ofL p))) with
  | true =>
   have HX : Hid (Lib.hasPrefix l (toL (recA g k (ofL p))) = true) := hx;clear hx;rw [HH.out, HX.out];go_wp2_with fail;refine bodyPost_ret (v := .tuple #[.string (ofL p), .int .i64 (p.length + 10 : Nat), .nilIface]) (by simp [results, Tryz.results202, go_sem]) rfl ⟨?_, HB4.out⟩;rw [HD.out, if_pos ⟨HM8.out, HX.out⟩]; rfl
  | false =>
   have HX : Hid (Lib.hasPrefix l (toL (recA g k (ofL p))) = false) := hx;clear hx;rw [HH.out, HX.out];go_wp2_with fail
   go_quiet (fail)
   go_wp2;refine bodyPost_ret (v := .tuple #[.string (ofL []), .int .i64 0, v]) (by simp [results, Tryz.results202, go_sem]; rfl) rfl ⟨?_, below_drewN HB4.out _⟩;rw [HD.out, if_neg (fun hh => by rw [HX.out] at hh; cases hh.2)]; rfl
 ·have hm2 := HM.out;have HM8 : Hid (¬ 8 + m ≤ l.length) := hm;go_wp2_with fail
  go_quiet (fail)
  go_wp2;refine bodyPost_ret (v := .tuple #[.string (ofL []), .int .i64 0, v]) (by simp [results, Tryz.results202, go_sem]; rfl) rfl ⟨?_, below_drewN HB3.out _⟩;rw [HD.out, if_neg (fun hh => HM8.out hh.1)]; rfl
end Go.Proofs.YtmnajomkfnkmeaaGreatDoor
namespace Go.Proofs.YtmnajomkfnkmeaaGreatDoor
open Go.RowKit
attribute [local go_sem] ofL_size
def headRd (l : Bs) : Rd := ⟨Lib.trimPrefix l [68, 75], false, false⟩
def headG (l : Bs) : Nat := (rdFour (headRd l)).1
def headR (l : Bs) : Nat := (rdOne (rdFour (headRd l)).2).1
def headOk (l : Bs) : Bool := decide (headR l ≤ 1) && decide (ofL l = sectorA (headG l) (headR l))
theorem head_end {l : Bs} {hg hr : Nat} {ok : Bool} (h1 : headG l = hg) (h2 : headR l = hr) (h3 : headOk l = ok) :
  Ending.returned (.tuple #[.agg #[.int .u32 hg, .int .u8 hr, .int .i64 0], .bool ok]) = .returned (.tuple #[.agg #[.int .u32 (headG l), .int .u8 (headR l), .int .i64 0], .bool (headOk l)]) := by rw [h1, h2, h3]
theorem list_eq (a b : ByteArray) : decide (a = b) = (a.toList == b.toList) := by
 rw [Bool.eq_iff_iff];simp only [decide_eq_true_eq, beq_iff_eq, ByteArray.toList_eq];constructor
 ·intro h; rw [h]
 ·intro h; exact ByteArray.ext (Array.toList_inj.1 h)
theorem readHead_any (l : Bs) (w : World) (hl : l.length ≤ 9223372036854775000) :
  Calls Tryz.prog 201 #[.string (ofL l)] w fun e w' => e = .returned (.tuple #[.agg #[.int .u32 (headG l), .int .u8 (headR l), .int .i64 0], .bool (headOk l)]) ∧ Below w.heap.size w w' := by
 have HL : Hid (l.length ≤ 9223372036854775000) := hl;clear hl;go_enter Tryz.func201, Tryz.ntmps201;go_wp2_with fail;refine (Tryz.strings_TrimPrefix _ _ _).mono ?_;rintro e w1 ⟨rfl, rfl⟩;rw [show (⟨(Lib.trimPrefix (ofL l).data.toList [68, 75]).toArray⟩ : ByteArray) = ofL (headRd l).rest from rfl];have HG : Hid (headG l = (rdFour (headRd l)).1 ∧ headR l = (rdOne (rdFour (headRd l)).2).1 ∧ headG l < 4294967296 ∧ headR l < 256) := ⟨rfl, rfl, rdFour_lt _, rdOne_lt _⟩;have hsh : (headRd l).short = false := rfl;have HO : Hid (headOk l = (decide (headR l ≤ 1) && decide (ofL l = sectorA (headG l) (headR l)))) := rfl;have hrb : Blk (w.alloc (.cells #[.int .u32 0, .int .u8 0, .int .i64 0] 174)) w.heap.size #[.int .u32 0, .int .u8 0, .int .i64 0] 174 := Blk.new _ _ _;have HRB : Hid (Blk _ _ _ _) := hrb;have hfr : Fr (fun _ => False) w (w.alloc (.cells #[.int .u32 0, .int .u8 0, .int .i64 0] 174)) := (Fr.refl _ w).alloc _;have HF : Hid (Fr (fun _ => False) _ _) := hfr;clear hrb hfr;generalize hrd : headRd l = rd at *
 generalize w.alloc (Obj.cells _ _ _) = w1 at *
 go_wp2_with fail;refine (newR_any _ _).mono ?_;rintro e w2 ⟨rfl, hb2⟩;have hz1 : w.heap.size < w1.heap.size := HRB.out.lt;have hz2 := hb2.size;have HF2 : Hid (Fr (fun _ => False) w1 w2) := Fr.of_below hb2;clear hb2;go_wp2_with fail;have hr : RAt (w2.alloc (.cells #[.string (ofL rd.rest), .bool false] 273)) w2.heap.size rd [] 273 := by
  rw [← hsh]; exact Blk.new _ _ _
 have HR : Hid (RAt _ _ _ _ _) := hr;have hf3 : Fr (fun _ => False) w1 (w2.alloc (.cells #[.string (ofL rd.rest), .bool false] 273)) := HF2.out.alloc _;have HF3 : Hid (Fr (fun _ => False) _ _) := hf3;clear hr hf3 hsh;generalize w2.alloc (Obj.cells _ _ _) = w3 at *
 refine (rfour_any _ _ _ _ _ HR.out).mono ?_;rintro e w4 ⟨rfl, hr4, hf4⟩;have HR4 : Hid (RAt w4 w2.heap.size _ _ _) := hr4;have HF4 : Hid (Fr (fun _ => False) w1 w4) := HF3.out.trans hf4 (fun i hi e => by omega);clear hr4 hf4;rw [← HG.out.1];go_wp2_with fail;refine (rone_any _ _ _ _ _ HR4.out).mono ?_;rintro e w5 ⟨rfl, hr5, hf5⟩;have HF5 : Hid (Fr (fun _ => False) w1 w5) := HF4.out.trans hf5 (fun i hi e => by omega);clear hr5 hf5;rw [← HG.out.2.1];have hz5 := HF5.out.size;have HGL : Hid (headG l < 4294967296 ∧ headR l < 256) := ⟨HG.out.2.2.1, HG.out.2.2.2⟩;clear HG HR HR4 hrd;generalize hgE : headG l = hg at *
 generalize hrE : headR l = hr at *
 have HE1 : Hid (headG l = hg) := hgE;have HE2 : Hid (headR l = hr) := hrE;clear hgE hrE;have hp : Blk (w5.alloc (.cells #[.int .u32 hg, .int .u8 hr, .int .i64 0] 174)) w5.heap.size #[.int .u32 hg, .int .u8 hr, .int .i64 0] 174 := Blk.new _ _ _;have HP : Hid (Blk _ _ _ _) := hp;have hf6 : Fr (fun _ => False) w1 (w5.alloc (.cells #[.int .u32 hg, .int .u8 hr, .int .i64 0] 174)) := HF5.out.alloc _;have HF6 : Hid (Fr (fun _ => False) _ _) := hf6;clear hp hf6;go_wp2_with fail;generalize w5.alloc (Obj.cells _ _ _) = w6 at *
 have hz6 := HF6.out.size;have HRB6 : Hid (Blk w6 w.heap.size _ _) := HRB.out.kept HF6.out (fun h => h);have c0 := Blk.cell HRB6.out 0;have c1 := Blk.cell HRB6.out 1;have c2 := Blk.cell HRB6.out 2;have f0 := Blk.frozen HRB6.out 0;have f1 := Blk.frozen HRB6.out 1;have f2 := Blk.frozen HRB6.out 2;have p0 := Blk.cell HP.out 0;have p1 := Blk.cell HP.out 1;have p2 := Blk.cell HP.out 2;have hpl := HP.out.lt;have hrl := HRB6.out.lt;simp only [gT, gZ, gS] at c0 c1 c2 p0 p1 p2;by_cases hle : (hr : Int) ≤ 1
 ·go_region_with (go_at_call 106; refine (head_any hg hr _ (by omega) (by have := HGL.out.1; omega) (by omega) (by omega)).mono ?_; rintro e w7 ⟨rfl, hb7⟩; have d0 : w7.cell? ⟨w.heap.size, 0, none⟩ = _ := (hb7.cell (p := ⟨w.heap.size, 0, none⟩) hrl).trans c0; have d1 : w7.cell? ⟨w.heap.size, 1, none⟩ = _ := (hb7.cell (p := ⟨w.heap.size, 1, none⟩) hrl).trans c1; have d2 : w7.cell? ⟨w.heap.size, 2, none⟩ = _ := (hb7.cell (p := ⟨w.heap.size, 2, none⟩) hrl).trans c2; have g2 : w7.frozen? ⟨w.heap.size, 2, none⟩ = _ := (hb7.frozen (p := ⟨w.heap.size, 2, none⟩) hrl).trans f2; have g0 : w7.frozen? ⟨w.heap.size, 0, none⟩ = _ := (hb7.frozen (p := ⟨w.heap.size, 0, none⟩) hrl).trans f0; have g1 : w7.frozen? ⟨w.heap.size, 1, none⟩ = _ := (hb7.frozen (p := ⟨w.heap.size, 1, none⟩) hrl).trans f1; have q0 : w7.cell? ⟨w5.heap.size, 0, none⟩ = _ := (hb7.cell (p := ⟨w5.heap.size, 0, none⟩) hpl).trans p0; have q1 : w7.cell? ⟨w5.heap.size, 1, none⟩ = _ := (hb7.cell (p := ⟨w5.heap.size, 1, none⟩) hpl).trans p1; have q2 : w7.cell? ⟨w5.heap.size, 2, none⟩ = _ := (hb7.cell (p := ⟨w5.heap.size, 2, none⟩) hpl).trans p2)
  all_goals
   go_wp2_with fail;refine bodyPost_ret (v := .tuple #[.agg #[.int .u32 hg, .int .u8 hr, .int .i64 0], .bool ((ofL l).toList == (sectorA hg hr).toList)]) (by simp [results, Tryz.results201, go_sem, Act.put, d0, d1, d2]) rfl ⟨head_end HE1.out HE2.out ?_, ?_⟩
   ·rw [HO.out, decide_eq_true (show hr ≤ 1 by omega), Bool.true_and]; exact list_eq _ _
   ·have hB : Fr (fun b => b = w.heap.size) w1 w7 := (HF6.out.mono (S' := fun b => b = w.heap.size) (fun _ _ h => h.elim)).drew.trans (S' := fun _ => False) (Fr.of_below hb7) (fun _ _ h => h.elim);refine Fr.below_of (S := fun b => b = w.heap.size) ?_ w.heap.size (Nat.le_refl _) (fun i hi e => by omega);refine (HF.out.mono (fun _ _ h => h.elim)).trans (S' := fun b => b = w.heap.size) ?_ (fun _ _ h => h)
    first
     | exact (((hB.setCell _ (fun _ => rfl) _).setCell _ (fun _ => rfl) _).setCell _ (fun _ => rfl) _).drew
     | exact (((hB.setCell _ (fun _ => rfl) _).setCell _ (fun _ => rfl) _).setCell _ (fun _ => rfl) _)
     | exact ((hB.drew.setCell _ (fun _ => rfl) _).setCell _ (fun _ => rfl) _).setCell _ (fun _ => rfl) _
 ·go_region
  go_wp2_with fail;refine bodyPost_ret (v := .tuple #[.agg #[.int .u32 hg, .int .u8 hr, .int .i64 0], .bool false]) (by simp [results, Tryz.results201, go_sem, c0, c1, c2]) rfl ⟨head_end HE1.out HE2.out ?_, ?_⟩
  ·rw [HO.out, decide_eq_false (show ¬ hr ≤ 1 by omega), Bool.false_and]
  ·have hB : Fr (fun b => b = w.heap.size) w1 w6 := HF6.out.mono (fun _ _ h => h.elim);refine Fr.below_of (S := fun b => b = w.heap.size) ?_ w.heap.size (Nat.le_refl _) (fun i hi e => by omega);refine (HF.out.mono (fun _ _ h => h.elim)).trans (S' := fun b => b = w.heap.size) ?_ (fun _ _ h => h)
   first
    | exact (((hB.setCell _ (fun _ => rfl) _).setCell _ (fun _ => rfl) _).setCell _ (fun _ => rfl) _).drew
    | exact (((hB.setCell _ (fun _ => rfl) _).setCell _ (fun _ => rfl) _).setCell _ (fun _ => rfl) _)
    | exact ((hB.drew.setCell _ (fun _ => rfl) _).setCell _ (fun _ => rfl) _).setCell _ (fun _ => rfl) _
end Go.Proofs.YtmnajomkfnkmeaaGreatDoor
namespace Go.Proofs.YtmnajomkfnkmeaaGreatDoor
open Go.RowKit
attribute [local go_sem] ofL_size
theorem toL_zA (n : Nat) : toL (zA n) = zeros n := by unfold zA toL zeros; simp
theorem toL_summed (s : ByteArray) : toL (summedA s) = sealB (toL s) := by
 unfold summedA sealB;rw [toL_append]; rfl
theorem sectorA_L (g r : Nat) : sectorA g r = ofL (sectB g r) := by
 apply toL_inj;rw [toL_ofL];unfold sectorA headA sectB;rw [toL_append, toL_summed, toL_append, toL_append, toL_zA]; rfl
theorem recA_L (g k : Nat) (p : Bs) : recA g k (ofL p) = ofL (recB g k p) := by
 apply toL_inj;rw [toL_ofL];unfold recA recB;rw [toL_summed, toL_append, toL_append, toL_append]; rfl
theorem headRd_sect (g r : Nat) : headRd (sectB g r) = ⟨(sectB g r).drop 2, false, false⟩ := by
 unfold headRd Lib.trimPrefix;have e : sectB g r = 68 :: 75 :: (sectB g r).drop 2 := by unfold sectB sealB; rfl
 have h : Lib.hasPrefix (sectB g r) [68, 75] = true := by
  rw [e]; unfold Lib.hasPrefix; rfl
 rw [if_pos h]; rfl
theorem headG_sect (g r : Nat) (h : g < 4294967296) : headG (sectB g r) = g := by
 have h1 : (headRd (sectB g r)).at ((sectB g r).drop 2) := by rw [headRd_sect]; exact ⟨rfl, rfl, rfl⟩
 have := rdFour_at h1;rw [if_pos (by rw [List.length_drop, sectB_length]; omega), (sectB_parts g r).1, numL_nB 4 g h] at this;exact this.1
theorem headR_sect (g r : Nat) (h : r < 256) : headR (sectB g r) = r := by
 have h1 : (headRd (sectB g r)).at ((sectB g r).drop 2) := by rw [headRd_sect]; exact ⟨rfl, rfl, rfl⟩
 have := rdFour_at h1;rw [if_pos (by rw [List.length_drop, sectB_length]; omega), List.drop_drop] at this;have h2 := rdText_at (n := 1) this.2;rw [if_pos (by rw [List.length_drop, sectB_length]; omega), (sectB_parts g r).2] at h2;unfold headR rdOne;rw [h2.1]; exact numL_nB 1 r h
theorem headOk_sect {l : Bs} (h : headOk l = true) : l = sectB (headG l) (headR l) ∧ headR l ≤ 1 := by
 unfold headOk at h;simp only [Bool.and_eq_true, decide_eq_true_eq] at h;rw [sectorA_L] at h;exact ⟨ofL_inj h.2, h.1⟩
theorem headG_lt (l : Bs) : headG l < 4294967296 := rdFour_lt _
theorem headOf_code (l : Bs) : headOf l = if headOk l = true ∧ 0 < headG l then some (headG l, headR l) else none := by
 have hg := headG_lt l;by_cases h : headOk l = true
 ·obtain ⟨e, hr⟩ := headOk_sect h;by_cases h0 : 0 < headG l
  ·rw [if_pos ⟨h, h0⟩];have := headOf_sect (headG l) (headR l) h0 hg hr
   rwa [← e] at this
  ·rw [if_neg (fun hh => h0 hh.2)];have hp := (sectB_parts (headG l) (headR l)).1;rw [← e] at hp;unfold headOf;rw [hp, numL_nB 4 _ hg, if_neg (by omega)]
 ·rw [if_neg (fun hh => h hh.1)];cases ho : headOf l with
  | none => rfl
  | some x =>
   obtain ⟨e, h1, h2, h3⟩ := headOf_some (g := x.1) (r := x.2) ho;exfalso;apply h;have eg := headG_sect x.1 x.2 h2;have er := headR_sect x.1 x.2 (by omega);rw [← e] at eg er;unfold headOk;rw [eg, er, sectorA_L, e];simp [h3]
def bestStep (b : Nat × Nat × Nat) (l : Bs) (i : Nat) : Nat × Nat × Nat := if headOk l = true ∧ b.1 < headG l then (headG l, headR l, i) else b
def bestN (d : Bs) : Nat → Nat × Nat × Nat
 | 0 => (0, 0, 0)
 | k + 1 => bestStep (bestN d k) ((d.drop (32 * k)).take 32) k
theorem theHead_best (d : Bs) : theHead d = if (bestN d 2).1 = 0 then none else some (bestN d 2) := by
 unfold theHead;rw [headOf_code, headOf_code];show _ = if (bestStep (bestStep (0, 0, 0) ((d.drop 0).take 32) 0) ((d.drop 32).take 32) 1).1 = 0 then none else some (bestStep (bestStep (0, 0, 0) ((d.drop 0).take 32) 0) ((d.drop 32).take 32) 1)
 rw [List.drop_zero];generalize d.take 32 = a;generalize (d.drop 32).take 32 = b;unfold bestStep;by_cases ha : headOk a = true ∧ 0 < headG a
 ·rw [if_pos ha];rw [if_pos (show headOk a = true ∧ (0, 0, 0).1 < headG a from ha)];by_cases hb : headOk b = true ∧ 0 < headG b
  ·rw [if_pos hb];by_cases hc : headG a < headG b
   ·simp only [hc, if_true, hb.1, and_self];rw [if_neg (by omega)]
   ·simp only [hc, if_false, and_false];rw [if_neg (by omega)]
  ·rw [if_neg hb];have : ¬ (headOk b = true ∧ headG a < headG b) := fun h => hb ⟨h.1, by omega⟩;rw [if_neg this];simp only;rw [if_neg (by omega)]
 ·rw [if_neg ha];rw [if_neg (show ¬ (headOk a = true ∧ (0, 0, 0).1 < headG a) from ha)];by_cases hb : headOk b = true ∧ 0 < headG b
  ·rw [if_pos hb];rw [if_pos (show headOk b = true ∧ (0, 0, 0).1 < headG b from hb)];simp only;rw [if_neg (by omega)]
  ·rw [if_neg hb];rw [if_neg (show ¬ (headOk b = true ∧ (0, 0, 0).1 < headG b) from hb)];rfl
theorem best_lt (d : Bs) : ∀ k, (bestN d k).1 < 4294967296 ∧ (bestN d k).2.1 < 256 ∧ (bestN d k).2.2 ≤ k
 | 0 => by simp [bestN]
 | k + 1 => by
  have ih := best_lt d k;show (bestStep _ _ _).1 < _ ∧ (bestStep _ _ _).2.1 < _ ∧ (bestStep _ _ _).2.2 ≤ _;unfold bestStep;split
  ·exact ⟨headG_lt _, rdOne_lt _, by simp⟩
  ·omega
theorem firstB_code (g k : Nat) (l : Bs) : recRead g k l = firstB g k l := by
 unfold recRead;simp only;rw [recA_L, toL_ofL];have hm : 2 ≤ l.length → (rdTwo ⟨l, false, false⟩).1 = numL (l.take 2) := by
  intro h;have := rdText_at (n := 2) (r := ⟨l, false, false⟩) (l := l) ⟨rfl, rfl, rfl⟩;rw [if_pos h] at this;exact congrArg numL this.1
 by_cases h2 : 2 ≤ l.length
 ·rw [hm h2];unfold firstB;generalize hn : numL (l.take 2) = n;generalize hp : (l.drop 8).take n = p;by_cases hlen : n + 10 ≤ l.length
  ·have hpl : p.length = n := by rw [← hp]; simp; omega
   have e : (8 + n ≤ l.length ∧ Lib.hasPrefix l (recB g k p) = true) = (n + 10 ≤ l.length ∧ l.take (n + 10) = recB g k p) := by
    rw [← Lib.hasPrefix_of_take, recB_length, hpl];simp only [Bool.and_eq_true, decide_eq_true_eq, beq_iff_eq, eq_iff_iff];constructor
    ·rintro ⟨_, _, h⟩; exact ⟨hlen, h⟩
    ·rintro ⟨_, h⟩; exact ⟨by omega, hlen, h⟩
   simp only [e]
  ·rw [if_neg, if_neg (fun h => hlen h.1)];rintro ⟨h8, hpre⟩;rw [← Lib.hasPrefix_of_take, recB_length] at hpre;simp only [Bool.and_eq_true, decide_eq_true_eq] at hpre;have hpl : p.length = n := by rw [← hp]; simp; omega
   omega
 ·rw [if_neg]
  ·unfold firstB;rw [if_neg (by omega)]
  ·rintro ⟨h8, _⟩; omega
end Go.Proofs.YtmnajomkfnkmeaaGreatDoor
namespace Go.Proofs.YtmnajomkfnkmeaaGreatDoor
open Go.RowKit
attribute [local go_sem] ofL_size
def placeV (b : Nat × Nat × Nat) : Value := .agg #[.int .u32 b.1, .int .u8 b.2.1, .int .i64 b.2.2]
def theHeadV (v : Value) : Option (Nat × Nat × Nat) → Value
 | some b => .tuple #[placeV b, .nilIface]
 | none => .tuple #[placeV (0, 0, 0), v]
theorem headV_no {d : Bs} {v : Value} (h : (bestN d 2).1 = 0) : theHeadV v (theHead d) = .tuple #[placeV (0, 0, 0), v] := by rw [theHead_best, if_pos h]; rfl
theorem headV_yes {d : Bs} {v : Value} (h : (bestN d 2).1 ≠ 0) : theHeadV v (theHead d) = .tuple #[placeV (bestN d 2), .nilIface] := by rw [theHead_best, if_neg h]; rfl
theorem best_take {b : Nat × Nat × Nat} {l : Bs} {i : Nat} {p : Nat × Nat × Nat} (h : bestStep b l i = p) (hc : headOk l = true ∧ b.1 < headG l) : p = (headG l, headR l, i) := by rw [← h]; unfold bestStep; rw [if_pos hc]
theorem best_keep {b : Nat × Nat × Nat} {l : Bs} {i : Nat} {p : Nat × Nat × Nat} (h : bestStep b l i = p) (hc : ¬ (headOk l = true ∧ b.1 < headG l)) : p = b := by rw [← h]; unfold bestStep; rw [if_neg hc]
theorem theHead_any (d : Bs) (v : Value) (w : World) (h0 : 64 ≤ d.length) (h1 : d.length ≤ 9223372036854775000) (he : w.cell? ⟨7, 0, none⟩ = some v) (hg : 7 < w.heap.size) :
  Calls Tryz.prog 185 #[.string (ofL d)] w fun e w' => e = .returned (theHeadV v (theHead d)) ∧ Below w.heap.size w w' := by
 have HE : Hid (w.cell? ⟨7, 0, none⟩ = some v ∧ 7 < w.heap.size) := ⟨he, hg⟩;have HL : Hid (64 ≤ d.length ∧ d.length ≤ 9223372036854775000) := ⟨h0, h1⟩;have HN := @headV_no d v;have HY := @headV_yes d v;have HNY : Hid (_ ∧ _) := ⟨HN, HY⟩;clear he hg h0 h1 HN HY;go_enter Tryz.func185, Tryz.ntmps185;go_wp2_with fail
 go_loopw [8] (fun iv wx => ∃ (k : Nat), k ≤ 2 ∧ iv = .int .i64 k ∧ Hid (Blk wx (w.heap.size + 1) #[.int .u32 (bestN d k).1, .int .u8 (bestN d k).2.1, .int .i64 (bestN d k).2.2] 174) ∧ Hid (Blk wx w.heap.size #[.int .u32 0, .int .u8 0, .int .i64 0] 174) ∧ Hid (Fr (fun _ => False) w wx)) (fun iv _ => 2 - (intOf iv).toNat)
 case atStart =>
  refine ⟨0, Nat.zero_le _, rfl, ?_, ?_, ?_⟩
  ·have := Blk.new (w.alloc (Obj.cells #[Value.int IntKind.u32 0, Value.int IntKind.u8 0, Value.int IntKind.i64 0] 174)) #[.int .u32 0, .int .u8 0, .int .i64 0] 174;rw [World.size_alloc] at this;exact this
  ·exact Blk.alloc (Blk.new _ _ _) _
  ·exact ((Fr.refl _ w).alloc _).alloc _
 case round =>
  obtain ⟨k, hk, rfl, HB, HR, HF⟩ := hrel;by_cases hlt : k < 2
  ·have hl1 := HL.out.1;have hl2 := HL.out.2;go_wp2_with fail;have hx : (ofL d).extract (k * 32) ((k + 1) * 32) = ofL ((d.drop (32 * k)).take 32) := by
    rw [extract_ofL, show (k + 1) * 32 - k * 32 = 32 by omega, Nat.mul_comm]
   rw [hx];clear hx;have hll : ((d.drop (32 * k)).take 32).length ≤ 9223372036854775000 := by rw [List.length_take]; omega
   have HS : Hid (bestN d (k + 1) = bestStep (bestN d k) ((d.drop (32 * k)).take 32) k) := rfl;have HBL : Hid ((bestN d k).1 < 4294967296 ∧ headG ((d.drop (32 * k)).take 32) < 4294967296) := ⟨(best_lt d k).1, headG_lt _⟩;generalize (d.drop (32 * k)).take 32 = l at *
   refine (readHead_any l wr hll).mono ?_;rintro e w2 ⟨rfl, hb2⟩;have HB2 : Hid (Blk w2 (w.heap.size + 1) _ _) := HB.out.below hb2;have HR2 : Hid (Blk w2 w.heap.size _ _) := HR.out.below hb2;have HF2 : Hid (Fr (fun _ => False) w w2) := HF.out.trans (S' := fun _ => False) (Fr.of_below hb2) (fun _ _ h => h);have hsz1 := HB2.out.lt;clear hb2 HB HR HF hl1 hl2 hll;generalize hb1 : bestN d (k + 1) = b1 at *
   have HB1 : Hid (bestN d (k + 1) = b1) := hb1;clear hb1;have HTK : Hid (headOk l = true ∧ (bestN d k).1 < headG l → b1 = (headG l, headR l, k)) := fun h => best_take HS.out.symm h;have HKP : Hid (¬ (headOk l = true ∧ (bestN d k).1 < headG l) → b1 = bestN d k) := fun h => best_keep HS.out.symm h;clear HS;generalize headOk l = ok at *
   generalize headG l = hg at *
   generalize headR l = hr at *
   generalize hbk : bestN d k = bk at *
   clear hbk;obtain ⟨q0, q1, q2⟩ := bk;have HP3 : Hid (Blk (w2.alloc (.cells #[.int .u32 hg, .int .u8 hr, .int .i64 0] 174)) w2.heap.size #[.int .u32 hg, .int .u8 hr, .int .i64 0] 174) := Blk.new _ _ _;have HB3 : Hid (Blk (w2.alloc (.cells #[.int .u32 hg, .int .u8 hr, .int .i64 0] 174)) (w.heap.size + 1) _ _) := HB2.out.alloc _;have HR3 : Hid (Blk (w2.alloc (.cells #[.int .u32 hg, .int .u8 hr, .int .i64 0] 174)) w.heap.size _ _) := HR2.out.alloc _;have HF3 : Hid (Fr (fun _ => False) w (w2.alloc (.cells #[.int .u32 hg, .int .u8 hr, .int .i64 0] 174))) := HF2.out.alloc _;have c0 := Blk.cell HB3.out 0;have c1 := Blk.cell HB3.out 1;have c2 := Blk.cell HB3.out 2;have f0 := Blk.frozen HB3.out 0;have f1 := Blk.frozen HB3.out 1;have f2 := Blk.frozen HB3.out 2;have p0 := Blk.cell HP3.out 0;have p1 := Blk.cell HP3.out 1;have p2 := Blk.cell HP3.out 2;simp only [gT, gZ, gS] at c0 c1 c2 p0 p1 p2;cases ok with
   | false =>
    have hb := HKP.out (fun h => by cases h.1);go_wp2_with fail
    go_round
    case rel => exact ⟨k + 1, by omega, by go_num, by rw [HB1.out, hb]; exact HB3.out, HR3.out, HF3.out⟩
    case measure => simp [intOf]; omega
   | true =>
    by_cases hlt2 : q0 < hg
    ·have hb := HTK.out ⟨rfl, hlt2⟩;have HBB : Hid (bestN d (k + 1) = (hg, hr, k)) := HB1.out.trans hb;clear hb HTK HKP HBL HB2 HR2 HF2 HNY HB1;go_upto_region 7 with fail
     generalize w2.alloc (.cells #[.int .u32 hg, .int .u8 hr, .int .i64 0] 174) = w3 at *
     clear hlt2;go_wp2_with fail
     go_round
     case rel =>
      refine ⟨k + 1, by omega, by go_num, ?_, ?_, ?_⟩
      ·rw [HBB.out]; exact (((HB3.out.set 0 _).set 1 _).set 2 _).set 2 _
      ·exact (((HR3.out.other (by simp) _).other (by simp) _).other (by simp) _).other (by simp) _
      ·exact (((HF3.out.setCell _ (fun h => absurd h (by simp)) _).setCell _ (fun h => absurd h (by simp)) _).setCell _ (fun h => absurd h (by simp)) _).setCell _ (fun h => absurd h (by simp)) _
     case measure => simp [intOf]; omega
    ·have hb := HKP.out (fun h => hlt2 h.2);go_wp2_with fail
     go_round
     case rel => exact ⟨k + 1, by omega, by go_num, by rw [HB1.out, hb]; exact HB3.out, HR3.out, HF3.out⟩
     case measure => simp [intOf]; omega
  ·have hk2 : k = 2 := by omega
   subst hk2;generalize bestN d 2 = bk at *
   obtain ⟨q0, q1, q2⟩ := bk;have hsz := HB.out.lt;have hfr := HF.out;have he := (hfr.cell (p := ⟨7, 0, none⟩) HE.out.2 (fun h => h)).trans HE.out.1;have c0 := Blk.cell HB.out 0;have c1 := Blk.cell HB.out 1;have c2 := Blk.cell HB.out 2;have r0 := Blk.cell HR.out 0;have r1 := Blk.cell HR.out 1;have r2 := Blk.cell HR.out 2;have f0 := Blk.frozen HR.out 0;have f1 := Blk.frozen HR.out 1;have f2 := Blk.frozen HR.out 2;have hfb : Fr (fun b => b = w.heap.size) w wr := hfr.mono (fun _ _ h => h.elim);have HFB : Hid (Fr (fun b => b = w.heap.size) w wr) := hfb;simp only [gT, gZ, gS] at c0 c1 c2 r0 r1 r2;clear hfr hfb;by_cases hz : q0 = 0
   ·subst hz;have hv := HNY.out.1 rfl;have HV : Hid (_ = _) := hv;clear hv HNY;have hgl := HE.out.2;have hgne : ¬ (7 = w.heap.size) := by omega
    go_wp2_with fail
    go_region
    go_wp2_with fail;refine bodyPost_ret (v := .tuple #[.agg #[.int .u32 0, .int .u8 0, .int .i64 0], v]) (by simp [results, Tryz.results185, go_sem, r0, r1, r2]) rfl ⟨by rw [HV.out]; rfl, ?_⟩;refine Fr.below_of (S := fun b => b = w.heap.size) ?_ w.heap.size (Nat.le_refl _) (fun i hi e => by omega)
    first
     | exact (((HFB.out.setCell _ (fun _ => rfl) _).setCell _ (fun _ => rfl) _).setCell _ (fun _ => rfl) _).drew
     | exact ((HFB.out.drew.setCell _ (fun _ => rfl) _).setCell _ (fun _ => rfl) _).setCell _ (fun _ => rfl) _
   ·have hv := HNY.out.2 hz;have HV : Hid (_ = _) := hv;clear hv HNY;go_wp2_with fail;refine bodyPost_ret (v := .tuple #[.agg #[.int .u32 q0, .int .u8 q1, .int .i64 q2], .nilIface]) (by simp [results, Tryz.results185, go_sem, r0, r1, r2]) rfl ⟨by rw [HV.out]; rfl, ?_⟩;refine Fr.below_of (S := fun b => b = w.heap.size) ?_ w.heap.size (Nat.le_refl _) (fun i hi e => by omega);exact ((HFB.out.setCell _ (fun _ => rfl) _).setCell _ (fun _ => rfl) _).setCell _ (fun _ => rfl) _
end Go.Proofs.YtmnajomkfnkmeaaGreatDoor
namespace Go.Proofs.YtmnajomkfnkmeaaGreatDoor
open Go.RowKit
theorem next_any (g r s : Nat) (w : World) (hg : g + 1 < 4294967296) (hr : r ≤ 1) (hs : s ≤ 1) :
  Calls Tryz.prog 119 #[placeV (g, r, s)] w fun e w' => e = .returned (placeV (g + 1, 1 - r, 1 - s)) ∧ Below w.heap.size w w' := by
 have HV : Hid (placeV (g + 1, 1 - r, 1 - s) = .agg #[.int .u32 ((g : Int) + 1), .int .u8 (1 - (r : Int)), .int .i64 (1 - (s : Int))]) := by
  show _ = _;unfold placeV;simp only;rw [show (((g + 1 : Nat)) : Int) = (g : Int) + 1 by omega, show ((1 - r : Nat) : Int) = 1 - (r : Int) by omega, show ((1 - s : Nat) : Int) = 1 - (s : Int) by omega]
 have w1 : IntKind.u32.wrap ((g : Int) + 1) = (g : Int) + 1 := IntWalk.u32_in _ (by omega);have w2 : IntKind.u8.wrap (1 - (r : Int)) = 1 - (r : Int) := IntWalk.u8_in _ (by omega);have w3 : wrap64 (1 - (s : Int)) = 1 - (s : Int) := by unfold wrap64; omega
 clear hg hr hs;unfold placeV;go_enter Tryz.func119, Tryz.ntmps119;go_wp2_with fail;refine bodyPost_ret (v := .agg #[.int .u32 ((g : Int) + 1), .int .u8 (1 - (r : Int)), .int .i64 (1 - (s : Int))]) (by simp [results, Tryz.results119, go_sem]) rfl ⟨?_, (bA).alloc (by simp) _⟩;exact congrArg Ending.returned HV.out.symm
end Go.Proofs.YtmnajomkfnkmeaaGreatDoor
