import Derived.Test.YtmnajomkfnkmeaaGreatDoorPasses
import Derived.Test.YtmnajomkfnkmeaaGreatDoorPurB
import Derived.Test.YtmnajomkfnkmeaaGreatDoorFr
import Derived.Laws.IdiomStrings
namespace Go.Proofs.YtmnajomkfnkmeaaGreatDoor
open Go.RowKit
attribute [local go_sem] ofL_size
theorem passB_L (s : Bs) (id : Nat) : passB (ofL s) id = ofL (passL s id) := rfl
set_option maxHeartbeats 400000 in
theorem pvalue_any (b : UInt8) (w : World) :
    Calls Tryz.prog 154 #[.int .u8 b.toNat] w fun e w' => e = .returned (.int .i64 (undig b)) ∧ w' = w := by
  have hb := b.toNat_lt
  have HU : Hid (undig b = if 48 ≤ b.toNat ∧ b.toNat ≤ 57 then b.toNat - 48 else if 97 ≤ b.toNat ∧ b.toNat ≤ 102 then b.toNat - 97 + 10 else 0) := rfl
  generalize undig b = u at *
  generalize b.toNat = n at *
  go_enter Tryz.func154, Tryz.ntmps154
  go_wp2
  all_goals go_ret
  all_goals refine ⟨?_, rfl⟩
  all_goals (rw [HU.out])
  all_goals (congr 2; (try split) <;> (try split) <;> simp_all <;> omega)
/-- what passes.Read answers -/
def preadV (v : Value) : Option Nat → Value
  | some id => .tuple #[.int .i64 id, .nilIface]
  | none => .tuple #[.int .i64 0, v]
theorem i64_or16 (a v : Nat) (ha : a < 16777216) (hv : v < 16) : bits .or .i64 ((a : Int) * 16) (v : Int) = ((16 * a + v : Nat) : Int) := by
  have e1 : (BitVec.ofInt 64 ((a : Int) * 16)).toNat = a <<< 4 := by
    rw [BitVec.toNat_ofInt, Nat.shiftLeft_eq]; omega
  have e2 : (BitVec.ofInt 64 (v : Int)).toNat = v := by rw [BitVec.toNat_ofInt]; omega
  have key : (BitVec.ofInt 64 ((a : Int) * 16) ||| BitVec.ofInt 64 (v : Int)).toNat = 16 * a + v := by
    rw [BitVec.toNat_or, e1, e2, ← Nat.shiftLeft_add_eq_or_of_lt (by omega : v < 2 ^ 4), Nat.shiftLeft_eq]; omega
  show IntKind.i64.wrap ((BitVec.ofInt 64 ((a : Int) * 16) ||| BitVec.ofInt 64 (v : Int)).toNat : Nat) = _
  rw [key, IntKind.wrap_i64]
  omega
theorem preadV_some {s t : Bs} {v : Value} (h9 : t.length = 9) (h : passL s (passId t) = t) : preadV v (passOf s t) = .tuple #[.int .i64 (passId t), .nilIface] := by
  unfold passOf; rw [if_pos ⟨h9, h⟩]; rfl
theorem preadV_none {s t : Bs} {v : Value} (h : ¬ (t.length = 9 ∧ passL s (passId t) = t)) : preadV v (passOf s t) = .tuple #[.int .i64 0, v] := by
  unfold passOf; rw [if_neg h]; rfl
def idK (l : Bs) (k : Nat) : Nat := (l.take k).foldl (fun a b => 16 * a + undig b) 0
theorem idK_succ (l : Bs) (k : Nat) (h : k < l.length) : idK l (k + 1) = 16 * idK l k + undig l[k] := by
  unfold idK
  rw [List.take_succ_eq_append_getElem h, List.foldl_append]; rfl
theorem idK_lt (l : Bs) : ∀ k, k ≤ l.length → idK l k < 16 ^ k
  | 0, _ => by simp [idK]
  | k + 1, h => by
    have := idK_lt l k (by omega)
    have h2 := undig_lt l[k]
    rw [idK_succ l k (by omega), Nat.pow_succ]; omega
set_option maxRecDepth 20000 in
set_option maxHeartbeats 1000000 in
theorem pread_any (s t : Bs) (v : Value) (w : World) (hs : s.length ≤ 9223372036854775000) (hl : t.length ≤ 9223372036854775000) (ht : DigitsIn w) (he : w.cell? ⟨5, 0, none⟩ = some v) (hg : 5 < w.heap.size) :
    Calls Tryz.prog 114 #[.string (ofL s), .string (ofL t)] w fun e w' => e = .returned (preadV v (passOf s t)) ∧ Below w.heap.size w w' := by
  have HT : Hid (DigitsIn w) := ht
  have HE : Hid (w.cell? ⟨5, 0, none⟩ = some v ∧ 5 < w.heap.size) := ⟨he, hg⟩
  have HSZ : Hid (s.length ≤ 9223372036854775000) := hs
  clear ht he hg hs
  by_cases h9 : t.length = 9
  · have hn := preadV_none (s := s) (t := t) (v := v)
    have hy := preadV_some (s := s) (v := v) h9
    have HN : Hid (_ → _) := hn
    have HY : Hid (_ → _) := hy
    clear hn hy
    have HID : Hid (passId t = idK ((t.drop 2).take 3) 3) := by
      match t, h9 with
      | [a0, a1, a2, a3, a4, a5, a6, a7, a8], _ =>
        show 256 * undig a2 + 16 * undig a3 + undig a4 = 16 * (16 * (16 * 0 + undig a2) + undig a3) + undig a4
        omega
    have hd3 : ((t.drop 2).take 3).length = 3 := by simp; omega
    have HC := fun w => run_bytes_of_string (P := Tryz.prog) w 9 39 5 (ofL ((t.drop 2).take 3)) Tryz.underlying9 Tryz.underlying39 Tryz.underlying5
    go_enter Tryz.func114, Tryz.ntmps114
    go_wp2_with fail
    rw [extract_ofL, show 5 - 2 = 3 from rfl]
    rw [HC w]
    clear HC
    have HD : Hid (((t.drop 2).take 3).length = 3) := hd3
    have hsz : (ofL ((t.drop 2).take 3)).size = 3 := by rw [ofL_size]; exact hd3
    have hck : ∀ (k : Nat) (hk : k < ((t.drop 2).take 3).length), (bytesRow (ofL ((t.drop 2).take 3)) (grownCap w (ofL ((t.drop 2).take 3)).size 0 5))[k]? = some (.int .u8 (((t.drop 2).take 3)[k].toNat : Int)) := by
      intro k hk
      rw [bytesRow_at _ _ _ (show k < (ofL ((t.drop 2).take 3)).data.size from hk)]
      rfl
    rw [hsz] at hck ⊢
    clear hd3 hsz
    generalize hdd : (t.drop 2).take 3 = dd at *
    have HDD : Hid _ := hdd
    generalize grownCap w 3 0 5 = cap at *
    generalize bytesRow (ofL dd) cap = row at *
    have hcell : ∀ (k : Nat) (hk : k < dd.length), (w.drew.alloc (.cells row 5 (row.size, row.size + 1))).cell? ⟨w.heap.size, k, none⟩ = some (.int .u8 (dd[k].toNat : Int)) := by
      intro k hk
      rw [← hck k hk]
      have hh : (w.drew.alloc (.cells row 5 (row.size, row.size + 1))).heap[w.heap.size]? = some (.cells row 5 (row.size, row.size + 1)) := by
        show (w.heap.push (.cells row 5 (row.size, row.size + 1)))[w.heap.size]? = _
        simp
      unfold World.cell?
      rw [hh]; rfl
    have HB : Hid (Below w.heap.size w (w.drew.alloc (.cells row 5 (row.size, row.size + 1)))) := (Below.refl _ w).drew.alloc (Nat.le_refl _) _
    clear hdd hck hl
    generalize w.drew.alloc (.cells row 5 (row.size, row.size + 1)) = w1 at *
    go_wp2_with fail
    go_loop [6, 19] (fun n i => ∃ k : Nat, k ≤ 3 ∧ i = .int .i64 k ∧ n = .int .i64 (idK dd k)) (fun _ i => 3 - (intOf i).toNat)
    case atStart => exact ⟨0, Nat.zero_le _, rfl, rfl⟩
    case round =>
      obtain ⟨k, hk, rfl, rfl⟩ := hrel
      have hdd3 := HD.out
      by_cases hlt : k < 3
      · have hb := hcell k (by omega)
        have HS : Hid (idK dd (k + 1) = 16 * idK dd k + undig (dd[k]'(by omega))) := idK_succ dd k (by omega)
        have hlt1 := idK_lt dd k (by omega)
        have hlt2 : idK dd k < 4096 := Nat.lt_of_lt_of_le hlt1 (Nat.pow_le_pow_right (n := 16) (by decide) (show k ≤ 3 by omega))
        have hu := undig_lt (dd[k]'(by omega))
        have hor := i64_or16 (idK dd k) (undig (dd[k]'(by omega))) (by omega) hu
        generalize dd[k]'(by omega) = b at *
        clear hlt1
        generalize hi1 : idK dd (k + 1) = i1 at *
        have HI : Hid (idK dd (k + 1) = i1) := hi1
        clear hi1
        generalize idK dd k = i0 at *
        have HU : Hid (undig b < 16) := hu
        have HL2 : Hid (i0 < 4096) := hlt2
        have HOR : Hid _ := hor
        clear hor hlt2 hu hdd3
        go_wp2_with fail
        refine (pvalue_any b _).mono ?_
        rintro e w2 ⟨rfl, rfl⟩
        generalize undig b = u at *
        have hw : wrap64 ((i0 : Int) * 16) = (i0 : Int) * 16 := by have := HL2.out; unfold wrap64; omega
        have hor : bits .or .i64 ((i0 : Int) * 16) (u : Int) = (i1 : Int) := by rw [HOR.out, HS.out]
        rw [hw]
        have HI1 : Hid (idK dd (k + 1) = i1) := HI
        clear hw HOR HS HL2 HU
        generalize (i0 : Int) * 16 = m at *
        go_wp2_with fail
        go_round
        case rel => exact ⟨k + 1, by omega, by go_num, by rw [HI1.out]⟩
        case measure => simp [intOf]; omega
      · have hk3 : k = 3 := by omega
        subst hk3
        have hid := HID.out
        have HPL : Hid (passId t < 4096) := passId_lt t
        rw [← hid]
        clear hid
        have hty : (ofL (passL s (passId t)) = ofL t) = (passL s (passId t) = t) := by rw [eq_iff_iff]; exact ⟨ofL_inj, congrArg ofL⟩
        have HTY : Hid (_ = _) := hty
        clear hty
        generalize passId t = id at *
        go_wp2_with fail
        refine (make_ok (ofL s) id _ (by omega) (by have := HPL.out; omega) (by rw [ofL_size]; have := HSZ.out; omega) (HT.out.below HB.out)).mono ?_
        rintro e w2 ⟨rfl, hb2⟩
        rw [passB_L]
        have HB2 : Hid (Below w.heap.size w w2) := HB.out.trans (hb2.mono HB.out.size)
        have he : w2.cell? ⟨5, 0, none⟩ = some v := (HB2.out.cell (p := ⟨5, 0, none⟩) HE.out.2).trans HE.out.1
        have hq : ((ofL (passL s id)).toList == (ofL t).toList) = decide (passL s id = t) := by
          rw [eq_toList, Bool.eq_iff_iff, beq_iff_eq, decide_eq_true_iff]; rfl
        clear hcell
        by_cases c : passL s id = t
        · rw [c, decide_eq_true rfl] at hq
          rw [c]
          have HC : Hid (passL s id = t) := c
          clear c
          go_wp2_with fail
          refine bodyPost_ret (v := .tuple #[.int .i64 id, .nilIface]) (by simp [results, Tryz.results114, go_sem]) rfl ⟨?_, HB2.out⟩
          rw [HY.out HC.out]
        · rw [decide_eq_false c] at hq
          have HC : Hid (¬ passL s id = t) := c
          clear c
          generalize ofL (passL s id) = mb at *
          go_wp2_with fail
          go_quiet (fail)
          go_wp2
          refine bodyPost_ret (v := .tuple #[.int .i64 0, v]) (by simp [results, Tryz.results114, go_sem]) rfl ⟨?_, below_drewN HB2.out _⟩
          rw [HN.out (fun h => HC.out h.2)]
  · have hp : preadV v (passOf s t) = .tuple #[.int .i64 0, v] := preadV_none (fun h => h9 h.1)
    have HP : Hid (_ = _) := hp
    clear hp
    have he := HE.out.1
    go_enter Tryz.func114, Tryz.ntmps114
    go_wp2_with fail
    go_quiet (fail)
    go_wp2
    refine bodyPost_ret (v := .tuple #[.int .i64 0, v]) (by simp [results, Tryz.results114, go_sem]) rfl ⟨?_, below_drewN (Below.refl _ _) _⟩
    rw [HP.out]
end Go.Proofs.YtmnajomkfnkmeaaGreatDoor
