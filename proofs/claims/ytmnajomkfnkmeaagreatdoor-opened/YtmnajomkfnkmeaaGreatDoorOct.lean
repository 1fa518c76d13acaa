import Derived.Test.YtmnajomkfnkmeaaGreatDoorRows
import Derived.Test.YtmnajomkfnkmeaaGreatDoorPure
import Derived.WalkKit
import Derived.WalkSpells
import Derived.WalkLawsBesides
import Derived.BigQuiet
import Derived.Deep.QuietTactic
import Derived.BigRegion
namespace Go.Proofs.YtmnajomkfnkmeaaGreatDoor
open Go.RowKit

def hexDig (n : Nat) : UInt8 := [48, 49, 50, 51, 52, 53, 54, 55, 56, 57, 97, 98, 99, 100, 101, 102].getD n 0

/-- the sum of a text, from a number on -/
def sumL (a : Nat) (l : List UInt8) : Nat := l.foldl (fun s b => (263 * s + b.toNat + 1) % 65521) a
theorem sumL_snoc (a : Nat) (l : List UInt8) (b : UInt8) : sumL a (l ++ [b]) = (263 * sumL a l + b.toNat + 1) % 65521 := by simp [sumL, List.foldl_append]
theorem sumL_append (a : Nat) (l m : List UInt8) : sumL a (l ++ m) = sumL (sumL a l) m := by simp [sumL, List.foldl_append]
theorem sumL_lt (a : Nat) (l : List UInt8) (h : a < 65521) : sumL a l < 65521 := by
  induction l generalizing a with
  | nil => exact h
  | cons b l ih => exact ih _ (Nat.mod_lt _ (by decide))
theorem take_snoc (s : ByteArray) (k : Nat) (h : k < s.size) : s.data.toList.take (k + 1) = s.data.toList.take k ++ [s[k]] := by
  rw [List.take_succ_eq_append_getElem (by simpa using h)]; rfl

set_option maxHeartbeats 400000 in
theorem refsum_any (s : ByteArray) (w : World) (hs : s.size ≤ maxLen) :
    Calls Tryz.prog 140 #[.string s] w fun e w' => e = .returned (.int .i64 (sumL 1 s.data.toList)) ∧ w' = w := by
  unfold maxLen at hs
  go_enter Tryz.func140, Tryz.ntmps140
  go_wp2
  go_loop [3, 4] (fun n i => ∃ k : Nat, k ≤ s.size ∧ i = .int .i64 k ∧ n = .int .i64 (sumL 1 (s.data.toList.take k))) (fun _ i => s.size - (intOf i).toNat)
  case atStart => exact ⟨0, Nat.zero_le _, rfl, rfl⟩
  case round =>
    obtain ⟨k, hk, rfl, rfl⟩ := hrel
    have hd := sumL_lt 1 (s.data.toList.take k) (by decide)
    by_cases hlt : k < s.size
    · have hsn := sumL_snoc 1 (s.data.toList.take k) s[k]
      have hts := take_snoc s k hlt
      have hb : s[k].toNat < 256 := s[k].toNat_lt
      have HS : Hid (sumL 1 (s.data.toList.take (k + 1)) = (263 * sumL 1 (s.data.toList.take k) + s[k].toNat + 1) % 65521) := by rw [hts]; exact hsn
      clear hsn hts
      go_wp2
      go_round
      case rel => exact ⟨k + 1, by omega, by go_num, by rw [HS.out]; go_num⟩
      case measure => simp [intOf]; omega
    · go_wp2
      go_ret
      exact ⟨by rw [List.take_of_length_le (by simp; omega)]; rfl, rfl⟩

set_option maxHeartbeats 400000 in
theorem sumOn_any (a : Nat) (s : ByteArray) (w : World) (hs : s.size ≤ maxLen) (ha : a < 65521) :
    Calls Tryz.prog 144 #[.int .u32 a, .string s] w fun e w' => e = .returned (.int .u32 (sumL a s.data.toList)) ∧ w' = w := by
  unfold maxLen at hs
  go_enter Tryz.func144, Tryz.ntmps144
  go_wp2
  go_loop [0, 5] (fun n i => ∃ k : Nat, k ≤ s.size ∧ i = .int .i64 k ∧ n = .int .u32 (sumL a (s.data.toList.take k))) (fun _ i => s.size - (intOf i).toNat)
  case atStart => exact ⟨0, Nat.zero_le _, rfl, rfl⟩
  case round =>
    obtain ⟨k, hk, rfl, rfl⟩ := hrel
    have hd := sumL_lt a (s.data.toList.take k) ha
    by_cases hlt : k < s.size
    · have hsn := sumL_snoc a (s.data.toList.take k) s[k]
      have hts := take_snoc s k hlt
      have hb : s[k].toNat < 256 := s[k].toNat_lt
      have HS : Hid (sumL a (s.data.toList.take (k + 1)) = (263 * sumL a (s.data.toList.take k) + s[k].toNat + 1) % 65521) := by rw [hts]; exact hsn
      clear hsn hts
      go_wp2
      go_round
      case rel => exact ⟨k + 1, by omega, by go_num, by rw [HS.out]; go_num⟩
      case measure => simp [intOf]; omega
    · go_wp2
      go_ret
      exact ⟨by rw [List.take_of_length_le (by simp; omega)]; rfl, rfl⟩

/-- the bytes of several texts behind one another -/
def joinL (l : List ByteArray) : List UInt8 := (l.map fun s => s.data.toList).flatten
theorem joinL_snoc (l : List ByteArray) (s : ByteArray) : joinL (l ++ [s]) = joinL l ++ s.data.toList := by simp [joinL]
theorem take_snocB (l : List ByteArray) (k : Nat) (h : k < l.length) : l.take (k + 1) = l.take k ++ [l.getD k ByteArray.empty] := by
  rw [List.take_succ_eq_append_getElem h]; simp [List.getD, List.getElem?_eq_getElem h]

set_option maxHeartbeats 400000 in
theorem octsum_any (b : Nat) (l : List ByteArray) (c : Nat) (w : World) (hl : l.length < 9223372036854775807) (hs : ∀ s ∈ l, s.size ≤ maxLen)
    (hc : ∀ i, i < l.length → w.cell? ⟨b, i, none⟩ = some (.string (l.getD i ByteArray.empty))) :
    Calls Tryz.prog 102 #[.slice (some ⟨b, 0, none⟩) l.length c] w fun e w' => e = .returned (.int .u16 (sumL 1 (joinL l))) ∧ w' = w := by
  go_enter Tryz.func102, Tryz.ntmps102
  go_wp2
  go_loop [3, 8] (fun n i => ∃ k : Nat, k ≤ l.length ∧ i = .int .i64 k ∧ n = .int .u32 (sumL 1 (joinL (l.take k)))) (fun _ i => l.length - (intOf i).toNat)
  case atStart => exact ⟨0, Nat.zero_le _, rfl, rfl⟩
  case round =>
    obtain ⟨k, hk, rfl, rfl⟩ := hrel
    have hd := sumL_lt 1 (joinL (l.take k)) (by decide)
    by_cases hlt : k < l.length
    · have hck := hc k hlt
      have hsk : (l.getD k ByteArray.empty).size ≤ maxLen := hs _ (by simp [List.getD, List.getElem?_eq_getElem hlt])
      have HS : Hid (sumL 1 (joinL (l.take (k + 1))) = sumL (sumL 1 (joinL (l.take k))) (l.getD k ByteArray.empty).data.toList) := by
        rw [take_snocB l k hlt, joinL_snoc, sumL_append]; rfl
      generalize l.getD k ByteArray.empty = t at *
      generalize hk1 : sumL 1 (joinL (l.take (k + 1))) = sk1 at *
      generalize sumL 1 (joinL (l.take k)) = sk at *
      have HK : Hid _ := hk1
      clear hk1
      clear hc hs
      go_wp2_with fail
      refine (sumOn_any _ _ _ hsk hd).mono ?_
      rintro e w' ⟨rfl, rfl⟩
      go_wp2_with fail
      go_round
      case rel => exact ⟨k + 1, by omega, by go_num, by rw [HK.out, HS.out]⟩
      case measure => simp [intOf]; omega
    · go_wp2
      go_ret
      exact ⟨by rw [List.take_of_length_le (by omega)]; rfl, rfl⟩

end Go.Proofs.YtmnajomkfnkmeaaGreatDoor
