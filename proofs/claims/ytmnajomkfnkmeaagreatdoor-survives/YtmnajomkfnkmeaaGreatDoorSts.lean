import Derived.Test.YtmnajomkfnkmeaaGreatDoorActs
import Derived.Test.YtmnajomkfnkmeaaGreatDoorTold
import Derived.Test.YtmnajomkfnkmeaaGreatDoorKnown
import Derived.Test.YtmnajomkfnkmeaaGreatDoorLived
namespace Go.Proofs.YtmnajomkfnkmeaaGreatDoor
open Go.RowKit Go.Conc
/-! what the statements' walks want besides -/
theorem passL_len (s : Bs) (n : Nat) : (passL s n).length = 9 := rfl
theorem login_len (m : Kp) (u : Int) : (m.login u).1.length ≤ 9 := by
  unfold Kp.login
  split
  · exact Nat.zero_le _
  split
  · exact Nat.zero_le _
  split
  · exact Nat.zero_le _
  split
  · exact Nat.zero_le _
  · split
    · exact Nat.le_of_eq (passL_len _ _)
    · exact Nat.zero_le _
theorem rotate_len (m : Kp) (p : Bs) : (m.rotate p).1.length ≤ 9 := by
  unfold Kp.rotate
  split
  · split
    · exact Nat.zero_le _
    · split
      · exact Nat.le_of_eq (passL_len _ _)
      · exact Nat.zero_le _
  · exact Nat.zero_le _
theorem actK_len (m : Kp) (v : Nat) (ps : List Bs) : (actK m v ps).1.length ≤ 9 := by
  unfold actK
  split
  · exact login_len _ _
  split
  · exact Nat.zero_le _
  split
  · exact Nat.zero_le _
  split
  · exact rotate_len _ _
  split
  · exact Nat.zero_le _
  split
  · exact Nat.zero_le _
  · exact Nat.zero_le _
theorem wrap64_rng (x : Int) : -9223372036854775808 ≤ wrap64 x ∧ wrap64 x ≤ 9223372036854775807 := by unfold wrap64; omega
theorem good_left_len {m : Kp} (h : Good m) (keep torn part : Int) : (m.left keep torn part).length ≤ 9223372036854775807 := by
  rw [left_up h]
  have := h.holds.size
  unfold okSize at this
  omega
/-- a slice of ints that came in, whatever its shape -/
def IntsV (w : World) (v : Value) (zs : List Int) : Prop := (v = .slice none 0 0 ∧ zs = []) ∨ ∃ a cap, v = .slice (some a) zs.length cap ∧ IntsAt w a zs
theorem snoc_le {ps : List Bs} {q : Bs} (h : ∀ p ∈ ps, p.length ≤ 9) (hq : q.length ≤ 9) : ∀ p ∈ ps ++ [q], p.length ≤ 9 := by
  intro p hp
  rcases List.mem_append.1 hp with h1 | h1
  · exact h p h1
  · rw [List.mem_singleton.1 h1]; exact hq
end Go.Proofs.YtmnajomkfnkmeaaGreatDoor
