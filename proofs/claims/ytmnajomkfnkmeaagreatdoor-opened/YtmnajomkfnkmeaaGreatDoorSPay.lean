import Derived.Test.YtmnajomkfnkmeaaGreatDoorRSess
import Derived.Test.YtmnajomkfnkmeaaGreatDoorStaD
import Derived.Test.YtmnajomkfnkmeaaGreatDoorPurB
namespace Go.Proofs.YtmnajomkfnkmeaaGreatDoor
open Go.RowKit
attribute [local go_sem] ofL_size nA_size
theorem vals_snoc {l : List (Bs × Bs)} {k : Nat} (h : k < l.length) : valsB (l.take (k + 1)) = valsB (l.take k) ++ (tB l[k].1 ++ tB l[k].2) := by
  unfold valsB
  rw [List.take_succ_eq_append_getElem h, List.map_append, List.flatten_append]
  simp
theorem vals_len {l : List (Bs × Bs)} (h : ∀ y ∈ l, valOk y) : (valsB l).length ≤ 18 * l.length := by
  induction l with
  | nil => simp [valsB]
  | cons y l ih =>
    have h1 := h y (by simp)
    have h2 := ih (fun z hz => h z (by simp [hz]))
    have h3 : (valsB (y :: l)).length = (tB y.1).length + (tB y.2).length + (valsB l).length := by
      unfold valsB; simp; omega
    rw [h3, tB_length, tB_length, List.length_cons]
    unfold valOk at h1
    omega
theorem vals_small {l : List (Bs × Bs)} (h : ∀ y ∈ l, valOk y) {k : Nat} (hk : l.length ≤ 3) : (valsB (l.take k)).length ≤ 1000 := by
  have := vals_len (l := l.take k) (fun y hy => h y (List.mem_of_mem_take hy))
  have h2 : (l.take k).length ≤ 3 := by rw [List.length_take]; omega
  omega
end Go.Proofs.YtmnajomkfnkmeaaGreatDoor
