import Derived.Test.YtmnajomkfnkmeaaGreatDoorOct
namespace Go.Proofs.YtmnajomkfnkmeaaGreatDoor
open Go.RowKit
attribute [local go_sem] hexB_size

/-- the digits lie where they lie -/
def DigitsIn (w : World) : Prop := 4 < w.heap.size ∧ ∀ i : Nat, i < 16 → w.cell? ⟨4, i, none⟩ = some (.int .u8 (hexDig i).toNat)
theorem DigitsIn.below {w w1 : World} (h : DigitsIn w) (hb : Below w.heap.size w w1) : DigitsIn w1 :=
  ⟨Nat.lt_of_lt_of_le h.1 hb.size, fun i hi => (hb.cell (p := ⟨4, i, none⟩) h.1).trans (h.2 i hi)⟩

set_option maxHeartbeats 400000 in
theorem make_err (secret : ByteArray) (id : Int) (v : Value) (w : World) (h : id < 0 ∨ 4096 ≤ id) (he : w.cell? ⟨0, 0, none⟩ = some v) :
    Calls Tryz.prog 52 #[.string secret, .int .i64 id] w fun e w' => e = .returned (.tuple #[.string ByteArray.empty, v]) ∧ Below w.heap.size w w' := by
  by_cases hn : id < 0
  · go_enter Tryz.func52, Tryz.ntmps52
    go_wp2_with fail
    go_quiet (fail)
    go_wp2
    go_ret2
    exact ⟨rfl, below_drewN (Below.refl _ _) _⟩
  · have hn2 : 4096 ≤ id := by omega
    clear h
    go_enter Tryz.func52, Tryz.ntmps52
    go_wp2_with fail
    go_quiet (fail)
    go_wp2
    go_ret2
    exact ⟨rfl, below_drewN (Below.refl _ _) _⟩
set_option maxHeartbeats 400000 in
theorem make_ok (secret : ByteArray) (id : Int) (w : World) (h0 : 0 ≤ id) (h1 : id < 4096) (hs : secret.size < 9223372036854775800) (ht : DigitsIn w) :
    Calls Tryz.prog 52 #[.string secret, .int .i64 id] w fun e w' => e = .returned (.tuple #[.string (passB secret id), .nilIface]) ∧ Below w.heap.size w w' := by
  have HT : Hid (DigitsIn w) := ht
  clear ht
  go_enter Tryz.func52, Tryz.ntmps52
  go_wp2_with fail
  refine (three_any _ _ HT.out.2).mono ?_
  rintro e w1 ⟨rfl, hb1⟩
  go_wp2_with fail
  have Hs : ∀ t ∈ [secret, frontB id], t.size ≤ maxLen := by
    intro t ht; simp at ht; rcases ht with rfl | rfl
    · unfold maxLen; omega
    · rw [front_size]; decide
  refine (octsum_any w1.heap.size [secret, frontB id] 2 _ (by simp) Hs ?_).mono ?_
  · intro i hi
    have hi2 : i < 2 := hi
    match i, hi2 with
    | 0, _ => simp [go_sem]
    | 1, _ => simp [go_sem]; rfl
  rintro e w2 ⟨rfl, rfl⟩
  rw [show sumL 1 (joinL [secret, frontB id]) = passSum secret id by simp [joinL, passSum]]
  have hb : passSum secret id < 65521 := sumL_lt _ _ (by decide)
  have HB : Hid (frontB id ++ hexB ((passSum secret id : Int) % 256) ++ hexB ((passSum secret id : Int) / 256) = passB secret id) := rfl
  generalize passSum secret id = n at *
  have HT1 : Hid (DigitsIn (w1.alloc (Obj.cells #[Value.string secret, Value.string ({ data := #[118, 49] } ++ threeB id)] 9))) := HT.out.below (hb1.alloc hb1.size _)
  have hbX : Below w.heap.size w (w1.alloc (Obj.cells #[Value.string secret, Value.string ({ data := #[118, 49] } ++ threeB id)] 9)) := hb1.alloc hb1.size _
  generalize w1.alloc (Obj.cells #[Value.string secret, Value.string ({ data := #[118, 49] } ++ threeB id)] 9) = w2 at *
  go_wp2_with fail
  refine (two_any _ _ (by omega) (by omega) HT1.out.2).mono ?_
  rintro e w3 ⟨rfl, hb3⟩
  go_wp2_with fail
  have HT3 : Hid (DigitsIn w3) := HT1.out.below hb3
  refine (two_any _ _ (by omega) (by omega) HT3.out.2).mono ?_
  rintro e w4 ⟨rfl, hb4⟩
  go_wp2_with fail
  go_ret2
  refine ⟨?_, hbX.trans ((hb3.trans (hb4.mono hb3.size)).mono hbX.size)⟩
  exact congrArg (fun b => Ending.returned (Value.tuple #[.string b, .nilIface])) HB.out

set_option maxHeartbeats 400000 in
theorem pass_err (secret : ByteArray) (id : Int) (t : TypeId) (v : Value) (w : World) (h : id < 0 ∨ 4096 ≤ id) (he : w.cell? ⟨0, 0, none⟩ = some (.iface t v)) :
    Calls Tryz.prog 16 #[.string secret, .int .i64 id] w fun e w' => e = .returned (.tuple #[.string ByteArray.empty, .int .i64 1]) ∧ Below w.heap.size w w' := by
  have HE : Hid (w.cell? ⟨0, 0, none⟩ = some (.iface t v)) := he
  clear he
  go_enter Tryz.func16, Tryz.ntmps16
  go_wp2_with fail
  refine (make_err _ _ _ _ h HE.out).mono ?_
  rintro e w1 ⟨rfl, hb1⟩
  go_wp2_with fail
  go_ret2
  exact ⟨rfl, hb1⟩
set_option maxHeartbeats 400000 in
theorem pass_ok (secret : ByteArray) (id : Int) (w : World) (h0 : 0 ≤ id) (h1 : id < 4096) (hs : secret.size < 9223372036854775800) (ht : DigitsIn w) :
    Calls Tryz.prog 16 #[.string secret, .int .i64 id] w fun e w' => e = .returned (.tuple #[.string (passB secret id), .int .i64 0]) ∧ Below w.heap.size w w' := by
  have HT : Hid (DigitsIn w) := ht
  clear ht
  go_enter Tryz.func16, Tryz.ntmps16
  go_wp2_with fail
  refine (make_ok _ _ _ h0 h1 hs HT.out).mono ?_
  rintro e w1 ⟨rfl, hb1⟩
  go_wp2_with fail
  go_ret2
  exact ⟨rfl, hb1⟩

end Go.Proofs.YtmnajomkfnkmeaaGreatDoor
