import Derived.Test.YtmnajomkfnkmeaaGreatDoorFr
import Derived.Test.YtmnajomkfnkmeaaGreatDoorShelf
import Derived.Lib.EndianBits
namespace Go.Proofs.YtmnajomkfnkmeaaGreatDoor
open Go.RowKit
attribute [local go_sem] ofL_size

theorem rs {a b : ByteArray} (h : a = b) : Ending.returned (.string a) = .returned (.string b) := by rw [h]
theorem ri {k : IntKind} {a b : Int} (h : a = b) : Ending.returned (.int k a) = .returned (.int k b) := by rw [h]
theorem rb {a b : Bool} (h : a = b) : Ending.returned (.bool a) = .returned (.bool b) := by rw [h]

/-- THE CODE's READER in a block: what is left, whether it was short; behind these two cells tl -/
def RAt (w : World) (b : Nat) (r : Rd) (tl : List Value) (T : TypeId) : Prop := Blk w b (.string (ofL r.rest) :: .bool r.short :: tl).toArray T
theorem RAt.c0 {w : World} {b : Nat} {r : Rd} {tl : List Value} {T : TypeId} (h : RAt w b r tl T) : w.cell? ⟨b, 0, none⟩ = some (.string (ofL r.rest)) := by have := Blk.cell h 0; simpa using this
theorem RAt.c1 {w : World} {b : Nat} {r : Rd} {tl : List Value} {T : TypeId} (h : RAt w b r tl T) : w.cell? ⟨b, 1, none⟩ = some (.bool r.short) := by have := Blk.cell h 1; simpa using this
theorem RAt.fr {w : World} {b : Nat} {r : Rd} {tl : List Value} {T : TypeId} (h : RAt w b r tl T) (i : Nat) : w.frozen? ⟨b, i, none⟩ = false := Blk.frozen h i
theorem RAt.set0 {w : World} {b : Nat} {r : Rd} {tl : List Value} {T : TypeId} (h : RAt w b r tl T) (l : Bs) (s : ByteArray) (hs : s = ofL l) : RAt (w.setCell ⟨b, 0, none⟩ (.string s)) b ⟨l, r.short, r.out⟩ tl T := by
  subst hs
  have := Blk.set h 0 (.string (ofL l))
  unfold RAt
  simpa using this
theorem RAt.set1 {w : World} {b : Nat} {r : Rd} {tl : List Value} {T : TypeId} (h : RAt w b r tl T) : RAt (w.setCell ⟨b, 1, none⟩ (.bool true)) b ⟨r.rest, true, r.out⟩ tl T := by
  have := Blk.set h 1 (.bool true)
  unfold RAt
  simpa using this
theorem repeatZ (n : Nat) : (⟨(Lib.repeatL [0] n).toArray⟩ : ByteArray) = ofL (zeros n) := by
  have : Lib.repeatL [(0 : UInt8)] n = List.replicate n 0 := by simpa using Lib.repeatL_replicate (0 : UInt8) 1 n
  rw [this]; rfl
theorem extract_take (l : Bs) (n : Nat) : (ofL l).extract 0 n = ofL (l.take n) := by rw [extract_ofL, List.drop_zero, Nat.sub_zero]
theorem extract_drop (l : Bs) (n : Nat) : (ofL l).extract n l.length = ofL (l.drop n) := by rw [extract_ofL, List.take_of_length_le (by simp)]

set_option maxHeartbeats 400000 in
theorem rtext_any (b : Nat) (r : Rd) (tl : List Value) (T : TypeId) (n : Nat) (w : World) (h : RAt w b r tl T) (hn : n ≤ 1000) :
    Calls Tryz.prog 232 #[.pointer (some ⟨b, 0, none⟩), .int .i64 n] w fun e w' => e = .returned (.string (ofL (rdText n r).1)) ∧ RAt w' b (rdText n r).2 tl T ∧ Fr (· = b) w w' := by
  have c0 := h.c0
  have c1 := h.c1
  have f0 := h.fr 0
  have f1 := h.fr 1
  have HH : Hid (RAt w b r tl T) := h
  have hz : (ofL r.rest).size = r.rest.length := rfl
  have hs1 : ({ data := #[0] } : ByteArray).size = 1 := rfl
  clear h
  by_cases hc : r.rest.length < n
  · have HT : Hid (rdText n r = (zeros n, ⟨[], true, r.out⟩)) := by show _ = _; unfold rdText; rw [if_pos hc]
    go_enter Tryz.func232, Tryz.ntmps232
    go_wp2_with fail
    refine (Tryz.strings_Repeat { data := #[0] } n _ (by omega) (by rw [hs1]; omega)).mono ?_
    rintro e w1 ⟨rfl, hb1⟩
    go_wp2_with fail
    go_ret
    rw [HT.out]
    have hs : RAt ((w.setCell ⟨b, 0, none⟩ (.string { data := #[] })).setCell ⟨b, 1, none⟩ (.bool true)) b ⟨[], true, r.out⟩ tl T := (HH.out.set0 [] _ rfl).set1
    exact ⟨rs (repeatZ n), Blk.below hs hb1, (((Fr.refl (· = b) w).setCell _ (fun _ => rfl) _).setCell _ (fun _ => rfl) _).trans (Fr.of_below hb1) (fun _ _ h => h)⟩
  · have HT : Hid (rdText n r = (r.rest.take n, ⟨r.rest.drop n, r.short, r.out⟩)) := by show _ = _; unfold rdText; rw [if_neg hc]
    go_enter Tryz.func232, Tryz.ntmps232
    go_wp2_with fail
    go_ret
    rw [HT.out]
    refine ⟨rs (extract_take _ _), ?_, (Fr.refl (· = b) w).setCell _ (fun _ => rfl) _⟩
    exact HH.out.set0 _ _ (extract_drop _ _)

theorem rdText_out (n : Nat) (r : Rd) : (rdText n r).2.out = r.out := by unfold rdText; split <;> rfl
theorem rdText_size (n : Nat) (r : Rd) : (rdText n r).1.length = n := by
  unfold rdText zeros; split
  · simp
  · rename_i c; rw [List.length_take_of_le]; omega
theorem rtextI (b : Nat) (r : Rd) (tl : List Value) (T : TypeId) (n : Nat) (m : Int) (w : World) (h : RAt w b r tl T) (hn : n ≤ 1000) (hm : m = n) :
    Calls Tryz.prog 232 #[.pointer (some ⟨b, 0, none⟩), .int .i64 m] w fun e w' => e = .returned (.string (ofL (rdText n r).1)) ∧ RAt w' b (rdText n r).2 tl T ∧ Fr (· = b) w w' := hm ▸ rtext_any b r tl T n w h hn
theorem numL1 {l : Bs} (h : l.length = 1) : ∃ x, l = [x] ∧ numL l = x.toNat := by
  match l, h with
  | [x], _ => exact ⟨x, rfl, by simp [numL]⟩
theorem numL2 {l : Bs} (h : l.length = 2) : ∃ x y, l = [x, y] ∧ numL l = x.toNat + 256 * y.toNat := by
  match l, h with
  | [x, y], _ => exact ⟨x, y, rfl, by simp [numL]⟩
set_option maxHeartbeats 400000 in
theorem rone_any (b : Nat) (r : Rd) (tl : List Value) (T : TypeId) (w : World) (h : RAt w b r tl T) :
    Calls Tryz.prog 208 #[.pointer (some ⟨b, 0, none⟩)] w fun e w' => e = .returned (.int .u8 (rdOne r).1) ∧ RAt w' b (rdOne r).2 tl T ∧ Fr (· = b) w w' := by
  have HH : Hid (RAt w b r tl T) := h
  clear h
  obtain ⟨x, hx, hnx⟩ := numL1 (rdText_size 1 r)
  have HE : Hid ((rdOne r) = (x.toNat, (rdText 1 r).2)) := by show _ = _; unfold rdOne; rw [hnx]
  have HX : Hid ((rdText 1 r).1 = [x]) := hx
  clear hx hnx
  go_enter Tryz.func208, Tryz.ntmps208
  go_wp2_with fail
  refine (rtextI b r tl T 1 1 _ HH.out (by omega) rfl).mono ?_
  rintro e w1 ⟨rfl, h1, hf1⟩
  rw [HX.out]
  have H1 : Hid _ := h1
  clear h1
  have hsz : (ofL [x]).size = 1 := rfl
  have hg : (ofL [x])[0] = x := rfl
  go_wp2_with fail
  go_ret
  rw [HE.out]
  exact ⟨rfl, H1.out, hf1⟩
set_option maxHeartbeats 400000 in
theorem rtwo_any (b : Nat) (r : Rd) (tl : List Value) (T : TypeId) (w : World) (h : RAt w b r tl T) :
    Calls Tryz.prog 230 #[.pointer (some ⟨b, 0, none⟩)] w fun e w' => e = .returned (.int .u16 (rdTwo r).1) ∧ RAt w' b (rdTwo r).2 tl T ∧ Fr (· = b) w w' := by
  have HH : Hid (RAt w b r tl T) := h
  clear h
  obtain ⟨x, y, hx, hnx⟩ := numL2 (rdText_size 2 r)
  have HE : Hid ((rdTwo r) = (x.toNat + 256 * y.toNat, (rdText 2 r).2)) := by show _ = _; unfold rdTwo; rw [hnx]
  have HX : Hid ((rdText 2 r).1 = [x, y]) := hx
  clear hx hnx
  go_enter Tryz.func230, Tryz.ntmps230
  go_wp2_with fail
  refine (rtextI b r tl T 2 2 _ HH.out (by omega) rfl).mono ?_
  rintro e w1 ⟨rfl, h1, hf1⟩
  rw [HX.out]
  have H1 : Hid _ := h1
  clear h1
  have hsz : (ofL [x, y]).size = 2 := rfl
  have hg : (ofL [x, y])[0] = x := rfl
  have hg1 : (ofL [x, y])[1] = y := rfl
  have hx := x.toNat_lt
  have hy := y.toNat_lt
  have hor : bits .or .u16 (x.toNat : Int) ((y.toNat : Int) * 256) = (x.toNat : Int) + (y.toNat : Int) * 256 := by apply Go.u16_or8 <;> omega
  go_wp2_with fail
  go_quiet (fail)
  go_wp2_with fail
  go_ret
  rw [HE.out]
  exact ⟨ri (by omega), H1.out, hf1.drewN _⟩
theorem rdTwo_lt (r : Rd) : (rdTwo r).1 < 65536 := by
  have := numL_lt (rdText 2 r).1
  rw [rdText_size] at this
  exact this
theorem rdOne_lt (r : Rd) : (rdOne r).1 < 256 := by
  have := numL_lt (rdText 1 r).1
  rw [rdText_size] at this
  exact this
set_option maxHeartbeats 400000 in
theorem rfour_any (b : Nat) (r : Rd) (tl : List Value) (T : TypeId) (w : World) (h : RAt w b r tl T) :
    Calls Tryz.prog 229 #[.pointer (some ⟨b, 0, none⟩)] w fun e w' => e = .returned (.int .u32 (rdFour r).1) ∧ RAt w' b (rdFour r).2 tl T ∧ Fr (· = b) w w' := by
  have HH : Hid (RAt w b r tl T) := h
  clear h
  have HE : Hid (rdFour r = ((rdTwo r).1 + 65536 * (rdTwo (rdTwo r).2).1, (rdTwo (rdTwo r).2).2)) := rfl
  have b1 := rdTwo_lt r
  have b2 := rdTwo_lt (rdTwo r).2
  go_enter Tryz.func229, Tryz.ntmps229
  go_wp2_with fail
  refine (rtwo_any b r tl T _ HH.out).mono ?_
  rintro e w1 ⟨rfl, h1, hf1⟩
  have H1 : Hid (RAt w1 b (rdTwo r).2 tl T) := h1
  clear h1
  generalize rdTwo r = p at *
  obtain ⟨p1, p2⟩ := p
  go_wp2_with fail
  refine (rtwo_any b p2 tl T _ H1.out).mono ?_
  rintro e w2 ⟨rfl, h2, hf2⟩
  have H2 : Hid (RAt w2 b (rdTwo p2).2 tl T) := h2
  clear h2
  generalize rdTwo p2 = q at *
  obtain ⟨q1, q2⟩ := q
  have hor : bits .or .u32 (p1 : Int) ((q1 : Int) * 65536) = (p1 : Int) + (q1 : Int) * 65536 := by apply Go.u32_or16 <;> omega
  go_wp2_with fail
  go_ret
  rw [HE.out]
  exact ⟨ri (by simp only; omega), H2.out, hf1.trans hf2 (fun _ _ h => h)⟩
set_option maxHeartbeats 400000 in
theorem whole_any (b : Nat) (r : Rd) (tl : List Value) (T : TypeId) (w : World) (h : RAt w b r tl T) :
    Calls Tryz.prog 231 #[.pointer (some ⟨b, 0, none⟩)] w fun e w' => e = .returned (.bool (r.rest == [] && !r.short)) ∧ ∃ n, w' = w.drewN n := by
  have c0 := h.c0
  have c1 := h.c1
  clear h
  obtain ⟨l, sh, o⟩ := r
  simp only at c0 c1
  cases l with
  | nil =>
    have e0 : (ofL []).toList = [] := by rw [toList_toL]; rfl
    go_enter Tryz.func231, Tryz.ntmps231
    go_wp2_with fail
    go_ret
    exact ⟨rb (by simp), 0, rfl⟩
  | cons x l =>
    have e0 : ((ofL (x :: l)).toList == []) = false := by rw [toList_toL]; rfl
    go_enter Tryz.func231, Tryz.ntmps231
    go_wp2_with fail
    go_ret
    exact ⟨rb (by simp), 0, rfl⟩
end Go.Proofs.YtmnajomkfnkmeaaGreatDoor
