import Derived.Test.YtmnajomkfnkmeaaGreatDoorInsP
import Derived.Test.YtmnajomkfnkmeaaGreatDoorPChg
namespace Go.Proofs.YtmnajomkfnkmeaaGreatDoor
open Go.RowKit
open Op (bytesLess)
attribute [local go_sem] ofL_size

theorem rdName_len (r : Rd) : (rdName r).1.length < 256 := rdStr_len r
theorem rdVal_len (r : Rd) : (rdVal r).1.length < 256 := rdStr_len r
theorem rdId_lt (r : Rd) : (rdId r).1 < 65536 := rdTwo_lt r
theorem rdCount_le (m : Nat) (r : Rd) : (rdCount m r).1 ≤ m := Nat.min_le_right _ _
/-- a session that was read: its block, its values' -/
def ReadTo (w : World) (b : Nat) (x : Nat × Sess) (r : Rd) (e : Ending) (w' : World) : Prop :=
  ∃ p sl, e = .returned (.pointer (some ⟨p, 0, none⟩)) ∧ SAt w' p x.1 x.2 sl ∧ RS w' b r ∧ Fr (· = b) w w' ∧ w.heap.size ≤ p ∧ ∀ q, sl.ownBlock = some q → w.heap.size ≤ q

theorem gt_bl (a l : Bs) : (!bytesLess (ofL a).toList (ofL l).toList && !(ofL a).toList == (ofL l).toList) = bytesLess l a := by
  rw [toList_toL, toList_toL, toL_ofL, toL_ofL]
  rcases bl_total l a with h | h | h
  · subst h; simp [bl_irrefl]
  · rw [h, bl_asymm h]; simp [(bl_ne h).symm]
  · rw [h, bl_asymm h]; rfl
set_option maxHeartbeats 1000000 in
theorem rsess_any (b : Nat) (r : Rd) (w : World) (h : RS w b r) :
    Calls Tryz.prog 205 #[.pointer (some ⟨b, 0, none⟩)] w (ReadTo w b (gSess r).1 (gSess r).2) := by
  have HH : Hid (RS w b r) := h
  have hbl : b < w.heap.size := Blk.lt h
  clear h
  have HG : Hid (gSess r = gS1 (rdId r)) := rfl
  go_enter Tryz.func205, Tryz.ntmps205
  go_wp2_with fail
  refine (sid_any b r _ HH.out).mono ?_
  rintro e w1 ⟨rfl, h1, hf1⟩
  have H1 : Hid (RS w1 b (rdId r).2) := h1
  clear h1
  generalize rdId r = a at *
  obtain ⟨a1, a2⟩ := a
  have HG1 : Hid (gSess r = gS2 a1 (rdUser a2)) := HG.out
  clear HG
  go_wp2_with fail
  refine (suser_any b a2 _ H1.out).mono ?_
  rintro e w2 ⟨rfl, h2, hf2⟩
  have H2 : Hid (RS w2 b (rdUser a2).2) := h2
  clear h2 H1
  generalize rdUser a2 = u at *
  obtain ⟨u1, u2⟩ := u
  have HG2 : Hid (gSess r = gS3 a1 u1 (rdTime u2)) := HG1.out
  clear HG1
  go_wp2_with fail
  refine (stime_any b u2 _ H2.out).mono ?_
  rintro e w3 ⟨rfl, h3, hf3⟩
  have H3 : Hid (RS w3 b (rdTime u2).2) := h3
  clear h3 H2
  generalize rdTime u2 = c at *
  obtain ⟨c1, c2⟩ := c
  have HG3 : Hid (gSess r = gS4 a1 u1 c1 (rdTime c2)) := HG2.out
  clear HG2
  go_wp2_with fail
  refine (stime_any b c2 _ H3.out).mono ?_
  rintro e w4 ⟨rfl, h4, hf4⟩
  have H4 : Hid (RS w4 b (rdTime c2).2) := h4
  clear h4 H3
  generalize rdTime c2 = d at *
  obtain ⟨d1, d2⟩ := d
  have HG4 : Hid (gSess r = gTail a1 u1 c1 d1 (rdCount 3 d2)) := HG3.out
  clear HG3
  have HF4 : Hid (Fr (· = b) w w4) := ((hf1.trans hf2 (fun _ _ h => h)).trans hf3 (fun _ _ h => h)).trans hf4 (fun _ _ h => h)
  clear hf1 hf2 hf3 hf4
  go_wp2_with fail
  have H5 : Hid (RS (w4.alloc (.cells #[.int .i64 a1, .int .i64 u1, .int .i64 c1, .int .i64 d1, .slice none 0 0] 104)) b d2) := Blk.alloc H4.out _
  have HS5 : Hid (SAt (w4.alloc (.cells #[.int .i64 a1, .int .i64 u1, .int .i64 c1, .int .i64 d1, .slice none 0 0] 104)) w4.heap.size a1 ⟨u1, c1, d1, []⟩ (.slice none 0 0)) := ⟨Blk.new _ _ _, VO.nil _, by simp [Value.ownBlock]⟩
  have HF5 : Hid (Fr (· = b) w (w4.alloc (.cells #[.int .i64 a1, .int .i64 u1, .int .i64 c1, .int .i64 d1, .slice none 0 0] 104))) := HF4.out.alloc _
  have HP : Hid (w.heap.size ≤ w4.heap.size) := HF4.out.size
  have hbp : b < w4.heap.size := Nat.lt_of_lt_of_le hbl HF4.out.size
  clear H4 HF4
  generalize w4.heap.size = p at *
  generalize w4.alloc (.cells #[.int .i64 a1, .int .i64 u1, .int .i64 c1, .int .i64 d1, .slice none 0 0] 104) = w5 at *
  refine (scount_any b d2 3 _ H5.out).mono ?_
  rintro e w6 ⟨rfl, h6, hf6⟩
  have H6 : Hid (RS w6 b (rdCount 3 d2).2) := h6
  have HS6 : Hid (SAt w6 p a1 ⟨u1, c1, d1, []⟩ (.slice none 0 0)) := HS5.out.kept hf6 (by omega) (by simp [Value.ownBlock])
  have HF6 : Hid (Fr (· = b) w w6) := HF5.out.trans hf6 (fun _ _ h => h)
  have hm := rdCount_le 3 d2
  clear h6 hf6 H5 HS5 HF5
  generalize rdCount 3 d2 = m at *
  obtain ⟨m1, m2⟩ := m
  go_wp2_with fail
  go_loopw [4, 19] (fun la iv wx => ∃ (j : Nat) (last : Bs) (rj : Rd) (vs : List (Bs × Bs)) (sl : Value), j ≤ m1 ∧ iv = .int .i64 j ∧ la = .string (ofL last) ∧ Hid (gVals (m1 - j) last rj vs = gVals m1 [] m2 []) ∧ Hid (RS wx b rj) ∧ Hid (SAt wx p a1 ⟨u1, c1, d1, vs⟩ sl) ∧ Hid (Fr (· = b) w wx) ∧ Hid (rising vs) ∧ vs.length ≤ j ∧ Hid (∀ q, sl.ownBlock = some q → w.heap.size ≤ q ∧ q ≠ b)) (fun _ iv _ => m1 - (intOf iv).toNat)
  case atStart => exact ⟨0, [], m2, [], .slice none 0 0, Nat.zero_le _, rfl, rfl, rfl, H6.out, HS6.out, HF6.out, List.Pairwise.nil, Nat.zero_le _, fun q hq => by cases hq⟩
  case round =>
    obtain ⟨j, last, rj, vs, sl, hj, rfl, rfl, HGV, HR, HS, HF, HRI, hvl, HOW⟩ := hrel
    by_cases hlt : j < m1
    · have HGN : Hid (gVals (m1 - j) last rj vs = gVals (m1 - (j + 1)) (rdName rj).1 (rdMust (bytesLess last (rdName rj).1) (rdVal (rdName rj).2).2) (setVal (rdName rj).1 (rdVal (rdName rj).2).1 vs)) := by
        show _ = _
        rw [show m1 - j = (m1 - (j + 1)) + 1 by omega]; rfl
      have hnl := rdName_len rj
      have hvl2 := rdVal_len (rdName rj).2
      go_wp2_with fail
      refine (sname_any b rj _ HR.out).mono ?_
      rintro e w7 ⟨rfl, h7, hf7⟩
      have HR7 : Hid (RS w7 b (rdName rj).2) := h7
      have HS7 : Hid (SAt w7 p a1 ⟨u1, c1, d1, vs⟩ sl) := HS.out.kept hf7 (by omega) (fun q hq => (HOW.out q hq).2)
      have HF7 : Hid (Fr (· = b) w w7) := HF.out.trans hf7 (fun _ _ h => h)
      clear h7 hf7
      generalize rdName rj = nm at *
      obtain ⟨n1, n2⟩ := nm
      go_wp2_with fail
      refine (stext_any b n2 _ HR7.out).mono ?_
      rintro e w8 ⟨rfl, h8, hf8⟩
      have HR8 : Hid (RS w8 b (rdVal n2).2) := h8
      have HS8 : Hid (SAt w8 p a1 ⟨u1, c1, d1, vs⟩ sl) := HS7.out.kept hf8 (by omega) (fun q hq => (HOW.out q hq).2)
      have HF8 : Hid (Fr (· = b) w w8) := HF7.out.trans hf8 (fun _ _ h => h)
      clear h8 hf8
      generalize rdVal n2 = vl at *
      obtain ⟨v1, v2⟩ := vl
      go_wp2_with fail
      rw [gt_bl n1 last]
      generalize bytesLess last n1 = ok at *
      refine (must_any b v2 ok _ HR8.out).mono ?_
      rintro e w9 ⟨rfl, h9, hf9⟩
      have HR9 : Hid (RS w9 b (rdMust ok v2)) := h9
      have HS9 : Hid (SAt w9 p a1 ⟨u1, c1, d1, vs⟩ sl) := HS8.out.kept hf9 (by omega) (fun q hq => (HOW.out q hq).2)
      have HF9 : Hid (Fr (· = b) w w9) := HF8.out.trans hf9 (fun _ _ h => h)
      clear h9 hf9
      go_wp2_with fail
      refine (put_any p a1 ⟨u1, c1, d1, vs⟩ sl n1 v1 _ HS9.out HRI.out (by simp only; omega) (by omega) (by omega)).mono ?_
      rintro e w10 ⟨rfl, sl', hs10, hf10, how10⟩
      have HS10 : Hid (SAt w10 p a1 ⟨u1, c1, d1, setVal n1 v1 vs⟩ sl') := hs10
      have hbw : b < w9.heap.size := Nat.lt_of_lt_of_le hbl HF9.out.size
      have HR10 : Hid (RS w10 b (rdMust ok v2)) := Blk.kept HR9.out hf10 (fun h => h.elim (fun e => by omega) (fun e => (HOW.out b e).2 rfl))
      have HF10 : Hid (Fr (· = b) w w10) := HF9.out.trans hf10 (fun q hq h => h.elim (fun e => by have := HP.out; omega) (fun e => by have := (HOW.out q e).1; omega))
      have HOW10 : Hid (∀ q, sl'.ownBlock = some q → w.heap.size ≤ q ∧ q ≠ b) := fun q hq => by
        rcases how10 q hq with h | h
        · exact HOW.out q h
        · have := HF9.out.size
          exact ⟨by omega, by omega⟩
      have HRI10 : Hid (rising (setVal n1 v1 vs)) := setVal_rising n1 v1 HRI.out
      have hl10 := (setVal_length n1 v1 vs).1
      clear hs10 hf10 how10
      generalize setVal n1 v1 vs = vs' at *
      go_wp2_with fail
      go_roundw
      case rel => exact ⟨j + 1, n1, _, vs', sl', by omega, by go_num, rfl, HGN.out.symm.trans HGV.out, HR10.out, HS10.out, HF10.out, HRI10.out, by omega, HOW10.out⟩
      case measure => simp [intOf]; omega
    · obtain rfl : j = m1 := by omega
      have HE : Hid (gVals j [] m2 [] = (vs, rj)) := by
        have := HGV.out
        rw [Nat.sub_self] at this
        exact this.symm
      go_wp2_with fail
      go_ret
      refine ⟨p, sl, rfl, ?_, ?_, HF.out, HP.out, fun q hq => (HOW.out q hq).1⟩
      · rw [HG4.out]; unfold gTail; rw [show gVals (j, m2).1 [] (j, m2).2 [] = (vs, rj) from HE.out]; exact HS.out
      · rw [HG4.out]; unfold gTail; rw [show gVals (j, m2).1 [] (j, m2).2 [] = (vs, rj) from HE.out]; exact HR.out
end Go.Proofs.YtmnajomkfnkmeaaGreatDoor
