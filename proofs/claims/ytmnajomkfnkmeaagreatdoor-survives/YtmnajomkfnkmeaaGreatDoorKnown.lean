import Derived.Test.YtmnajomkfnkmeaaGreatDoorKopA
import Derived.Deep.RegionHeld3
namespace Go.Proofs.YtmnajomkfnkmeaaGreatDoor
open Go.RowKit Go.Conc
attribute [local go_sem] ofL_size
theorem str_eqK (a b : Bs) : ((ofL a).toList == (ofL b).toList) = decide (a = b) := by
  rw [eq_toList, toL_ofL, toL_ofL]
  by_cases h : a = b
  · rw [decide_eq_true h, h]; exact beq_self_eq_true _
  · rw [decide_eq_false h, Bool.eq_false_iff]; exact fun e => h (eq_of_beq e)
theorem part_of (P : Bs) (a b : Nat) : (ofL P).extract a b = ofL ((P.drop a).take (b - a)) := toL_inj (by rw [toL_extract]; rfl)
set_option maxRecDepth 20000 in
set_option maxHeartbeats 4000000 in
theorem known0 (c : Int) (B : Nat) (G : Gl) (w : World) (hc : -9223372036854775808 ≤ c ∧ c ≤ 9223372036854775807) (hp : pickN c 4 = 0) (hG : Glob B G w) :
    Calls Tryz.prog 6 #[.int .i64 c] w fun e w' => e = .returned (.bool true) ∧ Below w.heap.size w w' := by
  have HG : Hid (Glob B G w) := hG
  have hpk := pick_any c 4 w hc.1 hc.2 (by decide)
  rw [hp] at hpk
  have HPK : Hid (Calls Tryz.prog 15 #[.int .i64 c, .int .i64 4] w fun e w'' => e = .returned (.int .i64 0) ∧ w'' = w) := hpk
  have hpa := fun w' (h : DigitsIn w') => pass_call [115] 0 w' (by decide) (by decide) h
  have hpb := fun w' (h : DigitsIn w') => pass_call [115] 4095 w' (by decide) (by decide) h
  obtain ⟨P, hP⟩ : ∃ P, P = passL [115] 0 := ⟨_, rfl⟩
  obtain ⟨Q, hQ⟩ : ∃ Q, Q = passL [115] 4095 := ⟨_, rfl⟩
  rw [← hP] at hpa
  rw [← hQ] at hpb
  have HPA : Hid (∀ w', DigitsIn w' → Calls Tryz.prog 16 #[.string { data := #[115] }, .int .i64 0] w' fun e w'' => e = .returned (.tuple #[.string (ofL P), .int .i64 0]) ∧ Below w'.heap.size w' w'') := hpa
  have HPB : Hid (∀ w', DigitsIn w' → Calls Tryz.prog 16 #[.string { data := #[115] }, .int .i64 4095] w' fun e w'' => e = .returned (.tuple #[.string (ofL Q), .int .i64 0]) ∧ Below w'.heap.size w' w'') := hpb
  have l1 : P.length = 9 := by rw [hP]; rfl
  have l2 : Q.length = 9 := by rw [hQ]; rfl
  have e1 : (ofL P).extract 0 5 = { data := #[118, 49, 48, 48, 48] } := by rw [part_of, hP]; rfl
  have e2 : (ofL Q).extract 0 5 = { data := #[118, 49, 102, 102, 102] } := by rw [part_of, hQ]; rfl
  clear hpa hpb hP hQ hpk hp hG hc
  go_enter Tryz.func6, Tryz.ntmps6
  go_wp2_with fail
  refine HPK.out.mono ?_
  rintro e w' ⟨rfl, hw⟩
  subst w'
  clear HPK
  go_wp2_with fail
  refine (HPA.out _ HG.out.digits).mono ?_
  rintro e w1 ⟨rfl, hb1⟩
  have HB1 : Hid (Below w.heap.size w w1) := hb1
  clear hb1 HPA
  go_wp2_with fail
  refine (HPB.out _ (DigitsBelow HG.out HB1.out).digits).mono ?_
  rintro e w2 ⟨rfl, hb2⟩
  have HB2 : Hid (Below w.heap.size w w2) := bstep HB1.out hb2
  clear hb2 HPB
  go_wp2_with fail
  go_ret
  exact ⟨rfl, HB2.out⟩
def z85 : Array Value := (List.replicate 85 (Value.int .u8 0)).toArray
theorem mk85 (w : World) : (Instr.makeSlice 39 (.int .i64 85) (.int .i64 85)).run Tryz.prog w = .ok (.slice (some ⟨w.heap.size, 0, none⟩) 85 85) (w.alloc (.cells z85 5)) := by kernel_rfl
theorem by85 (w : World) : By (w.alloc (.cells z85 5)) w.heap.size (zeros 85) := by
  have hb : Blk (w.alloc (.cells z85 5)) w.heap.size z85 5 := Blk.new _ _ _
  refine ⟨hb.lt, fun i hi => ?_, fun i _ => hb.frozen i⟩
  rw [hb.cell i]
  have hi : i < 85 := by rwa [zeros_length] at hi
  have hz : ∀ h, (zeros 85)[i]'h = 0 := fun h => by unfold zeros; exact List.getElem_replicate _
  unfold z85
  rw [List.getElem?_toArray, List.getElem?_replicate, if_pos hi]
  show _ = some (Value.int .u8 _)
  rw [hz]; rfl
theorem cv85d (w : World) : (convert 39 9 (.slice (some ⟨w.heap.size, 0, none⟩) 85 85)).run Tryz.prog (w.alloc (.cells z85 5)).drew = .ok (.string (ofL (zeros 85))) (w.alloc (.cells z85 5)).drew := by
  have := (By.drew (by85 w)).text (cap := 85)
  rw [zeros_length] at this
  exact this
set_option maxRecDepth 20000 in
set_option maxHeartbeats 4000000 in
theorem known1 (c : Int) (w : World) (hc : -9223372036854775808 ≤ c ∧ c ≤ 9223372036854775807) (hp : pickN c 4 = 1) :
    Calls Tryz.prog 6 #[.int .i64 c] w fun e w' => e = .returned (.bool true) ∧ Below w.heap.size w w' := by
  have hpk := pick_any c 4 w hc.1 hc.2 (by decide)
  rw [hp] at hpk
  have HPK : Hid (Calls Tryz.prog 15 #[.int .i64 c, .int .i64 4] w fun e w'' => e = .returned (.int .i64 1) ∧ w'' = w) := hpk
  have hfm := format_ok 12 w (by decide) (by decide)
  rw [blank_same] at hfm
  obtain ⟨D, hD⟩ : ∃ D, D = blankB 12 := ⟨_, rfl⟩
  rw [← hD] at hfm
  have HFM : Hid (Calls Tryz.prog 17 #[.int .i64 12] w fun e w'' => e = .returned (.tuple #[.string (ofL D), .int .i64 0]) ∧ Below w.heap.size w w'') := hfm
  have l1 : D.length = 384 := by rw [hD]; exact blankB_length 12 (by decide)
  have e1 : (ofL D).extract 64 73 = { data := #[1, 0, 1, 0, 0, 0, 0, 0, 0] } := by rw [part_of, hD]; exact congrArg ofL known_blank.1
  have e2 : (ofL D).extract 75 160 = ofL (zeros 85) := by rw [part_of, hD]; exact congrArg ofL known_blank.2
  have q1 : ((ofL (zeros 85)).toList == (ofL (zeros 85)).toList) = true := beq_self_eq_true _
  have hmk := mk85
  have hcv := cv85d
  clear hpk hp hc hfm hD
  generalize zeros 85 = Z at *
  generalize z85 = z8 at *
  go_enter Tryz.func6, Tryz.ntmps6
  go_wp2_with fail
  refine HPK.out.mono ?_
  rintro e w' ⟨rfl, hw⟩
  subst w'
  clear HPK
  go_wp2_with fail
  refine HFM.out.mono ?_
  rintro e w1 ⟨rfl, hb1⟩
  have HB1 : Hid (Below w.heap.size w w1) := hb1
  clear hb1 HFM
  go_wp2_with fail
  go_region_held (fun w' => Below w1.heap.size w1 w')
    (first
      | exact bstep (by assumption) ((Below.refl _ _).alloc (Nat.le_refl _) _)
      | exact (Below.refl _ _).drew
      | exact ((Below.refl _ _).alloc (Nat.le_refl _) _).drew
      | assumption)
    (first
      | fail)
  rename_i hHeld
  have HE : Hid (Below w.heap.size w _) := bstep HB1.out hHeld
  clear hHeld
  go_wp2_with fail
  go_ret
  exact ⟨rfl, HE.out⟩
set_option maxRecDepth 20000 in
set_option maxHeartbeats 4000000 in
theorem known2 (c : Int) (B : Nat) (G : Gl) (w : World) (hc : -9223372036854775808 ≤ c ∧ c ≤ 9223372036854775807) (hp : pickN c 4 = 2) (hG : Glob B G w) :
    Calls Tryz.prog 6 #[.int .i64 c] w fun e w' => e = .returned (.bool true) ∧ Below w.heap.size w w' := by
  have HG : Hid (Glob B G w) := hG
  have hpk := pick_any c 4 w hc.1 hc.2 (by decide)
  rw [hp] at hpk
  have HPK : Hid (Calls Tryz.prog 15 #[.int .i64 c, .int .i64 4] w fun e w'' => e = .returned (.int .i64 2) ∧ w'' = w) := hpk
  obtain ⟨m0, m1, m2, m3, m4, m5, m6, e0, s1, s2, s3, s4, s5, s6, s7⟩ := known_two
  have hfr := kfresh_any 12 cfgS B G w (by decide) (by decide) (by decide) hG
  rw [e0] at hfr
  have HFR : Hid (Calls Tryz.prog 18 #[.int .i64 12, .agg #[.string { data := #[115] }, .int .i64 0, .int .i64 10, .int .i64 100, .int .i64 0]] w (okTo w B (some m0))) := hfr
  obtain ⟨P, hP⟩ : ∃ P, P = passL [115] 74 := ⟨_, rfl⟩
  obtain ⟨Q, hQ⟩ : ∃ Q, Q = passL [115] 1528 := ⟨_, rfl⟩
  rw [← hP] at s1 s4 s6 s7
  rw [← hQ] at s2
  have l1 : P.length = 9 := by rw [hP]; rfl
  have l2 : Q.length = 9 := by rw [hQ]; rfl
  have e1 : (ofL P).extract 0 5 = { data := #[118, 49, 48, 52, 97] } := by rw [part_of, hP]; rfl
  have e2 : (ofL Q).extract 0 5 = { data := #[118, 49, 53, 102, 56] } := by rw [part_of, hQ]; rfl
  have HPL : Hid (P.length ≤ 9223372036854775000) := by show _ ≤ _; omega
  have H1 : Hid (∀ kb w', Kst w B kb m0 w' → Calls Tryz.prog 19 #[.pointer (some ⟨kb, 0, none⟩), .int .i64 1] w' fun e w'' => e = .returned (.tuple #[.string (ofL P), .int .i64 0]) ∧ Kst w B kb m1 w'') := fun kb w' h => by
    have := slogin w B kb m0 G 1 w' h HG.out
    rw [s1] at this; exact this
  have H2 : Hid (∀ kb w', Kst w B kb m1 w' → Calls Tryz.prog 19 #[.pointer (some ⟨kb, 0, none⟩), .int .i64 1] w' fun e w'' => e = .returned (.tuple #[.string (ofL Q), .int .i64 0]) ∧ Kst w B kb m2 w'') := fun kb w' h => by
    have := slogin w B kb m1 G 1 w' h HG.out
    rw [s2] at this; exact this
  have H3 : Hid (∀ kb w', Kst w B kb m2 w' → Calls Tryz.prog 20 #[.pointer (some ⟨kb, 0, none⟩), .int .i64 9] w' fun e w'' => e = .returned (.int .i64 0) ∧ Kst w B kb m3 w'') := fun kb w' h => by
    have := stick w B kb m2 9 w' h (by omega)
    rw [s3] at this; exact this
  have H4 : Hid (∀ kb w', Kst w B kb m3 w' → Calls Tryz.prog 21 #[.pointer (some ⟨kb, 0, none⟩), .string (ofL P)] w' fun e w'' => e = .returned (.int .i64 0) ∧ Kst w B kb m4 w'') := fun kb w' h => by
    have := stouch w B kb m3 G P w' h HPL.out HG.out
    rw [s4] at this; exact this
  have H5 : Hid (∀ kb w', Kst w B kb m4 w' → Calls Tryz.prog 20 #[.pointer (some ⟨kb, 0, none⟩), .int .i64 10] w' fun e w'' => e = .returned (.int .i64 0) ∧ Kst w B kb m5 w'') := fun kb w' h => by
    have := stick w B kb m4 10 w' h (by omega)
    rw [s5] at this; exact this
  have H6 : Hid (∀ kb w', Kst w B kb m5 w' → Calls Tryz.prog 21 #[.pointer (some ⟨kb, 0, none⟩), .string (ofL P)] w' fun e w'' => e = .returned (.int .i64 7) ∧ Kst w B kb m6 w'') := fun kb w' h => by
    have := stouch w B kb m5 G P w' h HPL.out HG.out
    rw [s6] at this; exact this
  have H7 : Hid (∀ kb w', Kst w B kb m6 w' → Calls Tryz.prog 21 #[.pointer (some ⟨kb, 0, none⟩), .string (ofL P)] w' fun e w'' => e = .returned (.int .i64 6) ∧ Kst w B kb m6 w'') := fun kb w' h => by
    have := stouch w B kb m6 G P w' h HPL.out HG.out
    rw [s7] at this; exact this
  clear hP hQ hpk hp hG hc e0 s1 s2 s3 s4 s5 s6 s7 hfr HPL
  go_enter Tryz.func6, Tryz.ntmps6
  go_wp2_with fail
  refine HPK.out.mono ?_
  rintro e w' ⟨rfl, hw⟩
  subst w'
  clear HPK
  go_wp2_with fail
  refine HFR.out.mono ?_
  rintro e w1 hok
  obtain ⟨kb, rfl, hk⟩ := Kst.opened (Below.refl w.heap.size w) hok
  have HK : Hid (Kst w B kb m0 w1) := hk
  clear hok hk HFR
  go_wp2_with fail
  refine (H1.out _ _ HK.out).mono ?_
  rintro e w2 ⟨rfl, hk⟩
  have HK : Hid (Kst w B kb m1 w2) := hk
  clear hk H1
  go_wp2_with fail
  refine (H2.out _ _ HK.out).mono ?_
  rintro e w3 ⟨rfl, hk⟩
  have HK : Hid (Kst w B kb m2 w3) := hk
  clear hk H2
  go_wp2_with fail
  refine (H3.out _ _ HK.out).mono ?_
  rintro e w4 ⟨rfl, hk⟩
  have HK : Hid (Kst w B kb m3 w4) := hk
  clear hk H3
  go_wp2_with fail
  refine (H4.out _ _ HK.out).mono ?_
  rintro e w5 ⟨rfl, hk⟩
  have HK : Hid (Kst w B kb m4 w5) := hk
  clear hk H4
  go_wp2_with fail
  refine (H5.out _ _ HK.out).mono ?_
  rintro e w6 ⟨rfl, hk⟩
  have HK : Hid (Kst w B kb m5 w6) := hk
  clear hk H5
  go_wp2_with fail
  refine (H6.out _ _ HK.out).mono ?_
  rintro e w7 ⟨rfl, hk⟩
  have HK : Hid (Kst w B kb m6 w7) := hk
  clear hk H6
  go_wp2_with fail
  refine (H7.out _ _ HK.out).mono ?_
  rintro e w8 ⟨rfl, hk⟩
  have HK : Hid (Kst w B kb m6 w8) := hk
  clear hk H7
  go_wp2_with fail
  go_ret
  exact ⟨rfl, HK.out.wide⟩
set_option maxRecDepth 20000 in
set_option maxHeartbeats 4000000 in
theorem known3 (c : Int) (B : Nat) (G : Gl) (w : World) (hc : -9223372036854775808 ≤ c ∧ c ≤ 9223372036854775807) (hp : pickN c 4 = 3) (hG : Glob B G w) :
    Calls Tryz.prog 6 #[.int .i64 c] w fun e w' => e = .returned (.bool true) ∧ Below w.heap.size w w' := by
  have HG : Hid (Glob B G w) := hG
  have hpk := pick_any c 4 w hc.1 hc.2 (by decide)
  rw [hp] at hpk
  have HPK : Hid (Calls Tryz.prog 15 #[.int .i64 c, .int .i64 4] w fun e w'' => e = .returned (.int .i64 3) ∧ w'' = w) := hpk
  obtain ⟨m0, m1, m2, e0, s1, s2, s3, s4, n1, n2, a, b, oa, ob, la, lb, lb2⟩ := known_arm
  have hfr := kfresh_any 12 cfgS B G w (by decide) (by decide) (by decide) hG
  rw [e0] at hfr
  have HFR : Hid (Calls Tryz.prog 18 #[.int .i64 12, .agg #[.string { data := #[115] }, .int .i64 0, .int .i64 10, .int .i64 100, .int .i64 0]] w (okTo w B (some m0))) := hfr
  obtain ⟨x, hx⟩ : ∃ x, x = m0.disk := ⟨_, rfl⟩
  obtain ⟨y, hy⟩ : ∃ y, y = m2.left 1 (-1) 0 := ⟨_, rfl⟩
  obtain ⟨z, hz⟩ : ∃ z, z = m2.left 0 0 20 := ⟨_, rfl⟩
  rw [← hx] at s2 s4 n1 lb2
  rw [← hy] at n2 oa
  rw [← hz] at n1 n2 ob
  have q1 : ((ofL x).toList == (ofL x).toList) = true := beq_self_eq_true _
  have q2 : ((ofL z).toList == (ofL x).toList) = false := by rw [str_eqK, decide_eq_false n1]
  have q3 : ((ofL z).toList == (ofL y).toList) = false := by rw [str_eqK, decide_eq_false n2]
  have HLEN : Hid (y.length ≤ 9223372036854775807 ∧ z.length ≤ 9223372036854775807) := by
    refine ⟨?_, ?_⟩
    · have h : okSize y.length := by
        rcases Classical.em (okSize y.length) with h | h
        · exact h
        · rw [openK_size cfgS_ok h] at oa; cases oa
      have := h.2.2; omega
    · have h : okSize z.length := by
        rcases Classical.em (okSize z.length) with h | h
        · exact h
        · rw [openK_size cfgS_ok h] at ob; cases ob
      have := h.2.2; omega
  have H1 : Hid (∀ kb w', Kst w B kb m0 w' → Calls Tryz.prog 22 #[.pointer (some ⟨kb, 0, none⟩), .int .i64 2] w' fun e w'' => e = .returned (.tuple #[]) ∧ Kst w B kb m1 w'') := fun kb w' h => by
    have := sarm w B kb m0 2 w' h (by omega) HG.out.le
    rw [s1] at this; exact this
  have H2 : Hid (∀ kb w', Kst w B kb m1 w' → Calls Tryz.prog 23 #[.pointer (some ⟨kb, 0, none⟩), .int .i64 (-1), .int .i64 (-1), .int .i64 0] w' fun e w'' => e = .returned (.string (ofL x)) ∧ Kst w B kb m1 w'') := fun kb w' h => by
    have := sleft w B kb m1 (-1) (-1) 0 w' h (by omega) (by omega)
    rw [s2] at this; exact this.mono fun e w'' hh => ⟨hh.1, hh.2.1⟩
  have H3 : Hid (∀ kb w', Kst w B kb m1 w' → Calls Tryz.prog 19 #[.pointer (some ⟨kb, 0, none⟩), .int .i64 1] w' fun e w'' => e = .returned (.tuple #[.string { data := #[] }, .int .i64 4]) ∧ Kst w B kb m2 w'') := fun kb w' h => by
    have := slogin w B kb m1 G 1 w' h HG.out
    rw [s3] at this; exact this
  have H4 : Hid (∀ kb w', Kst w B kb m2 w' → Calls Tryz.prog 23 #[.pointer (some ⟨kb, 0, none⟩), .int .i64 0, .int .i64 (-1), .int .i64 0] w' fun e w'' => e = .returned (.string (ofL x)) ∧ Kst w B kb m2 w'') := fun kb w' h => by
    have := sleft w B kb m2 0 (-1) 0 w' h (by omega) (by omega)
    rw [s4] at this; exact this.mono fun e w'' hh => ⟨hh.1, hh.2.1⟩
  have H5 : Hid (∀ kb w', Kst w B kb m2 w' → Calls Tryz.prog 23 #[.pointer (some ⟨kb, 0, none⟩), .int .i64 1, .int .i64 (-1), .int .i64 0] w' fun e w'' => e = .returned (.string (ofL y)) ∧ Kst w B kb m2 w'') := fun kb w' h => by
    have := sleft w B kb m2 1 (-1) 0 w' h (by omega) (by omega)
    rw [← hy] at this; exact this.mono fun e w'' hh => ⟨hh.1, hh.2.1⟩
  have H6 : Hid (∀ kb w', Kst w B kb m2 w' → Calls Tryz.prog 23 #[.pointer (some ⟨kb, 0, none⟩), .int .i64 0, .int .i64 0, .int .i64 20] w' fun e w'' => e = .returned (.string (ofL z)) ∧ Kst w B kb m2 w'') := fun kb w' h => by
    have := sleft w B kb m2 0 0 20 w' h (by omega) (by omega)
    rw [← hz] at this; exact this.mono fun e w'' hh => ⟨hh.1, hh.2.1⟩
  have H7 : Hid (∀ w', Below w.heap.size w w' → Calls Tryz.prog 24 #[.string (ofL y), .agg #[.string { data := #[115] }, .int .i64 0, .int .i64 10, .int .i64 100, .int .i64 0]] w' (okTo w' B (some a))) := fun w' h => by
    have := opened_any y cfgS B G w' HLEN.out.1 (by decide) (DigitsBelow HG.out h)
    rw [oa] at this; exact this
  have H8 : Hid (∀ w', Below w.heap.size w w' → Calls Tryz.prog 24 #[.string (ofL z), .agg #[.string { data := #[115] }, .int .i64 0, .int .i64 10, .int .i64 100, .int .i64 0]] w' (okTo w' B (some b))) := fun w' h => by
    have := opened_any z cfgS B G w' HLEN.out.2 (by decide) (DigitsBelow HG.out h)
    rw [ob] at this; exact this
  have H9 : Hid (∀ w0 kb w', Kst w0 B kb a w' → Calls Tryz.prog 25 #[.pointer (some ⟨kb, 0, none⟩)] w' fun e w'' => e = .returned (.tuple #[.int .i64 1, .int .i64 0]) ∧ w'' = w') := fun w0 kb w' h => by
    have := slive w0 B kb a w' h
    rw [la] at this; exact this
  have H10 : Hid (∀ w0 kb w', Kst w0 B kb b w' → Calls Tryz.prog 25 #[.pointer (some ⟨kb, 0, none⟩)] w' fun e w'' => e = .returned (.tuple #[.int .i64 0, .int .i64 0]) ∧ w'' = w') := fun w0 kb w' h => by
    have := slive w0 B kb b w' h
    rw [lb] at this; exact this
  have H11 : Hid (∀ w0 kb w', Kst w0 B kb b w' → Calls Tryz.prog 23 #[.pointer (some ⟨kb, 0, none⟩), .int .i64 0, .int .i64 0, .int .i64 0] w' fun e w'' => e = .returned (.string (ofL x)) ∧ Below w'.heap.size w' w'') := fun w0 kb w' h => by
    have := sleft w0 B kb b 0 0 0 w' h (by omega) (by omega)
    rw [lb2] at this; exact this.mono fun e w'' hh => ⟨hh.1, hh.2.2⟩
  clear hpk hp hG hc e0 s1 s2 s3 s4 n1 n2 oa ob la lb lb2 hx hy hz hfr HLEN
  go_enter Tryz.func6, Tryz.ntmps6
  go_wp2_with fail
  refine HPK.out.mono ?_
  rintro e w' ⟨rfl, hw⟩
  subst w'
  clear HPK
  go_wp2_with fail
  refine HFR.out.mono ?_
  rintro e w1 hok
  obtain ⟨kb, rfl, hk⟩ := Kst.opened (Below.refl w.heap.size w) hok
  have HK : Hid (Kst w B kb m0 w1) := hk
  clear hok hk HFR
  go_wp2_with fail
  refine (H1.out _ _ HK.out).mono ?_
  rintro e w2 ⟨rfl, hk⟩
  have HK : Hid (Kst w B kb m1 w2) := hk
  clear hk H1
  go_wp2_with fail
  refine (H2.out _ _ HK.out).mono ?_
  rintro e w3 ⟨rfl, hk⟩
  have HK : Hid (Kst w B kb m1 w3) := hk
  clear hk H2
  go_wp2_with fail
  refine (H3.out _ _ HK.out).mono ?_
  rintro e w4 ⟨rfl, hk⟩
  have HK : Hid (Kst w B kb m2 w4) := hk
  clear hk H3
  go_wp2_with fail
  refine (H4.out _ _ HK.out).mono ?_
  rintro e w5 ⟨rfl, hk⟩
  have HK : Hid (Kst w B kb m2 w5) := hk
  clear hk H4
  go_wp2_with fail
  refine (H5.out _ _ HK.out).mono ?_
  rintro e w6 ⟨rfl, hk⟩
  have HK : Hid (Kst w B kb m2 w6) := hk
  clear hk H5
  go_wp2_with fail
  refine (H6.out _ _ HK.out).mono ?_
  rintro e w7 ⟨rfl, hk⟩
  have HW : Hid (Below w.heap.size w w7) := hk.wide
  clear hk H6 HK
  go_wp2_with fail
  refine (H7.out _ HW.out).mono ?_
  rintro e w8 hok
  obtain ⟨ka, rfl, hk⟩ := Kst.opened HW.out hok
  have HA : Hid (Kst w B ka a w8) := hk
  clear hk hok H7 HW
  go_wp2_with fail
  refine (H8.out _ HA.out.wide).mono ?_
  rintro e w9 hok
  have hb9 : Below w8.heap.size w8 w9 := by
    obtain ⟨_, _, _, _, hb, _⟩ := hok
    exact hb
  obtain ⟨kc, rfl, hk⟩ := Kst.opened HA.out.wide hok
  have HB : Hid (Kst w B kc b w9) := hk
  have HA9 : Hid (Kst w B ka a w9) := HA.out.below hb9
  clear hk hok H8 hb9 HA
  go_wp2_with fail
  refine (H9.out _ _ _ HA9.out).mono ?_
  rintro e w' ⟨rfl, hw⟩
  subst w'
  go_wp2_with fail
  refine (H10.out _ _ _ HB.out).mono ?_
  rintro e w' ⟨rfl, hw⟩
  subst w'
  go_wp2_with fail
  refine (H11.out _ _ _ HB.out).mono ?_
  rintro e w10 ⟨rfl, hb10⟩
  have HE : Hid (Below w.heap.size w w10) := bstep HB.out.wide hb10
  clear hb10
  go_wp2_with fail
  go_ret
  exact ⟨rfl, HE.out⟩
theorem known_any (c : Int) (B : Nat) (G : Gl) (w : World) (hc : -9223372036854775808 ≤ c ∧ c ≤ 9223372036854775807) (hG : Glob B G w) :
    Calls Tryz.prog 6 #[.int .i64 c] w fun e w' => e = .returned (.bool true) ∧ Below w.heap.size w w' := by
  have h := pickN_lt c (n := 4) (by decide)
  rcases (show pickN c 4 = 0 ∨ pickN c 4 = 1 ∨ pickN c 4 = 2 ∨ pickN c 4 = 3 by omega) with h | h | h | h
  · exact known0 c B G w hc h hG
  · exact known1 c w hc h
  · exact known2 c B G w hc h hG
  · exact known3 c B G w hc h hG
end Go.Proofs.YtmnajomkfnkmeaaGreatDoor
