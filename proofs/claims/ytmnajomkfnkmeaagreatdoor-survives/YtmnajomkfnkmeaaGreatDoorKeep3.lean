import Derived.Test.YtmnajomkfnkmeaaGreatDoorKeep2
namespace Go.Proofs.YtmnajomkfnkmeaaGreatDoor
open Go.RowKit
attribute [local go_sem] ofL_size
/-- a stray record at a place that neither of two others has -/
def fgN (l : Bs) (i : Nat) : Nat := numL ((l.drop i).take 2)
def fgAt (l d a : Bs) (i : Nat) : Prop := strayB l i = true ∧ (l.drop i).take (fgN l i + 10) ≠ (d.drop i).take (fgN l i + 10) ∧ (l.drop i).take (fgN l i + 10) ≠ (a.drop i).take (fgN l i + 10)
theorem forged_iff (l d a : Bs) : forgedB l d a ↔ ∃ i, 64 ≤ i ∧ i + 10 ≤ l.length ∧ fgAt l d a i := by
  unfold forgedB fgAt strayB fgN
  constructor
  · rintro ⟨i, h1, h2, h3, h4, h5, h6⟩
    refine ⟨i, h1, h2, ?_, h5, h6⟩
    simp only [Bool.and_eq_true, decide_eq_true_eq]
    exact ⟨h2, h3, h4⟩
  · rintro ⟨i, h1, h2, h3, h5, h6⟩
    simp only [Bool.and_eq_true, decide_eq_true_eq] at h3
    exact ⟨i, h1, h2, h3.2.1, h3.2.2, h5, h6⟩
theorem fg_here {l d a : Bs} {i : Nat} (h1 : 64 ≤ i) (h2 : i + 10 ≤ l.length) (h : fgAt l d a i) : forgedB l d a := (forged_iff l d a).2 ⟨i, h1, h2, h⟩
theorem fg_none {l d a : Bs} {k : Nat} (h : ∀ i, 64 ≤ i → i < k → ¬ fgAt l d a i) (hk : l.length < k + 10) : ¬ forgedB l d a := by
  rw [forged_iff]
  rintro ⟨i, h1, h2, h3⟩
  exact h i h1 (by omega) h3
theorem fg_next {l d a : Bs} {k : Nat} (h : ∀ i, 64 ≤ i → i < k → ¬ fgAt l d a i) (hn : ¬ fgAt l d a k) : ∀ i, 64 ≤ i → i < k + 1 → ¬ fgAt l d a i := by
  intro i h1 h2
  by_cases e : i = k
  · rw [e]; exact hn
  · exact h i h1 (by omega)
theorem stray_fits {l : Bs} {i : Nat} (h : strayB l i = true) : i + fgN l i + 10 ≤ l.length := by
  unfold strayB at h
  simp only [Bool.and_eq_true, decide_eq_true_eq] at h
  exact h.2.1
set_option maxRecDepth 20000 in
set_option maxHeartbeats 1000000 in
theorem forged_any (l d a : Bs) (w : World) (hl : l.length ≤ 1000000) (hd : d.length = l.length) (ha : a.length = l.length) :
    Calls Tryz.prog 36 #[.string (ofL l), .string (ofL d), .string (ofL a)] w fun e w' => (∃ b : Bool, e = .returned (.bool b) ∧ (b = true ↔ forgedB l d a)) ∧ Below w.heap.size w w' := by
  have HL : Hid (l.length ≤ 1000000 ∧ d.length = l.length ∧ a.length = l.length) := ⟨hl, hd, ha⟩
  clear hl hd ha
  go_enter Tryz.func36, Tryz.ntmps36
  go_wp2_with fail
  go_loopw [7] (fun iv wx => ∃ k : Nat, 64 ≤ k ∧ k ≤ l.length + 64 ∧ iv = .int .i64 k ∧ Hid (∀ i, 64 ≤ i → i < k → ¬ fgAt l d a i) ∧ Hid (Below w.heap.size w wx)) (fun iv _ => l.length + 64 - (intOf iv).toNat)
  case atStart => exact ⟨64, Nat.le_refl _, by omega, rfl, (fun i h1 h2 => by omega), Below.refl _ _⟩
  case round =>
    obtain ⟨k, hk0, hk, rfl, HO, HB⟩ := hrel
    have HK : Hid (64 ≤ k ∧ k ≤ l.length + 64) := ⟨hk0, hk⟩
    have E10 : Hid (wrap64 ((k : Int) + 10) = (k : Int) + 10) := by have := HL.out.1; show _ = _; unfold wrap64; omega
    by_cases hlt : k + 10 ≤ l.length
    · have HLT : Hid (k + 10 ≤ l.length) := hlt
      have hl1 := HL.out.1
      have hi : k ≤ 1000000 := by omega
      go_wp2_with fail
      refine (stray_any l k _ hl1 hi).mono ?_
      rintro e w1 ⟨rfl, hb1⟩
      have HB1 : Hid (Below w.heap.size w w1) := below_step HB.out hb1
      clear hb1 HB
      have HST : Hid (strayB l k = true → k + fgN l k + 10 ≤ l.length) := stray_fits
      have HFG : Hid (fgAt l d a k ↔ strayB l k = true ∧ (l.drop k).take (fgN l k + 10) ≠ (d.drop k).take (fgN l k + 10) ∧ (l.drop k).take (fgN l k + 10) ≠ (a.drop k).take (fgN l k + 10)) := Iff.rfl
      cases hs : strayB l k with
      | false =>
        have HNX : Hid (∀ i, 64 ≤ i → i < k + 1 → ¬ fgAt l d a i) := fg_next HO.out (fun h => by rw [HFG.out, hs] at h; cases h.1)
        clear HST HFG hs
        go_wp2_with fail
        go_round
        case rel => exact ⟨k + 1, by omega, by omega, by go_num, HNX, HB1⟩
        case measure => simp [intOf]; omega
      | true =>
        have HFIT : Hid (k + fgN l k + 10 ≤ l.length) := HST.out hs
        have HTR : Hid (strayB l k = true) := hs
        clear HST hs
        go_wp2_with fail
        rw [extract_ofL, show k + 2 - k = 2 by omega]
        refine (small_of ((l.drop k).take 2) _ (by rw [List.length_take, List.length_drop]; omega)).mono ?_
        rintro e w2 ⟨rfl, hb2⟩
        have HB2 : Hid (Below w.heap.size w w2) := below_step HB1.out hb2
        clear hb2 HB1
        rw [show numL ((l.drop k).take 2) = fgN l k from rfl]
        have h3 := HL.out.2.1
        have h4 := HL.out.2.2
        generalize fgN l k = n at *
        have hf := HFIT.out
        have HX1 : (ofL l).extract k (k + (n + 10)) = ofL ((l.drop k).take (n + 10)) := by rw [extract_ofL, show k + (n + 10) - k = n + 10 by omega]
        have HX2 : (ofL d).extract k (k + (n + 10)) = ofL ((d.drop k).take (n + 10)) := by rw [extract_ofL, show k + (n + 10) - k = n + 10 by omega]
        have HX3 : (ofL a).extract k (k + (n + 10)) = ofL ((a.drop k).take (n + 10)) := by rw [extract_ofL, show k + (n + 10) - k = n + 10 by omega]
        generalize (l.drop k).take (n + 10) = x at *
        generalize (d.drop k).take (n + 10) = y at *
        generalize (a.drop k).take (n + 10) = z at *
        have q1 : ((ofL x).toList == (ofL y).toList) = decide (x = y) := by
          rw [eq_toList, Bool.eq_iff_iff, beq_iff_eq, decide_eq_true_iff]; rfl
        have q2 : ((ofL x).toList == (ofL z).toList) = decide (x = z) := by
          rw [eq_toList, Bool.eq_iff_iff, beq_iff_eq, decide_eq_true_iff]; rfl
        go_wp2_with fail
        have m1 : (0 : Int) ≤ (k : Int) := by omega
        have m2 : (k : Int) ≤ (k : Int) + ((n : Int) + 10) := by omega
        have m3 : (k : Int) + ((n : Int) + 10) ≤ l.length := by omega
        have m4 : (k : Int) + ((n : Int) + 10) ≤ d.length := by omega
        have m5 : (k : Int) + ((n : Int) + 10) ≤ a.length := by omega
        have e1 : IntKind.i64.wrap ((k : Int) + ((n : Int) + 10)) = (k : Int) + ((n : Int) + 10) := by rw [IntKind.wrap_i64]; omega
        have n1 : ((k : Int) + ((n : Int) + 10)).toNat = k + (n + 10) := by omega
        have HAT : Hid (x ≠ y → x ≠ z → fgAt l d a k) := fun h1 h2 => HFG.out.2 ⟨HTR.out, h1, h2⟩
        have HNX : Hid (¬ fgAt l d a k → ∀ i, 64 ≤ i → i < k + 1 → ¬ fgAt l d a i) := fun h => fg_next HO.out h
        have HNA : Hid (x = y ∨ x = z → ¬ fgAt l d a k) := fun h h2 => (by have := HFG.out.1 h2; exact h.elim this.2.1 this.2.2)
        clear h3 h4 hf
        by_cases c1 : x = y
        · rw [decide_eq_true c1] at q1
          have HN2 : Hid (∀ i, 64 ≤ i → i < k + 1 → ¬ fgAt l d a i) := HNX.out (HNA.out (Or.inl c1))
          clear c1 HAT HNX HNA HFG
          go_region
          go_wp2_with fail
          go_round
          case rel => exact ⟨k + 1, by omega, by omega, by go_num, HN2, below_drewN HB2.out _⟩
          case measure => simp [intOf]; omega
        · rw [decide_eq_false c1] at q1
          by_cases c2 : x = z
          · rw [decide_eq_true c2] at q2
            have HN2 : Hid (∀ i, 64 ≤ i → i < k + 1 → ¬ fgAt l d a i) := HNX.out (HNA.out (Or.inr c2))
            clear c1 c2 HAT HNX HNA HFG
            go_region
            go_wp2_with fail
            go_round
            case rel => exact ⟨k + 1, by omega, by omega, by go_num, HN2, below_drewN HB2.out _⟩
            case measure => simp [intOf]; omega
          · rw [decide_eq_false c2] at q2
            have HYES : Hid (forgedB l d a) := fg_here hk0 hlt (HAT.out c1 c2)
            clear c1 c2 HAT HNX HNA HFG
            go_region
            go_wp2_with fail
            refine bodyPost_ret (v := .bool true) (by simp [results, Tryz.results36, go_sem]) rfl ⟨⟨true, rfl, ?_⟩, below_drewN HB2.out _⟩
            exact ⟨fun _ => HYES.out, fun _ => rfl⟩
    · have HNF : Hid (¬ forgedB l d a) := fg_none HO.out (by omega)
      have e10 := E10.out
      go_wp2_with fail
      refine bodyPost_ret (v := .bool false) (by simp [results, Tryz.results36, go_sem]) rfl ⟨⟨false, rfl, ?_⟩, HB.out⟩
      exact ⟨fun h => (by cases h), fun h => absurd h HNF.out⟩
end Go.Proofs.YtmnajomkfnkmeaaGreatDoor
