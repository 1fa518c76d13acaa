import Derived.Test.YtmnajomkfnkmeaaGreatDoorKopA
import Derived.BigQuiet
import Derived.Deep.RegionHeld3
namespace Go.Proofs.YtmnajomkfnkmeaaGreatDoor
open Go.RowKit
attribute [local go_sem] ofL_size
theorem sumFold_snoc (a : Nat) (l : Bs) (b : UInt8) : (l ++ [b]).foldl (fun s b => (263 * s + b.toNat + 1) % 65521) a = (263 * (l.foldl (fun s b => (263 * s + b.toNat + 1) % 65521) a) + b.toNat + 1) % 65521 := by simp [List.foldl_append]
set_option maxHeartbeats 400000 in
theorem ksum_any (l : Bs) (w : World) (hl : l.length ≤ 9223372036854775000) :
    Calls Tryz.prog 125 #[.string (ofL l)] w fun e w' => e = .returned (.int .i64 (sumB l)) ∧ w' = w := by
  go_enter Tryz.func125, Tryz.ntmps125
  go_wp2
  go_loop [3, 4] (fun n i => ∃ k : Nat, k ≤ l.length ∧ i = .int .i64 k ∧ n = .int .i64 (sumB (l.take k))) (fun _ i => l.length - (intOf i).toNat)
  case atStart => exact ⟨0, Nat.zero_le _, rfl, rfl⟩
  case round =>
    obtain ⟨k, hk, rfl, rfl⟩ := hrel
    have hd := sumB_lt (l.take k)
    by_cases hlt : k < l.length
    · have hts : l.take (k + 1) = l.take k ++ [l[k]] := List.take_succ_eq_append_getElem hlt
      have hb : l[k].toNat < 256 := l[k].toNat_lt
      have HS : Hid (sumB (l.take (k + 1)) = (263 * sumB (l.take k) + l[k].toNat + 1) % 65521) := by unfold sumB; rw [hts]; exact sumFold_snoc _ _ _
      have hix : (ofL l)[k]'(by rw [ofL_size]; exact hlt) = l[k] := rfl
      clear hts
      go_wp2
      go_round
      case rel => exact ⟨k + 1, by omega, by go_num, by rw [HS.out]; go_num⟩
      case measure => simp [intOf]; omega
    · go_wp2
      go_ret
      exact ⟨by rw [List.take_of_length_le (by omega)]; rfl, rfl⟩
set_option maxHeartbeats 400000 in
theorem small_any (x y : UInt8) (w : World) :
    Calls Tryz.prog 73 #[.string (ofL [x, y])] w fun e w' => e = .returned (.int .i64 (numL [x, y])) ∧ Below w.heap.size w w' := by
  have hx := x.toNat_lt
  have hy := y.toNat_lt
  have h0 : (ofL [x, y])[0]'(by rw [ofL_size]; simp) = x := rfl
  have h1 : (ofL [x, y])[1]'(by rw [ofL_size]; simp) = y := rfl
  go_enter Tryz.func73, Tryz.ntmps73
  go_wp2_with fail
  go_quiet (fail)
  go_wp2
  go_ret
  refine ⟨?_, below_drewN (Below.refl _ _) _⟩
  rw [show ((numL [x, y] : Nat) : Int) = (x.toNat : Int) + 256 * (y.toNat : Int) by simp [numL]]; rfl
/-- two bytes -/
theorem small_of (l : Bs) (w : World) (h : l.length = 2) :
    Calls Tryz.prog 73 #[.string (ofL l)] w fun e w' => e = .returned (.int .i64 (numL l)) ∧ Below w.heap.size w w' := by
  match l, h with
  | [x, y], _ => exact small_any x y w
theorem below_step {w0 w1 w2 : World} (h : Below w0.heap.size w0 w1) (hb : Below w1.heap.size w1 w2) : Below w0.heap.size w0 w2 := h.trans (hb.mono h.size)
def strayB (l : Bs) (i : Nat) : Bool :=
  decide (i + 10 ≤ l.length) && (decide (i + numL ((l.drop i).take 2) + 10 ≤ l.length) && decide (numL ((l.drop (i + numL ((l.drop i).take 2) + 8)).take 2) = sumB ((l.drop i).take (numL ((l.drop i).take 2) + 8))))
set_option maxHeartbeats 1000000 in
theorem stray_any (l : Bs) (i : Nat) (w : World) (hl : l.length ≤ 1000000) (hi : i ≤ 1000000) :
    Calls Tryz.prog 72 #[.string (ofL l), .int .i64 i] w fun e w' => e = .returned (.bool (strayB l i)) ∧ Below w.heap.size w w' := by
  by_cases h10 : i + 10 ≤ l.length
  · have HS : Hid (strayB l i = (decide (i + numL ((l.drop i).take 2) + 10 ≤ l.length) && decide (numL ((l.drop (i + numL ((l.drop i).take 2) + 8)).take 2) = sumB ((l.drop i).take (numL ((l.drop i).take 2) + 8))))) := by
      show _ = _
      unfold strayB; rw [decide_eq_true h10, Bool.true_and]
    go_enter Tryz.func72, Tryz.ntmps72
    go_wp2_with fail
    rw [extract_ofL, show i + 2 - i = 2 by omega]
    refine (small_of ((l.drop i).take 2) _ (by rw [List.length_take, List.length_drop]; omega)).mono ?_
    rintro e w1 ⟨rfl, hb1⟩
    have HB1 : Hid (Below w.heap.size w w1) := hb1
    clear hb1
    have hn : numL ((l.drop i).take 2) < 65536 := by
      have := numL_lt ((l.drop i).take 2)
      rwa [List.length_take, List.length_drop, show min 2 (l.length - i) = 2 by omega] at this
    generalize numL ((l.drop i).take 2) = n at *
    by_cases h2 : i + n + 10 ≤ l.length
    · rw [decide_eq_true h2, Bool.true_and] at HS
      have HX1 : Hid ((ofL l).extract (i + n + 8) (i + n + 10) = ofL ((l.drop (i + n + 8)).take 2)) := by
        show _ = _
        rw [extract_ofL, show i + n + 10 - (i + n + 8) = 2 by omega]
      have HX2 : Hid ((ofL l).extract i (i + n + 8) = ofL ((l.drop i).take (n + 8))) := by
        show _ = _
        rw [extract_ofL, show i + n + 8 - i = n + 8 by omega]
      have HQ1 : Hid (((l.drop (i + n + 8)).take 2).length = 2) := by show _ = _; rw [List.length_take, List.length_drop]; omega
      have HQ2 : Hid (((l.drop i).take (n + 8)).length ≤ 9223372036854775000) := by show _ ≤ _; rw [List.length_take, List.length_drop]; omega
      generalize (l.drop (i + n + 8)).take 2 = q1 at *
      generalize (l.drop i).take (n + 8) = q2 at *
      have b1 : (0 : Int) ≤ (i : Int) + n + 8 := by omega
      have b2 : (i : Int) + n + 8 ≤ (i : Int) + n + 10 := by omega
      have b3 : (i : Int) + n + 10 ≤ l.length := by omega
      have b4 : (0 : Int) ≤ (i : Int) := by omega
      have b5 : (i : Int) ≤ (i : Int) + n + 8 := by omega
      have b6 : (i : Int) + n + 8 ≤ l.length := by omega
      have b7 : (0 : Int) ≤ (i : Int) + n + 10 := by omega
      have e1 : IntKind.i64.wrap ((i : Int) + n) = (i : Int) + n := by rw [IntKind.wrap_i64]; omega
      have e2 : IntKind.i64.wrap ((i : Int) + n + 8) = (i : Int) + n + 8 := by rw [IntKind.wrap_i64]; omega
      have e3 : IntKind.i64.wrap ((i : Int) + n + 10) = (i : Int) + n + 10 := by rw [IntKind.wrap_i64]; omega
      have n1 : ((i : Int) + n + 8).toNat = i + n + 8 := by omega
      have n2 : ((i : Int) + n + 10).toNat = i + n + 10 := by omega
      go_wp2_with fail
      clear hl hi h10 hn h2
      go_region_held3 (fun w' => Below w.heap.size w w')
        (first
          | exact below_step (by assumption) (by assumption)
          | assumption
          | exact HB1.out
          | exact HB1.out.drew)
        (first
          | (go_at_call 73; rw [HX1.out]; refine (small_of q1 _ HQ1.out).mono ?_; rintro e w' ⟨rfl, hbN⟩)
          | (go_at_call 125; rw [HX2.out]; refine (ksum_any q2 _ HQ2.out).mono ?_; rintro e w' ⟨rfl, rfl⟩))
      rename_i hHeld
      go_wp2_with fail
      refine bodyPost_ret (v := .bool ((numL q1 : Int) == (sumB q2 : Int))) (by simp [results, Tryz.results72, go_sem]) rfl ⟨?_, hHeld⟩
      rw [HS.out]
      congr 2
      rw [Bool.eq_iff_iff]
      simp only [beq_iff_eq, decide_eq_true_eq]
      omega
    · rw [decide_eq_false h2, Bool.false_and] at HS
      go_wp2_with fail
      go_ret
      exact ⟨by rw [HS.out]; rfl, HB1.out⟩
  · have HS : Hid (strayB l i = false) := by
      show _ = _
      unfold strayB; rw [decide_eq_false h10, Bool.false_and]
    go_enter Tryz.func72, Tryz.ntmps72
    go_wp2_with fail
    go_ret
    exact ⟨by rw [HS.out]; rfl, Below.refl _ _⟩
set_option maxHeartbeats 400000 in
theorem names_any (w : World) :
    Calls Tryz.prog 66 #[] w fun e w' => e = .returned (.slice (some ⟨w.heap.size, 0, none⟩) 3 3) ∧ Below w.heap.size w w' ∧ ∀ k, k < 3 → w'.cell? ⟨w.heap.size, k, none⟩ = some (.string (ofL (nm k))) := by
  go_enter Tryz.func66, Tryz.ntmps66
  go_wp2_with fail
  go_ret
  refine ⟨rfl, (Below.refl _ _).alloc (Nat.le_refl _) _, fun k hk => ?_⟩
  rw [(Blk.new w _ _).cell k]
  match k, hk with
  | 0, _ => rfl
  | 1, _ => rfl
  | 2, _ => rfl
def secOk (l d a : Bs) (j : Nat) : Prop := (l.drop (32 * j)).take 32 = (d.drop (32 * j)).take 32 ∨ (l.drop (32 * j)).take 32 = (a.drop (32 * j)).take 32
theorem heads_no {l d a : Bs} (hh : headsOf l d a ↔ secOk l d a 0 ∧ secOk l d a 1) {k : Nat} (hk : k < 2) (h : ¬ secOk l d a k) : ¬ headsOf l d a := by
  intro x
  have := hh.1 x
  match k, hk with
  | 0, _ => exact h this.1
  | 1, _ => exact h this.2
set_option maxRecDepth 20000 in
set_option maxHeartbeats 400000 in
theorem head_two (l d a : Bs) (w : World) (hl : 64 ≤ l.length ∧ l.length ≤ 1000000) (hd : d.length = l.length) (ha : a.length = l.length) :
    Calls Tryz.prog 37 #[.string (ofL l), .string (ofL d), .string (ofL a)] w fun e w' => (∃ b : Bool, e = .returned (.bool b) ∧ (b = true ↔ headsOf l d a)) ∧ Below w.heap.size w w' := by
  have HL : Hid ((64 ≤ l.length ∧ l.length ≤ 1000000) ∧ d.length = l.length ∧ a.length = l.length) := ⟨hl, hd, ha⟩
  have HH : Hid (headsOf l d a ↔ secOk l d a 0 ∧ secOk l d a 1) := by
    show headsOf l d a ↔ _
    unfold headsOf secOk
    simp only [Nat.mul_zero, List.drop_zero, Nat.mul_one]
  clear hl hd ha
  go_enter Tryz.func37, Tryz.ntmps37
  go_wp2_with fail
  go_loopw [7] (fun iv wx => ∃ k : Nat, k ≤ 2 ∧ iv = .int .i64 ((32 * k : Nat) : Int) ∧ Hid (∀ j, j < k → secOk l d a j) ∧ Hid (Below w.heap.size w wx)) (fun iv _ => 64 - (intOf iv).toNat)
  case atStart => exact ⟨0, Nat.zero_le _, rfl, (fun j hj => by omega), Below.refl _ _⟩
  case round =>
    obtain ⟨k, hk, rfl, HO, HB⟩ := hrel
    by_cases hlt : k < 2
    · have h1 := HL.out.1.1
      have h2 := HL.out.1.2
      have h3 := HL.out.2.1
      have h4 := HL.out.2.2
      have HX1 : (ofL l).extract (32 * k) (32 * k + 32) = ofL ((l.drop (32 * k)).take 32) := by rw [extract_ofL, show 32 * k + 32 - 32 * k = 32 by omega]
      have HX2 : (ofL d).extract (32 * k) (32 * k + 32) = ofL ((d.drop (32 * k)).take 32) := by rw [extract_ofL, show 32 * k + 32 - 32 * k = 32 by omega]
      have HX3 : (ofL a).extract (32 * k) (32 * k + 32) = ofL ((a.drop (32 * k)).take 32) := by rw [extract_ofL, show 32 * k + 32 - 32 * k = 32 by omega]
      go_wp2_with fail
      have HSO : Hid (secOk l d a k ↔ (l.drop (32 * k)).take 32 = (d.drop (32 * k)).take 32 ∨ (l.drop (32 * k)).take 32 = (a.drop (32 * k)).take 32) := Iff.rfl
      have HNX : Hid (secOk l d a k → ∀ j, j < k + 1 → secOk l d a j) := fun h j hj => by
        by_cases e : j = k
        · rw [e]; exact h
        · exact HO.out j (by omega)
      have HNO : Hid (¬ secOk l d a k → ¬ headsOf l d a) := fun h => heads_no HH.out hlt h
      generalize (l.drop (32 * k)).take 32 = x at *
      generalize (d.drop (32 * k)).take 32 = y at *
      generalize (a.drop (32 * k)).take 32 = z at *
      have q1 : ((ofL x).toList == (ofL y).toList) = decide (x = y) := by
        rw [eq_toList, Bool.eq_iff_iff, beq_iff_eq, decide_eq_true_iff]; rfl
      have q2 : ((ofL x).toList == (ofL z).toList) = decide (x = z) := by
        rw [eq_toList, Bool.eq_iff_iff, beq_iff_eq, decide_eq_true_iff]; rfl
      clear h1 h2 h3 h4
      have h1 := HL.out.1.1
      have h3 := HL.out.2.1
      have h4 := HL.out.2.2
      have m1 : (0 : Int) ≤ 32 * (k : Int) := by omega
      have m2 : 32 * (k : Int) ≤ 32 * (k : Int) + 32 := by omega
      have m3 : 32 * (k : Int) + 32 ≤ l.length := by omega
      have m4 : 32 * (k : Int) + 32 ≤ d.length := by omega
      have m5 : 32 * (k : Int) + 32 ≤ a.length := by omega
      clear h1 h3 h4
      have e1 : IntKind.i64.wrap (32 * (k : Int) + 32) = 32 * (k : Int) + 32 := by rw [IntKind.wrap_i64]; omega
      have n1 : (32 * (k : Int) + 32).toNat = 32 * k + 32 := by omega
      have n2 : (32 * (k : Int)).toNat = 32 * k := by omega
      by_cases c1 : x = y
      · rw [decide_eq_true c1] at q1
        have HOK : Hid (secOk l d a k) := HSO.out.2 (Or.inl c1)
        clear c1 HSO
        go_region
        go_wp2_with fail
        go_round
        case rel => exact ⟨k + 1, by omega, by go_num, HNX.out HOK.out, below_drewN HB.out _⟩
        case measure => simp [intOf]; omega
      · rw [decide_eq_false c1] at q1
        by_cases c2 : x = z
        · rw [decide_eq_true c2] at q2
          have HOK : Hid (secOk l d a k) := HSO.out.2 (Or.inr c2)
          clear c1 c2 HSO
          go_region
          go_wp2_with fail
          go_round
          case rel => exact ⟨k + 1, by omega, by go_num, HNX.out HOK.out, below_drewN HB.out _⟩
          case measure => simp [intOf]; omega
        · rw [decide_eq_false c2] at q2
          have HOK : Hid (¬ headsOf l d a) := HNO.out (fun h => (HSO.out.1 h).elim c1 c2)
          clear c1 c2 HSO
          go_region
          go_wp2_with fail
          refine bodyPost_ret (v := .bool false) (by simp [results, Tryz.results37, go_sem]) rfl ⟨⟨false, rfl, ?_⟩, below_drewN HB.out _⟩
          exact ⟨fun h => (by cases h), fun h => absurd h HOK.out⟩
    · have hk2 : k = 2 := by omega
      subst hk2
      go_wp2_with fail
      refine bodyPost_ret (v := .bool true) (by simp [results, Tryz.results37, go_sem]) rfl ⟨⟨true, rfl, ?_⟩, HB.out⟩
      exact ⟨fun _ => HH.out.2 ⟨HO.out 0 (by decide), HO.out 1 (by decide)⟩, fun _ => rfl⟩
end Go.Proofs.YtmnajomkfnkmeaaGreatDoor
