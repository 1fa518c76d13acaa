import Derived.Test.YtmnajomkfnkmeaaGreatDoorRefK
import Derived.BigQuiet
import Derived.Deep.DeepCutAuto
import Derived.Deep.RegionHeld3
namespace Go.Proofs.YtmnajomkfnkmeaaGreatDoor
open Go.RowKit
attribute [local go_sem] ofL_size
/-! THE DOCUMENT's OWN: the record with which a text begins; a configuration -/
def firV : Option Bs → Value
  | some p => .tuple #[.string (ofL p), .bool true]
  | none => .tuple #[.string ⟨#[]⟩, .bool false]
set_option maxRecDepth 20000 in
set_option maxHeartbeats 4000000 in
theorem dfirst_any (s : Bs) (g k : Nat) (w : World) (hl : s.length ≤ 1000000) (hg : g < 4294967296) (hk : k ≤ 1000000) :
    Calls Tryz.prog 80 #[.string (ofL s), .int .i64 (g : Int), .int .i64 (k : Int)] w fun e w' => e = .returned (firV (firstB g k s)) ∧ Below w.heap.size w w' := by
  obtain ⟨V, hV⟩ : ∃ V, V = firstB g k s := ⟨_, rfl⟩
  have HV : Hid (V = if numL (s.take 2) + 10 ≤ s.length ∧ s.take (numL (s.take 2) + 10) = recB g k ((s.drop 8).take (numL (s.take 2))) then some ((s.drop 8).take (numL (s.take 2))) else none) := hV
  rw [← hV]
  clear hV
  by_cases h10 : s.length < 10
  · have HN : Hid (V = none) := by rw [HV.out, if_neg (by omega)]; exact rfl
    go_enter Tryz.func80, Tryz.ntmps80
    go_wp2_with fail
    go_ret2
    exact ⟨by rw [HN.out]; rfl, Below.refl _ _⟩
  · have x1 : (ofL s).extract 0 2 = ofL (s.take 2) := by rw [extract_ofL]; simp
    have HNU : Hid (∀ w', Calls Tryz.prog 131 #[.string (ofL (s.take 2))] w' fun e w'' => e = .returned (.int .i64 (numL (s.take 2))) ∧ w'' = w') := fun w' => by
      have := number_any (ofL (s.take 2)) w' (by rw [ofL_size, List.length_take]; omega)
      rwa [toL_ofL] at this
    have hn : numL (s.take 2) < 65536 := by
      have := numL_lt (s.take 2)
      rwa [List.length_take, show min 2 s.length = 2 by omega] at this
    generalize numL (s.take 2) = n at *
    generalize s.take 2 = s2 at *
    go_enter Tryz.func80, Tryz.ntmps80
    go_wp2_with fail
    refine (HNU.out _).mono ?_
    rintro e w' ⟨rfl, hw'⟩
    subst w'
    clear HNU x1
    by_cases hshort : s.length < n + 10
    · have HN : Hid (V = none) := by rw [HV.out, if_neg (by omega)]; exact rfl
      have e1 : IntKind.i64.wrap ((n : Int) + 10) = (n : Int) + 10 := by rw [IntKind.wrap_i64]; omega
      have b1 : (s.length : Int) < (n : Int) + 10 := by omega
      go_upto_region 4 with fail
      clear hshort
      go_cut [33] (fun cv wx => cv = .bool true ∧ Hid (Below w.heap.size w wx))
      case first =>
        go_quiet (fail)
        go_wp2_with fail
        go_meet
        case rel => exact ⟨rfl, below_drewN (Below.refl _ _) _⟩
      case rest =>
      obtain ⟨rfl, HB⟩ := hcut
      go_wp2_with fail
      go_ret2
      exact ⟨by rw [HN.out]; rfl, HB.out⟩
    · have x2 : (ofL s).extract 0 (n + 10) = ofL (s.take (n + 10)) := by rw [extract_ofL]; simp
      have x3 : (ofL s).extract 8 (n + 8) = ofL ((s.drop 8).take n) := by rw [extract_ofL, show n + 8 - 8 = n by omega]
      have HRC : Hid (∀ w', Calls Tryz.prog 90 #[.int .i64 (g : Int), .int .i64 (k : Int), .string (ofL ((s.drop 8).take n))] w' fun e w'' => e = .returned (.string (ofL (recB g k ((s.drop 8).take n)))) ∧ Below w'.heap.size w' w'') := fun w' => by
        have := refrecord_any (g : Int) (k : Int) (ofL ((s.drop 8).take n)) w' (by omega) (by omega) (by omega) (by omega) (by rw [ofL_size, List.length_take]; omega)
        rwa [recA_L] at this
      have hq := seqL (s.take (n + 10)) (recB g k ((s.drop 8).take n))
      have b0 : ¬ (s.length : Int) < (n : Int) + 10 := by omega
      have bD : decide ((s.length : Int) < (n : Int) + 10) = false := decide_eq_false b0
      have b1 : (0 : Int) ≤ (n : Int) + 10 := by omega
      have b2 : (n : Int) + 10 ≤ (s.length : Int) := by omega
      have b3 : (8 : Int) ≤ (n : Int) + 8 := by omega
      have b4 : (n : Int) + 8 ≤ (s.length : Int) := by omega
      have b5 : (0 : Int) ≤ (n : Int) + 8 := by omega
      have e1 : IntKind.i64.wrap ((n : Int) + 10) = (n : Int) + 10 := by rw [IntKind.wrap_i64]; omega
      have e2 : IntKind.i64.wrap ((n : Int) + 8) = (n : Int) + 8 := by rw [IntKind.wrap_i64]; omega
      have n1 : ((n : Int) + 10).toNat = n + 10 := by omega
      have n2 : ((n : Int) + 8).toNat = n + 8 := by omega
      obtain ⟨B, hB⟩ : ∃ B : Bool, B = decide (s.take (n + 10) = recB g k ((s.drop 8).take n)) := ⟨_, rfl⟩
      have HVB : Hid (V = if B then some ((s.drop 8).take n) else none) := by
        rw [HV.out, hB]
        by_cases hh : s.take (n + 10) = recB g k ((s.drop 8).take n)
        · rw [if_pos ⟨by omega, hh⟩, decide_eq_true hh]; exact rfl
        · rw [if_neg (fun x => hh x.2), decide_eq_false hh]; exact rfl
      rw [← hB] at hq
      clear hB HV hshort
      generalize recB g k ((s.drop 8).take n) = rb at *
      generalize (s.drop 8).take n = pl at *
      generalize s.take (n + 10) = t10 at *
      go_upto_region 4 with fail
      go_cut [33] (fun cv wx => cv = .bool (!B) ∧ Hid (Below w.heap.size w wx))
      case first =>
        have HB1 : Hid (Below w.heap.size w w) := Below.refl _ _
        go_region_held3 (fun w' => Below w.heap.size w w')
          (first
            | exact bstep (by assumption) (by assumption)
            | assumption
            | exact HB1.out
            | exact HB1.out.drew)
          (first
            | (go_at_call 90; refine (HRC.out _).mono ?_; rintro e w' ⟨rfl, hbN⟩))
        rename_i hHeld
        go_wp2_with fail
        go_meet
        case rel => exact ⟨rfl, hHeld⟩
      case rest =>
      obtain ⟨rfl, HB⟩ := hcut
      clear HRC hq
      cases B with
      | true =>
        go_wp2_with fail
        go_ret2
        exact ⟨by rw [HVB.out]; rfl, HB.out⟩
      | false =>
        go_wp2_with fail
        go_ret2
        exact ⟨by rw [HVB.out]; rfl, HB.out⟩
set_option maxRecDepth 20000 in
set_option maxHeartbeats 4000000 in
theorem dconf_any (c : Cfg) (w : World) (h : c.secret.length ≤ 9223372036854775000) :
    Calls Tryz.prog 76 #[cfgV c] w fun e w' => e = .returned (.bool c.ok) ∧ Below w.heap.size w w' := by
  have HV : Hid (c.ok = (decide (1 ≤ (c.secret.length : Int) ∧ (c.secret.length : Int) ≤ 16) && decide (0 ≤ c.seed ∧ c.seed ≤ 65536) && decide (1 ≤ c.idle ∧ c.idle ≤ 1000000000) && decide (1 ≤ c.abs ∧ c.abs ≤ 1000000000) && decide (0 ≤ c.now ∧ c.now ≤ 1000000000))) := by
    show _ = _
    unfold Cfg.ok
    rw [show decide (1 ≤ c.secret.length ∧ c.secret.length ≤ 16) = decide (1 ≤ (c.secret.length : Int) ∧ (c.secret.length : Int) ≤ 16) from by rw [decide_eq_decide]; omega]
  have H1 : Hid (∀ w', Calls _ _ _ w' _) := fun w' => din_any (c.secret.length : Int) 1 16 w'
  have H2 : Hid (∀ w', Calls _ _ _ w' _) := fun w' => din_any c.seed 0 65536 w'
  have H3 : Hid (∀ w', Calls _ _ _ w' _) := fun w' => din_any c.idle 1 1000000000 w'
  have H4 : Hid (∀ w', Calls _ _ _ w' _) := fun w' => din_any c.abs 1 1000000000 w'
  have H5 : Hid (∀ w', Calls _ _ _ w' _) := fun w' => din_any c.now 0 1000000000 w'
  generalize decide (1 ≤ (c.secret.length : Int) ∧ (c.secret.length : Int) ≤ 16) = d1 at *
  generalize decide (0 ≤ c.seed ∧ c.seed ≤ 65536) = d2 at *
  generalize decide (1 ≤ c.idle ∧ c.idle ≤ 1000000000) = d3 at *
  generalize decide (1 ≤ c.abs ∧ c.abs ≤ 1000000000) = d4 at *
  generalize decide (0 ≤ c.now ∧ c.now ≤ 1000000000) = d5 at *
  obtain ⟨V, hV⟩ : ∃ V, V = c.ok := ⟨_, rfl⟩
  rw [← hV] at HV ⊢
  clear hV
  obtain ⟨sec, seed, idle, ab, now⟩ := c
  have HBX : Hid (Below w.heap.size w (w.alloc (.cells #[.string (ofL sec), .int .i64 seed, .int .i64 idle, .int .i64 ab, .int .i64 now] 23))) := (Below.refl _ _).alloc (Nat.le_refl _) _
  unfold cfgV
  go_enter Tryz.func76, Tryz.ntmps76
  go_wp2_with fail
  refine (H1.out _).mono ?_
  rintro e w' ⟨rfl, hw'⟩
  subst w'
  go_wp2_with fail
  refine (H2.out _).mono ?_
  rintro e w' ⟨rfl, hw'⟩
  subst w'
  go_wp2_with fail
  refine (H3.out _).mono ?_
  rintro e w' ⟨rfl, hw'⟩
  subst w'
  go_wp2_with fail
  refine (H4.out _).mono ?_
  rintro e w' ⟨rfl, hw'⟩
  subst w'
  go_wp2_with fail
  refine (H5.out _).mono ?_
  rintro e w' ⟨rfl, hw'⟩
  subst w'
  cases d1 <;> cases d2 <;> cases d3 <;> cases d4 <;> cases d5 <;> (go_wp2_with fail; go_ret; exact ⟨by rw [HV.out]; rfl, HBX.out⟩)
end Go.Proofs.YtmnajomkfnkmeaaGreatDoor
