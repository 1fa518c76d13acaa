import Derived.Test.YtmnajomkfnkmeaaGreatDoorRefRead
import Derived.Test.YtmnajomkfnkmeaaGreatDoorRefN
import Derived.Test.YtmnajomkfnkmeaaGreatDoorRefP
import Derived.Test.YtmnajomkfnkmeaaGreatDoorPasses
import Derived.Test.YtmnajomkfnkmeaaGreatDoorPurB
import Derived.Test.YtmnajomkfnkmeaaGreatDoorFr
import Derived.Laws.IdiomStrings
import Derived.Test.YtmnajomkfnkmeaaGreatDoorThN
import Derived.Test.YtmnajomkfnkmeaaGreatDoorGlob
import Derived.BigQuiet
namespace Go.Proofs.YtmnajomkfnkmeaaGreatDoor
open Go.RowKit
attribute [local go_sem] ofL_size
/-! the document's own: passes, heads, records -/
theorem seqL (a b : Bs) : ((ofL a).toList == (ofL b).toList) = decide (a = b) := by
  rw [eq_toList, Bool.eq_iff_iff, beq_iff_eq, decide_eq_true_iff]; exact ⟨fun h => by rwa [toL_ofL, toL_ofL] at h, fun h => by rw [h]⟩
def headI (s : Bs) : Nat × Nat := match headOf s with | none => (0, 0) | some h => h
set_option maxRecDepth 20000 in
set_option maxHeartbeats 1000000 in
theorem headof_any (s : Bs) (w : World) (hs : s.length = 32) :
    Calls Tryz.prog 78 #[.string (ofL s)] w fun e w' => e = .returned (.agg #[.int .i64 (headI s).1, .int .i64 (headI s).2]) ∧ Below w.heap.size w w' := by
  have h6 : 6 < s.length := by omega
  have hx : (ofL s).extract 2 6 = ofL ((s.drop 2).take 4) := by rw [extract_ofL]
  have hN : ∀ w', Calls Tryz.prog 131 #[.string (ofL ((s.drop 2).take 4))] w' fun e w'' => e = .returned (.int .i64 (numL ((s.drop 2).take 4))) ∧ w'' = w' := fun w' => by
    have := number_any (ofL ((s.drop 2).take 4)) w' (by rw [ofL_size, List.length_take]; omega)
    rwa [toL_ofL] at this
  have HN : Hid (∀ w', Calls _ _ _ w' _) := hN
  have h8 : (s.drop 6).take 1 = [s[6]] := by
    rw [List.drop_eq_getElem_cons h6]; rfl
  have hr : numL ((s.drop 6).take 1) = s[6].toNat := by rw [h8]; simp [numL]
  have HS : Hid (headI s = if 1 ≤ numL ((s.drop 2).take 4) ∧ s[6].toNat ≤ 1 ∧ sectB (numL ((s.drop 2).take 4)) s[6].toNat = s then (numL ((s.drop 2).take 4), s[6].toNat) else (0, 0)) := by
    show _ = _
    unfold headI headOf
    rw [hr]
    by_cases h : 1 ≤ numL ((s.drop 2).take 4) ∧ s[6].toNat ≤ 1 ∧ sectB (numL ((s.drop 2).take 4)) s[6].toNat = s
    · rw [if_pos h, if_pos h]
    · rw [if_neg h, if_neg h]
  have hix : (ofL s)[6]'(by rw [ofL_size]; omega) = s[6] := rfl
  have hb6 := s[6].toNat_lt
  have hg : numL ((s.drop 2).take 4) < 4294967296 := by
    have := numL_lt ((s.drop 2).take 4)
    rwa [List.length_take, List.length_drop, show min 4 (s.length - 2) = 4 by omega] at this
  clear hN h8 hr
  generalize numL ((s.drop 2).take 4) = g at *
  generalize (s.drop 2).take 4 = S4 at *
  obtain ⟨r, hr6⟩ : ∃ r, s[6].toNat = r := ⟨_, rfl⟩
  rw [hr6] at hb6 HS
  have hwr : IntKind.i64.wrap (r : Int) = r := by rw [IntKind.wrap_i64]; omega
  have HSC : Hid (∀ w', Calls Tryz.prog 93 #[.agg #[.int .i64 (g : Int), .int .i64 (r : Int)]] w' fun e w'' => e = .returned (.string (ofL (sectB g r))) ∧ Below w'.heap.size w' w'') := fun w' => by
    have := sector_any (g : Int) (r : Int) w' (by omega) (by omega) (by omega) (by omega)
    rwa [sectorA_L] at this
  obtain ⟨V, hV⟩ : ∃ V, V = headI s := ⟨_, rfl⟩
  rw [← hV]
  rw [← hV] at HS
  clear hV
  go_enter Tryz.func78, Tryz.ntmps78
  go_upto_region 1 with fail
  go_cut [3] (fun s3 wx => s3 = .pointer (some ⟨w.heap.size + 1, 0, none⟩) ∧ wx = ((w.alloc (.cells #[.int .i64 0, .int .i64 0] 127)).alloc (.cells #[.int .i64 g, .int .i64 r] 127)).drew)
  case first =>
    go_region_with (go_at_call 131; refine (HN.out _).mono ?_; rintro e w' ⟨rfl, rfl⟩)
    all_goals (go_wp2_with fail; go_meet; exact ⟨rfl, rfl⟩)
  case rest =>
  obtain ⟨rfl, rfl⟩ := hcut
  clear hr6 hwr HN hx hix
  by_cases hg0 : g = 0
  · have HV : Hid (V = (0, 0)) := by rw [HS.out, if_neg (by omega)]; exact rfl
    subst hg0
    go_wp2_with fail
    refine bodyPost_ret (v := .agg #[.int .i64 0, .int .i64 0]) (by simp [results, Tryz.results78, go_sem]) rfl ⟨by rw [HV.out]; rfl, ?_⟩
    exact (((Below.refl _ _).alloc (Nat.le_refl _) _).alloc (by simp) _).drew
  · by_cases hr1 : 1 < r
    · have HV : Hid (V = (0, 0)) := by rw [HS.out, if_neg (by omega)]; exact rfl
      go_wp2_with fail
      refine bodyPost_ret (v := .agg #[.int .i64 0, .int .i64 0]) (by simp [results, Tryz.results78, go_sem]) rfl ⟨by rw [HV.out]; rfl, ?_⟩
      exact (((Below.refl _ _).alloc (Nat.le_refl _) _).alloc (by simp) _).drew
    · have hq := seqL (sectB g r) s
      have hgb : ((g : Int) == 0) = false := by rw [Bool.eq_false_iff]; intro h; rw [beq_iff_eq] at h; omega
      have hrb : ¬ (1 : Int) < r := by omega
      have hb1 : Blk (((w.alloc (.cells #[.int .i64 0, .int .i64 0] 127)).alloc (.cells #[.int .i64 g, .int .i64 r] 127)).drew) w.heap.size #[.int .i64 0, .int .i64 0] 127 := ((Blk.new w _ _).alloc _).drew
      have hb2 : Blk (((w.alloc (.cells #[.int .i64 0, .int .i64 0] 127)).alloc (.cells #[.int .i64 g, .int .i64 r] 127)).drew) (w.heap.size + 1) #[.int .i64 g, .int .i64 r] 127 := by
        have := (Blk.new (w.alloc (.cells #[.int .i64 0, .int .i64 0] 127)) #[.int .i64 (g : Int), .int .i64 (r : Int)] 127).drew
        simpa using this
      have hbw : Below w.heap.size w (((w.alloc (.cells #[.int .i64 0, .int .i64 0] 127)).alloc (.cells #[.int .i64 g, .int .i64 r] 127)).drew) := (((Below.refl _ _).alloc (Nat.le_refl _) _).alloc (by simp) _).drew
      have HB : Hid (_ ∧ _ ∧ _) := ⟨hb1, hb2, hbw⟩
      clear hb1 hb2 hbw
      by_cases hsec : sectB g r = s
      · have HV : Hid (V = (g, r)) := by rw [HS.out, if_pos ⟨by omega, by omega, hsec⟩]; exact rfl
        rw [decide_eq_true hsec] at hq
        clear hsec HS
        generalize sectB g r = S at *
        go_wp2_with fail
        refine (HSC.out _).mono ?_
        rintro e w3 ⟨rfl, hb3⟩
        have k1 := HB.out.1.below hb3
        have k2 := HB.out.2.1.below hb3
        have HB3 : Hid (Below w.heap.size w w3) := HB.out.2.2.trans (hb3.mono HB.out.2.2.size)
        clear hb3 HB
        have a0 := k1.cell 0
        have a1 := k1.cell 1
        have a2 := k1.frozen 0
        have a3 := k1.frozen 1
        have a4 := k2.cell 0
        have a5 := k2.cell 1
        simp only [List.getElem?_toArray, List.getElem?_cons_zero, List.getElem?_cons_succ] at a0 a1 a4 a5
        have hlt := k1.lt
        clear k1 k2
        go_wp2_with fail
        refine bodyPost_ret (v := .agg #[.int .i64 g, .int .i64 r]) (by simp [results, Tryz.results78, go_sem, a0, a1]) rfl ⟨by rw [HV.out], ?_⟩
        exact (HB3.out.setCell (Nat.le_refl _) _).setCell (Nat.le_refl _) _
      · have HV : Hid (V = (0, 0)) := by rw [HS.out, if_neg (fun h => hsec h.2.2)]; exact rfl
        rw [decide_eq_false hsec] at hq
        clear hsec HS
        generalize sectB g r = S at *
        go_wp2_with fail
        refine (HSC.out _).mono ?_
        rintro e w3 ⟨rfl, hb3⟩
        have k1 := HB.out.1.below hb3
        have k2 := HB.out.2.1.below hb3
        have HB3 : Hid (Below w.heap.size w w3) := HB.out.2.2.trans (hb3.mono HB.out.2.2.size)
        clear hb3 HB
        have a0 := k1.cell 0
        have a1 := k1.cell 1
        have a2 := k1.frozen 0
        have a3 := k1.frozen 1
        simp only [List.getElem?_toArray, List.getElem?_cons_zero, List.getElem?_cons_succ] at a0 a1
        have hlt := k1.lt
        clear k1 k2
        go_wp2_with fail
        refine bodyPost_ret (v := .agg #[.int .i64 0, .int .i64 0]) (by simp [results, Tryz.results78, go_sem, a0, a1]) rfl ⟨by rw [HV.out]; rfl, ?_⟩
        exact (HB3.out.setCell (Nat.le_refl _) _).setCell (Nat.le_refl _) _
end Go.Proofs.YtmnajomkfnkmeaaGreatDoor
