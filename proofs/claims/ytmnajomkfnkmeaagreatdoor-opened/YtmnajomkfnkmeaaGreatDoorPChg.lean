import Derived.Test.YtmnajomkfnkmeaaGreatDoorSRdr
import Derived.Test.YtmnajomkfnkmeaaGreatDoorPurA
namespace Go.Proofs.YtmnajomkfnkmeaaGreatDoor
open Go.RowKit
attribute [local go_sem] ofL_size

/-- a change as a value -/
def chV (k : Nat) (id too u t : Nat) (n v : Bs) : Value := .agg #[.int .u8 k, .int .i64 id, .int .i64 too, .int .i64 u, .int .i64 t, .string (ofL n), .string (ofL v)]
def chgV : Chg → Value
  | .L id u t => chV 76 id 0 u t [] []
  | .T id t => chV 84 id 0 0 t [] []
  | .R id too t => chV 82 id too 0 t [] []
  | .S id n v t => chV 83 id 0 0 t n v
  | .X id => chV 88 id 0 0 0 [] []
  | .U u => chV 85 0 0 u 0 [] []
def noChg : Array Value := #[.int .u8 0, .int .i64 0, .int .i64 0, .int .i64 0, .int .i64 0, .string (ofL []), .string (ofL [])]
def rcV (err : Value) : Option Chg → Value
  | some c => .tuple #[chgV c, .nilIface]
  | none => .tuple #[.agg noChg, err]

def chA (k id too u t : Nat) (n v : Bs) : Array Value := #[.int .u8 k, .int .i64 id, .int .i64 too, .int .i64 u, .int .i64 t, .string (ofL n), .string (ofL v)]
theorem noChg_eq : (#[.int .u8 0, .int .i64 0, .int .i64 0, .int .i64 0, .int .i64 0, .string { data := #[] }, .string { data := #[] }] : Array Value) = noChg := rfl
def firstOf (p : Bs) : Nat × Rd := match p with | [] => (0, Rd.mk [] true false) | k :: l => (k.toNat, Rd.mk l false false)
theorem firstOf_eq (p : Bs) : firstOf p = rdOne ⟨p, false, false⟩ := by
  cases p with
  | nil => rfl
  | cons k l => simp [firstOf, rdOne, rdText, numL]
theorem first_kind {p : Bs} {n : Nat} {r : Rd} (h : firstOf p = (n, r)) (h0 : n ≠ 0) : ∃ l, p = UInt8.ofNat n :: l ∧ r.at l := by
  cases p with
  | nil => simp [firstOf] at h; exact absurd h.1.symm h0
  | cons k l =>
    simp only [firstOf, Prod.mk.injEq] at h
    obtain ⟨rfl, rfl⟩ := h
    exact ⟨l, by simp, rfl, rfl, rfl⟩
theorem first_none {p : Bs} {n : Nat} {r : Rd} (h : firstOf p = (n, r)) (h1 : n ≠ 76) (h2 : n ≠ 84) (h3 : n ≠ 82) (h4 : n ≠ 83) (h5 : n ≠ 88) (h6 : n ≠ 85) : parseChg p = none := by
  cases p with
  | nil => rfl
  | cons k l =>
    simp only [firstOf, Prod.mk.injEq] at h
    obtain ⟨rfl, rfl⟩ := h
    have ne : ∀ j : UInt8, k.toNat ≠ j.toNat → k ≠ j := fun j hj e => hj (by rw [e])
    show atEnd (parseKind k l) = none
    unfold parseKind
    rw [if_neg (ne 76 h1), if_neg (ne 84 h2), if_neg (ne 82 h3), if_neg (ne 83 h4), if_neg (ne 88 h5), if_neg (ne 85 h6)]
    rfl
theorem below_sets {w X : World} (h : Fr (fun _ => False) w X) {v0 v1 v2 v3 v4 v5 v6 : Value} :
    Below w.heap.size w (((((((X.setCell ⟨w.heap.size, 0, none⟩ v0).setCell ⟨w.heap.size, 1, none⟩ v1).setCell ⟨w.heap.size, 2, none⟩ v2).setCell ⟨w.heap.size, 3, none⟩ v3).setCell ⟨w.heap.size, 4, none⟩ v4).setCell ⟨w.heap.size, 5, none⟩ v5).setCell ⟨w.heap.size, 6, none⟩ v6) :=
  ((((((h.below.setCell (Nat.le_refl _) _).setCell (Nat.le_refl _) _).setCell (Nat.le_refl _) _).setCell (Nat.le_refl _) _).setCell (Nat.le_refl _) _).setCell (Nat.le_refl _) _).setCell (Nat.le_refl _) _
set_option maxHeartbeats 4000000 in
theorem rc_any (p : Bs) (t0 : TypeId) (v0 : Value) (w : World) (he : w.cell? ⟨8, 0, none⟩ = some (.iface t0 v0)) (hg : 8 < w.heap.size) :
    Calls Tryz.prog 188 #[.string (ofL p)] w fun e w' => e = .returned (rcV (.iface t0 v0) (parseChg p)) ∧ Below w.heap.size w w' := by
  have HE : Hid (w.cell? ⟨8, 0, none⟩ = some (.iface t0 v0)) := he
  clear he
  have HP : Hid (firstOf p = rdOne ⟨p, false, false⟩) := firstOf_eq p
  go_enter Tryz.func188, Tryz.ntmps188
  go_wp2_with fail
  refine (newSR_any _ _).mono ?_
  rintro e w1 ⟨rfl, hb1⟩
  go_wp2_with fail
  rw [noChg_eq] at hb1
  have hb := w1.heap.size
  have HR : Hid (RS (w1.alloc (.cells #[.string (ofL p), .bool false, .bool false] 275)) w1.heap.size ⟨p, false, false⟩) := Blk.new w1 _ _
  have HRB : Hid (Blk (w1.alloc (.cells #[.string (ofL p), .bool false, .bool false] 275)) w.heap.size noChg 101) := ((Blk.new w _ _).below hb1).alloc _
  have HF : Hid (Fr (fun _ => False) w (w1.alloc (.cells #[.string (ofL p), .bool false, .bool false] 275))) := (((Fr.refl _ w).alloc _).trans (Fr.of_below hb1) (fun _ _ h => h)).alloc _
  have hlt : w.heap.size < w1.heap.size := by have := hb1.size; simp at this; omega
  have hlt2 : w1.heap.size < (w1.alloc (.cells #[.string (ofL p), .bool false, .bool false] 275)).heap.size := by simp
  clear hb1 hb
  generalize w1.heap.size = b at *
  generalize w1.alloc (.cells #[.string (ofL p), .bool false, .bool false] 275) = w2 at *
  refine (rone_any b _ _ _ _ HR.out).mono ?_
  rintro e w3 ⟨rfl, h3, hf3⟩
  have HR3 : Hid (RS w3 b (rdOne ⟨p, false, false⟩).2) := RS.of h3 (rdText_out 1 _)
  have HRB3 : Hid (Blk w3 w.heap.size noChg 101) := HRB.out.kept hf3 (by omega)
  have HF3 : Hid (Fr (fun _ => False) w w3) := HF.out.trans hf3 (by omega)
  have hlt3 : b < w3.heap.size := Nat.lt_of_lt_of_le hlt2 hf3.size
  clear h3 hf3 HR HRB HF hlt2
  rw [← HP.out] at *
  generalize hq : firstOf p = q at *
  have HQ : Hid _ := hq
  clear hq
  obtain ⟨n, r⟩ := q
  by_cases h76 : n = 76
  · subst h76
    go_wp2_with fail
    have HR4 : Hid (RS (w3.alloc (.cells (chA 76 0 0 0 0 [] []) 101)) b r) := HR3.out.alloc _
    have HC4 : Hid (Blk (w3.alloc (.cells (chA 76 0 0 0 0 [] []) 101)) w3.heap.size (chA 76 0 0 0 0 [] []) 101) := Blk.new _ _ _
    have HB4 : Hid (Blk (w3.alloc (.cells (chA 76 0 0 0 0 [] []) 101)) w.heap.size noChg 101) := HRB3.out.alloc _
    have HF4 : Hid (Fr (fun _ => False) w (w3.alloc (.cells (chA 76 0 0 0 0 [] []) 101))) := HF3.out.alloc _
    have hsz : w.heap.size ≤ w3.heap.size := HF3.out.size
    rw [show (#[.int .u8 76, .int .i64 0, .int .i64 0, .int .i64 0, .int .i64 0, .string { data := #[] }, .string { data := #[] }] : Array Value) = chA 76 0 0 0 0 [] [] from rfl]
    clear HR3 HRB3 HF3
    generalize w3.heap.size = cb at *
    generalize w3.alloc (.cells (chA 76 0 0 0 0 [] []) 101) = w4 at *
    refine (sid_any b _ _ HR4.out).mono ?_
    rintro e w5 ⟨rfl, h5, hf5⟩
    have HR5 : Hid (RS w5 b (rdId r).2) := h5
    have HC5 : Hid (Blk w5 cb (chA 76 0 0 0 0 [] []) 101) := HC4.out.kept hf5 (by omega)
    have HB5 : Hid (Blk w5 w.heap.size noChg 101) := HB4.out.kept hf5 (by omega)
    have HF5 : Hid (Fr (fun _ => False) w w5) := HF4.out.trans hf5 (by omega)
    clear h5 hf5 HR4 HC4 HB4 HF4
    go_wp2_with fail
    refine (suser_any b _ _ HR5.out).mono ?_
    rintro e w6 ⟨rfl, h6, hf6⟩
    have HR6 : Hid (RS w6 b (rdUser (rdId r).2).2) := h6
    have HC6 : Hid (Blk w6 cb (chA 76 0 0 0 0 [] []) 101) := HC5.out.kept hf6 (by omega)
    have HB6 : Hid (Blk w6 w.heap.size noChg 101) := HB5.out.kept hf6 (by omega)
    have HF6 : Hid (Fr (fun _ => False) w w6) := HF5.out.trans hf6 (by omega)
    clear h6 hf6 HR5 HC5 HB5 HF5
    go_wp2_with fail
    refine (stime_any b _ _ HR6.out).mono ?_
    rintro e w7 ⟨rfl, h7, hf7⟩
    have HR7 : Hid (RS w7 b (rdTime (rdUser (rdId r).2).2).2) := h7
    have HC7 : Hid (Blk w7 cb (chA 76 0 0 0 0 [] []) 101) := HC6.out.kept hf7 (by omega)
    have HB7 : Hid (Blk w7 w.heap.size noChg 101) := HB6.out.kept hf7 (by omega)
    have HF7 : Hid (Fr (fun _ => False) w w7) := HF6.out.trans hf7 (by omega)
    clear h7 hf7 HR6 HC6 HB6 HF6
    have c1 : w7.cell? ⟨cb, 1, none⟩ = some (.int .i64 0) := Blk.cell HC7.out 1
    have f1 : w7.frozen? ⟨cb, 1, none⟩ = false := Blk.frozen HC7.out 1
    have c3 : w7.cell? ⟨cb, 3, none⟩ = some (.int .i64 0) := Blk.cell HC7.out 3
    have f3 : w7.frozen? ⟨cb, 3, none⟩ = false := Blk.frozen HC7.out 3
    have c4 : w7.cell? ⟨cb, 4, none⟩ = some (.int .i64 0) := Blk.cell HC7.out 4
    have f4 : w7.frozen? ⟨cb, 4, none⟩ = false := Blk.frozen HC7.out 4
    go_wp2_with fail
    have HR9 : Hid (RS (((w7.setCell ⟨cb, 1, none⟩ (.int .i64 (rdId r).1)).setCell ⟨cb, 3, none⟩ (.int .i64 (rdUser (rdId r).2).1)).setCell ⟨cb, 4, none⟩ (.int .i64 (rdTime (rdUser (rdId r).2).2).1)) b (rdTime (rdUser (rdId r).2).2).2) := (Blk.other (Blk.other (Blk.other HR7.out (by simp only; omega) _) (by simp only; omega) _) (by simp only; omega) _)
    have HC9 : Hid (Blk (((w7.setCell ⟨cb, 1, none⟩ (.int .i64 (rdId r).1)).setCell ⟨cb, 3, none⟩ (.int .i64 (rdUser (rdId r).2).1)).setCell ⟨cb, 4, none⟩ (.int .i64 (rdTime (rdUser (rdId r).2).2).1)) cb (chA 76 (rdId r).1 0 (rdUser (rdId r).2).1 (rdTime (rdUser (rdId r).2).2).1 [] []) 101) := (Blk.set (Blk.set (Blk.set HC7.out 1 _) 3 _) 4 _)
    have HB9 : Hid (Blk (((w7.setCell ⟨cb, 1, none⟩ (.int .i64 (rdId r).1)).setCell ⟨cb, 3, none⟩ (.int .i64 (rdUser (rdId r).2).1)).setCell ⟨cb, 4, none⟩ (.int .i64 (rdTime (rdUser (rdId r).2).2).1)) w.heap.size noChg 101) := (Blk.other (Blk.other (Blk.other HB7.out (by simp only; omega) _) (by simp only; omega) _) (by simp only; omega) _)
    have HF9 : Hid (Fr (fun _ => False) w (((w7.setCell ⟨cb, 1, none⟩ (.int .i64 (rdId r).1)).setCell ⟨cb, 3, none⟩ (.int .i64 (rdUser (rdId r).2).1)).setCell ⟨cb, 4, none⟩ (.int .i64 (rdTime (rdUser (rdId r).2).2).1))) := (Fr.setCell (Fr.setCell (Fr.setCell HF7.out _ (by simp only; omega) _) _ (by simp only; omega) _) _ (by simp only; omega) _)
    clear HR7 HC7 HB7 HF7 c1 f1 c3 f3 c4 f4
    generalize (((w7.setCell ⟨cb, 1, none⟩ (.int .i64 (rdId r).1)).setCell ⟨cb, 3, none⟩ (.int .i64 (rdUser (rdId r).2).1)).setCell ⟨cb, 4, none⟩ (.int .i64 (rdTime (rdUser (rdId r).2).2).1)) = w9 at *
    obtain ⟨l, hp, hr⟩ := first_kind HQ.out (by decide)
    have HPC : Hid (parseChg p = if (rdTime (rdUser (rdId r).2).2).2.fit = true then some (Chg.L (rdId r).1 (rdUser (rdId r).2).1 (rdTime (rdUser (rdId r).2).2).1) else none) := by
      show _ = _
      rw [hp]
      exact gL_eq hr
    clear hp hr
    refine (isFit_any b _ _ HR9.out).mono ?_
    rintro e w10 ⟨rfl, nq, rfl⟩
    generalize (rdTime (rdUser (rdId r).2).2).2.fit = ft at *
    have r0 : w9.cell? ⟨w.heap.size, 0, none⟩ = some (.int .u8 0) := Blk.cell HB9.out 0
    have r1 : w9.cell? ⟨w.heap.size, 1, none⟩ = some (.int .i64 0) := Blk.cell HB9.out 1
    have r2 : w9.cell? ⟨w.heap.size, 2, none⟩ = some (.int .i64 0) := Blk.cell HB9.out 2
    have r3 : w9.cell? ⟨w.heap.size, 3, none⟩ = some (.int .i64 0) := Blk.cell HB9.out 3
    have r4 : w9.cell? ⟨w.heap.size, 4, none⟩ = some (.int .i64 0) := Blk.cell HB9.out 4
    have r5 : w9.cell? ⟨w.heap.size, 5, none⟩ = some (.string (ofL [])) := Blk.cell HB9.out 5
    have r6 : w9.cell? ⟨w.heap.size, 6, none⟩ = some (.string (ofL [])) := Blk.cell HB9.out 6
    have fr : ∀ i, w9.frozen? ⟨w.heap.size, i, none⟩ = false := fun i => Blk.frozen HB9.out i
    cases ft with
    | true =>
      have c0 : w9.cell? ⟨cb, 0, none⟩ = some (.int .u8 76) := Blk.cell HC9.out 0
      have c1 : w9.cell? ⟨cb, 1, none⟩ = some (.int .i64 (rdId r).1) := Blk.cell HC9.out 1
      have c2 : w9.cell? ⟨cb, 2, none⟩ = some (.int .i64 0) := Blk.cell HC9.out 2
      have c3 : w9.cell? ⟨cb, 3, none⟩ = some (.int .i64 (rdUser (rdId r).2).1) := Blk.cell HC9.out 3
      have c4 : w9.cell? ⟨cb, 4, none⟩ = some (.int .i64 (rdTime (rdUser (rdId r).2).2).1) := Blk.cell HC9.out 4
      have c5 : w9.cell? ⟨cb, 5, none⟩ = some (.string (ofL [])) := Blk.cell HC9.out 5
      have c6 : w9.cell? ⟨cb, 6, none⟩ = some (.string (ofL [])) := Blk.cell HC9.out 6
      go_wp2_with fail
      refine bodyPost_ret (v := rcV (.iface t0 v0) (some (Chg.L (rdId r).1 (rdUser (rdId r).2).1 (rdTime (rdUser (rdId r).2).2).1))) (by simp [results, Tryz.results188, go_sem, r0, r1, r2, r3, r4, r5, r6, rcV, chgV, chV]) rfl ⟨?_, ?_⟩
      · rw [HPC.out]; rfl
      · exact below_sets (HF9.out.drewN _)
    | false =>
      have fe : w9.cell? ⟨8, 0, none⟩ = some (.iface t0 v0) := (HF9.out.cell (p := ⟨8, 0, none⟩) hg (fun h => h)).trans HE.out
      go_wp2_with fail
      go_region
      all_goals
        go_wp2_with fail
        refine bodyPost_ret (v := rcV (.iface t0 v0) none) (by simp [results, Tryz.results188, go_sem, r0, r1, r2, r3, r4, r5, r6, rcV, noChg]; try rfl) rfl ⟨?_, ?_⟩
        · rw [HPC.out]; rfl
        · exact below_sets (HF9.out.drewN _)
  by_cases h84 : n = 84
  · subst h84
    go_wp2_with fail
    have HR4 : Hid (RS (w3.alloc (.cells (chA 84 0 0 0 0 [] []) 101)) b r) := HR3.out.alloc _
    have HC4 : Hid (Blk (w3.alloc (.cells (chA 84 0 0 0 0 [] []) 101)) w3.heap.size (chA 84 0 0 0 0 [] []) 101) := Blk.new _ _ _
    have HB4 : Hid (Blk (w3.alloc (.cells (chA 84 0 0 0 0 [] []) 101)) w.heap.size noChg 101) := HRB3.out.alloc _
    have HF4 : Hid (Fr (fun _ => False) w (w3.alloc (.cells (chA 84 0 0 0 0 [] []) 101))) := HF3.out.alloc _
    have hsz : w.heap.size ≤ w3.heap.size := HF3.out.size
    rw [show (#[.int .u8 84, .int .i64 0, .int .i64 0, .int .i64 0, .int .i64 0, .string { data := #[] }, .string { data := #[] }] : Array Value) = chA 84 0 0 0 0 [] [] from rfl]
    clear HR3 HRB3 HF3
    generalize w3.heap.size = cb at *
    generalize w3.alloc (.cells (chA 84 0 0 0 0 [] []) 101) = w4 at *
    refine (sid_any b _ _ HR4.out).mono ?_
    rintro e w5 ⟨rfl, h5, hf5⟩
    have HR5 : Hid (RS w5 b (rdId r).2) := h5
    have HC5 : Hid (Blk w5 cb (chA 84 0 0 0 0 [] []) 101) := HC4.out.kept hf5 (by omega)
    have HB5 : Hid (Blk w5 w.heap.size noChg 101) := HB4.out.kept hf5 (by omega)
    have HF5 : Hid (Fr (fun _ => False) w w5) := HF4.out.trans hf5 (by omega)
    clear h5 hf5 HR4 HC4 HB4 HF4
    go_wp2_with fail
    refine (stime_any b _ _ HR5.out).mono ?_
    rintro e w6 ⟨rfl, h6, hf6⟩
    have HR6 : Hid (RS w6 b (rdTime (rdId r).2).2) := h6
    have HC6 : Hid (Blk w6 cb (chA 84 0 0 0 0 [] []) 101) := HC5.out.kept hf6 (by omega)
    have HB6 : Hid (Blk w6 w.heap.size noChg 101) := HB5.out.kept hf6 (by omega)
    have HF6 : Hid (Fr (fun _ => False) w w6) := HF5.out.trans hf6 (by omega)
    clear h6 hf6 HR5 HC5 HB5 HF5
    have c1 : w6.cell? ⟨cb, 1, none⟩ = some (.int .i64 0) := Blk.cell HC6.out 1
    have f1 : w6.frozen? ⟨cb, 1, none⟩ = false := Blk.frozen HC6.out 1
    have c4 : w6.cell? ⟨cb, 4, none⟩ = some (.int .i64 0) := Blk.cell HC6.out 4
    have f4 : w6.frozen? ⟨cb, 4, none⟩ = false := Blk.frozen HC6.out 4
    go_wp2_with fail
    have HR9 : Hid (RS ((w6.setCell ⟨cb, 1, none⟩ (.int .i64 (rdId r).1)).setCell ⟨cb, 4, none⟩ (.int .i64 (rdTime (rdId r).2).1)) b (rdTime (rdId r).2).2) := (Blk.other (Blk.other HR6.out (by simp only; omega) _) (by simp only; omega) _)
    have HC9 : Hid (Blk ((w6.setCell ⟨cb, 1, none⟩ (.int .i64 (rdId r).1)).setCell ⟨cb, 4, none⟩ (.int .i64 (rdTime (rdId r).2).1)) cb (chA 84 (rdId r).1 0 0 (rdTime (rdId r).2).1 [] []) 101) := (Blk.set (Blk.set HC6.out 1 _) 4 _)
    have HB9 : Hid (Blk ((w6.setCell ⟨cb, 1, none⟩ (.int .i64 (rdId r).1)).setCell ⟨cb, 4, none⟩ (.int .i64 (rdTime (rdId r).2).1)) w.heap.size noChg 101) := (Blk.other (Blk.other HB6.out (by simp only; omega) _) (by simp only; omega) _)
    have HF9 : Hid (Fr (fun _ => False) w ((w6.setCell ⟨cb, 1, none⟩ (.int .i64 (rdId r).1)).setCell ⟨cb, 4, none⟩ (.int .i64 (rdTime (rdId r).2).1))) := (Fr.setCell (Fr.setCell HF6.out _ (by simp only; omega) _) _ (by simp only; omega) _)
    clear HR6 HC6 HB6 HF6 c1 f1 c4 f4
    generalize ((w6.setCell ⟨cb, 1, none⟩ (.int .i64 (rdId r).1)).setCell ⟨cb, 4, none⟩ (.int .i64 (rdTime (rdId r).2).1)) = w9 at *
    obtain ⟨l, hp, hr⟩ := first_kind HQ.out (by decide)
    have HPC : Hid (parseChg p = if (rdTime (rdId r).2).2.fit = true then some (Chg.T (rdId r).1 (rdTime (rdId r).2).1) else none) := by
      show _ = _
      rw [hp]
      exact gT_eq hr
    clear hp hr
    refine (isFit_any b _ _ HR9.out).mono ?_
    rintro e w10 ⟨rfl, nq, rfl⟩
    generalize (rdTime (rdId r).2).2.fit = ft at *
    have r0 : w9.cell? ⟨w.heap.size, 0, none⟩ = some (.int .u8 0) := Blk.cell HB9.out 0
    have r1 : w9.cell? ⟨w.heap.size, 1, none⟩ = some (.int .i64 0) := Blk.cell HB9.out 1
    have r2 : w9.cell? ⟨w.heap.size, 2, none⟩ = some (.int .i64 0) := Blk.cell HB9.out 2
    have r3 : w9.cell? ⟨w.heap.size, 3, none⟩ = some (.int .i64 0) := Blk.cell HB9.out 3
    have r4 : w9.cell? ⟨w.heap.size, 4, none⟩ = some (.int .i64 0) := Blk.cell HB9.out 4
    have r5 : w9.cell? ⟨w.heap.size, 5, none⟩ = some (.string (ofL [])) := Blk.cell HB9.out 5
    have r6 : w9.cell? ⟨w.heap.size, 6, none⟩ = some (.string (ofL [])) := Blk.cell HB9.out 6
    have fr : ∀ i, w9.frozen? ⟨w.heap.size, i, none⟩ = false := fun i => Blk.frozen HB9.out i
    cases ft with
    | true =>
      have c0 : w9.cell? ⟨cb, 0, none⟩ = some (.int .u8 84) := Blk.cell HC9.out 0
      have c1 : w9.cell? ⟨cb, 1, none⟩ = some (.int .i64 (rdId r).1) := Blk.cell HC9.out 1
      have c2 : w9.cell? ⟨cb, 2, none⟩ = some (.int .i64 0) := Blk.cell HC9.out 2
      have c3 : w9.cell? ⟨cb, 3, none⟩ = some (.int .i64 0) := Blk.cell HC9.out 3
      have c4 : w9.cell? ⟨cb, 4, none⟩ = some (.int .i64 (rdTime (rdId r).2).1) := Blk.cell HC9.out 4
      have c5 : w9.cell? ⟨cb, 5, none⟩ = some (.string (ofL [])) := Blk.cell HC9.out 5
      have c6 : w9.cell? ⟨cb, 6, none⟩ = some (.string (ofL [])) := Blk.cell HC9.out 6
      go_wp2_with fail
      refine bodyPost_ret (v := rcV (.iface t0 v0) (some (Chg.T (rdId r).1 (rdTime (rdId r).2).1))) (by simp [results, Tryz.results188, go_sem, r0, r1, r2, r3, r4, r5, r6, rcV, chgV, chV]) rfl ⟨?_, ?_⟩
      · rw [HPC.out]; rfl
      · exact below_sets (HF9.out.drewN _)
    | false =>
      have fe : w9.cell? ⟨8, 0, none⟩ = some (.iface t0 v0) := (HF9.out.cell (p := ⟨8, 0, none⟩) hg (fun h => h)).trans HE.out
      go_wp2_with fail
      go_region
      all_goals
        go_wp2_with fail
        refine bodyPost_ret (v := rcV (.iface t0 v0) none) (by simp [results, Tryz.results188, go_sem, r0, r1, r2, r3, r4, r5, r6, rcV, noChg]; try rfl) rfl ⟨?_, ?_⟩
        · rw [HPC.out]; rfl
        · exact below_sets (HF9.out.drewN _)
  by_cases h82 : n = 82
  · subst h82
    go_wp2_with fail
    have HR4 : Hid (RS (w3.alloc (.cells (chA 82 0 0 0 0 [] []) 101)) b r) := HR3.out.alloc _
    have HC4 : Hid (Blk (w3.alloc (.cells (chA 82 0 0 0 0 [] []) 101)) w3.heap.size (chA 82 0 0 0 0 [] []) 101) := Blk.new _ _ _
    have HB4 : Hid (Blk (w3.alloc (.cells (chA 82 0 0 0 0 [] []) 101)) w.heap.size noChg 101) := HRB3.out.alloc _
    have HF4 : Hid (Fr (fun _ => False) w (w3.alloc (.cells (chA 82 0 0 0 0 [] []) 101))) := HF3.out.alloc _
    have hsz : w.heap.size ≤ w3.heap.size := HF3.out.size
    rw [show (#[.int .u8 82, .int .i64 0, .int .i64 0, .int .i64 0, .int .i64 0, .string { data := #[] }, .string { data := #[] }] : Array Value) = chA 82 0 0 0 0 [] [] from rfl]
    clear HR3 HRB3 HF3
    generalize w3.heap.size = cb at *
    generalize w3.alloc (.cells (chA 82 0 0 0 0 [] []) 101) = w4 at *
    refine (sid_any b _ _ HR4.out).mono ?_
    rintro e w5 ⟨rfl, h5, hf5⟩
    have HR5 : Hid (RS w5 b (rdId r).2) := h5
    have HC5 : Hid (Blk w5 cb (chA 82 0 0 0 0 [] []) 101) := HC4.out.kept hf5 (by omega)
    have HB5 : Hid (Blk w5 w.heap.size noChg 101) := HB4.out.kept hf5 (by omega)
    have HF5 : Hid (Fr (fun _ => False) w w5) := HF4.out.trans hf5 (by omega)
    clear h5 hf5 HR4 HC4 HB4 HF4
    go_wp2_with fail
    refine (sid_any b _ _ HR5.out).mono ?_
    rintro e w6 ⟨rfl, h6, hf6⟩
    have HR6 : Hid (RS w6 b (rdId (rdId r).2).2) := h6
    have HC6 : Hid (Blk w6 cb (chA 82 0 0 0 0 [] []) 101) := HC5.out.kept hf6 (by omega)
    have HB6 : Hid (Blk w6 w.heap.size noChg 101) := HB5.out.kept hf6 (by omega)
    have HF6 : Hid (Fr (fun _ => False) w w6) := HF5.out.trans hf6 (by omega)
    clear h6 hf6 HR5 HC5 HB5 HF5
    go_wp2_with fail
    refine (stime_any b _ _ HR6.out).mono ?_
    rintro e w7 ⟨rfl, h7, hf7⟩
    have HR7 : Hid (RS w7 b (rdTime (rdId (rdId r).2).2).2) := h7
    have HC7 : Hid (Blk w7 cb (chA 82 0 0 0 0 [] []) 101) := HC6.out.kept hf7 (by omega)
    have HB7 : Hid (Blk w7 w.heap.size noChg 101) := HB6.out.kept hf7 (by omega)
    have HF7 : Hid (Fr (fun _ => False) w w7) := HF6.out.trans hf7 (by omega)
    clear h7 hf7 HR6 HC6 HB6 HF6
    have c1 : w7.cell? ⟨cb, 1, none⟩ = some (.int .i64 0) := Blk.cell HC7.out 1
    have f1 : w7.frozen? ⟨cb, 1, none⟩ = false := Blk.frozen HC7.out 1
    have c2 : w7.cell? ⟨cb, 2, none⟩ = some (.int .i64 0) := Blk.cell HC7.out 2
    have f2 : w7.frozen? ⟨cb, 2, none⟩ = false := Blk.frozen HC7.out 2
    have c4 : w7.cell? ⟨cb, 4, none⟩ = some (.int .i64 0) := Blk.cell HC7.out 4
    have f4 : w7.frozen? ⟨cb, 4, none⟩ = false := Blk.frozen HC7.out 4
    go_wp2_with fail
    have HR9 : Hid (RS (((w7.setCell ⟨cb, 1, none⟩ (.int .i64 (rdId r).1)).setCell ⟨cb, 2, none⟩ (.int .i64 (rdId (rdId r).2).1)).setCell ⟨cb, 4, none⟩ (.int .i64 (rdTime (rdId (rdId r).2).2).1)) b (rdTime (rdId (rdId r).2).2).2) := (Blk.other (Blk.other (Blk.other HR7.out (by simp only; omega) _) (by simp only; omega) _) (by simp only; omega) _)
    have HC9 : Hid (Blk (((w7.setCell ⟨cb, 1, none⟩ (.int .i64 (rdId r).1)).setCell ⟨cb, 2, none⟩ (.int .i64 (rdId (rdId r).2).1)).setCell ⟨cb, 4, none⟩ (.int .i64 (rdTime (rdId (rdId r).2).2).1)) cb (chA 82 (rdId r).1 (rdId (rdId r).2).1 0 (rdTime (rdId (rdId r).2).2).1 [] []) 101) := (Blk.set (Blk.set (Blk.set HC7.out 1 _) 2 _) 4 _)
    have HB9 : Hid (Blk (((w7.setCell ⟨cb, 1, none⟩ (.int .i64 (rdId r).1)).setCell ⟨cb, 2, none⟩ (.int .i64 (rdId (rdId r).2).1)).setCell ⟨cb, 4, none⟩ (.int .i64 (rdTime (rdId (rdId r).2).2).1)) w.heap.size noChg 101) := (Blk.other (Blk.other (Blk.other HB7.out (by simp only; omega) _) (by simp only; omega) _) (by simp only; omega) _)
    have HF9 : Hid (Fr (fun _ => False) w (((w7.setCell ⟨cb, 1, none⟩ (.int .i64 (rdId r).1)).setCell ⟨cb, 2, none⟩ (.int .i64 (rdId (rdId r).2).1)).setCell ⟨cb, 4, none⟩ (.int .i64 (rdTime (rdId (rdId r).2).2).1))) := (Fr.setCell (Fr.setCell (Fr.setCell HF7.out _ (by simp only; omega) _) _ (by simp only; omega) _) _ (by simp only; omega) _)
    clear HR7 HC7 HB7 HF7 c1 f1 c2 f2 c4 f4
    generalize (((w7.setCell ⟨cb, 1, none⟩ (.int .i64 (rdId r).1)).setCell ⟨cb, 2, none⟩ (.int .i64 (rdId (rdId r).2).1)).setCell ⟨cb, 4, none⟩ (.int .i64 (rdTime (rdId (rdId r).2).2).1)) = w9 at *
    obtain ⟨l, hp, hr⟩ := first_kind HQ.out (by decide)
    have HPC : Hid (parseChg p = if (rdTime (rdId (rdId r).2).2).2.fit = true then some (Chg.R (rdId r).1 (rdId (rdId r).2).1 (rdTime (rdId (rdId r).2).2).1) else none) := by
      show _ = _
      rw [hp]
      exact gR_eq hr
    clear hp hr
    refine (isFit_any b _ _ HR9.out).mono ?_
    rintro e w10 ⟨rfl, nq, rfl⟩
    generalize (rdTime (rdId (rdId r).2).2).2.fit = ft at *
    have r0 : w9.cell? ⟨w.heap.size, 0, none⟩ = some (.int .u8 0) := Blk.cell HB9.out 0
    have r1 : w9.cell? ⟨w.heap.size, 1, none⟩ = some (.int .i64 0) := Blk.cell HB9.out 1
    have r2 : w9.cell? ⟨w.heap.size, 2, none⟩ = some (.int .i64 0) := Blk.cell HB9.out 2
    have r3 : w9.cell? ⟨w.heap.size, 3, none⟩ = some (.int .i64 0) := Blk.cell HB9.out 3
    have r4 : w9.cell? ⟨w.heap.size, 4, none⟩ = some (.int .i64 0) := Blk.cell HB9.out 4
    have r5 : w9.cell? ⟨w.heap.size, 5, none⟩ = some (.string (ofL [])) := Blk.cell HB9.out 5
    have r6 : w9.cell? ⟨w.heap.size, 6, none⟩ = some (.string (ofL [])) := Blk.cell HB9.out 6
    have fr : ∀ i, w9.frozen? ⟨w.heap.size, i, none⟩ = false := fun i => Blk.frozen HB9.out i
    cases ft with
    | true =>
      have c0 : w9.cell? ⟨cb, 0, none⟩ = some (.int .u8 82) := Blk.cell HC9.out 0
      have c1 : w9.cell? ⟨cb, 1, none⟩ = some (.int .i64 (rdId r).1) := Blk.cell HC9.out 1
      have c2 : w9.cell? ⟨cb, 2, none⟩ = some (.int .i64 (rdId (rdId r).2).1) := Blk.cell HC9.out 2
      have c3 : w9.cell? ⟨cb, 3, none⟩ = some (.int .i64 0) := Blk.cell HC9.out 3
      have c4 : w9.cell? ⟨cb, 4, none⟩ = some (.int .i64 (rdTime (rdId (rdId r).2).2).1) := Blk.cell HC9.out 4
      have c5 : w9.cell? ⟨cb, 5, none⟩ = some (.string (ofL [])) := Blk.cell HC9.out 5
      have c6 : w9.cell? ⟨cb, 6, none⟩ = some (.string (ofL [])) := Blk.cell HC9.out 6
      go_wp2_with fail
      refine bodyPost_ret (v := rcV (.iface t0 v0) (some (Chg.R (rdId r).1 (rdId (rdId r).2).1 (rdTime (rdId (rdId r).2).2).1))) (by simp [results, Tryz.results188, go_sem, r0, r1, r2, r3, r4, r5, r6, rcV, chgV, chV]) rfl ⟨?_, ?_⟩
      · rw [HPC.out]; rfl
      · exact below_sets (HF9.out.drewN _)
    | false =>
      have fe : w9.cell? ⟨8, 0, none⟩ = some (.iface t0 v0) := (HF9.out.cell (p := ⟨8, 0, none⟩) hg (fun h => h)).trans HE.out
      go_wp2_with fail
      go_region
      all_goals
        go_wp2_with fail
        refine bodyPost_ret (v := rcV (.iface t0 v0) none) (by simp [results, Tryz.results188, go_sem, r0, r1, r2, r3, r4, r5, r6, rcV, noChg]; try rfl) rfl ⟨?_, ?_⟩
        · rw [HPC.out]; rfl
        · exact below_sets (HF9.out.drewN _)
  by_cases h83 : n = 83
  · subst h83
    go_wp2_with fail
    have HR4 : Hid (RS (w3.alloc (.cells (chA 83 0 0 0 0 [] []) 101)) b r) := HR3.out.alloc _
    have HC4 : Hid (Blk (w3.alloc (.cells (chA 83 0 0 0 0 [] []) 101)) w3.heap.size (chA 83 0 0 0 0 [] []) 101) := Blk.new _ _ _
    have HB4 : Hid (Blk (w3.alloc (.cells (chA 83 0 0 0 0 [] []) 101)) w.heap.size noChg 101) := HRB3.out.alloc _
    have HF4 : Hid (Fr (fun _ => False) w (w3.alloc (.cells (chA 83 0 0 0 0 [] []) 101))) := HF3.out.alloc _
    have hsz : w.heap.size ≤ w3.heap.size := HF3.out.size
    rw [show (#[.int .u8 83, .int .i64 0, .int .i64 0, .int .i64 0, .int .i64 0, .string { data := #[] }, .string { data := #[] }] : Array Value) = chA 83 0 0 0 0 [] [] from rfl]
    clear HR3 HRB3 HF3
    generalize w3.heap.size = cb at *
    generalize w3.alloc (.cells (chA 83 0 0 0 0 [] []) 101) = w4 at *
    refine (sid_any b _ _ HR4.out).mono ?_
    rintro e w5 ⟨rfl, h5, hf5⟩
    have HR5 : Hid (RS w5 b (rdId r).2) := h5
    have HC5 : Hid (Blk w5 cb (chA 83 0 0 0 0 [] []) 101) := HC4.out.kept hf5 (by omega)
    have HB5 : Hid (Blk w5 w.heap.size noChg 101) := HB4.out.kept hf5 (by omega)
    have HF5 : Hid (Fr (fun _ => False) w w5) := HF4.out.trans hf5 (by omega)
    clear h5 hf5 HR4 HC4 HB4 HF4
    go_wp2_with fail
    refine (sname_any b _ _ HR5.out).mono ?_
    rintro e w6 ⟨rfl, h6, hf6⟩
    have HR6 : Hid (RS w6 b (rdName (rdId r).2).2) := h6
    have HC6 : Hid (Blk w6 cb (chA 83 0 0 0 0 [] []) 101) := HC5.out.kept hf6 (by omega)
    have HB6 : Hid (Blk w6 w.heap.size noChg 101) := HB5.out.kept hf6 (by omega)
    have HF6 : Hid (Fr (fun _ => False) w w6) := HF5.out.trans hf6 (by omega)
    clear h6 hf6 HR5 HC5 HB5 HF5
    go_wp2_with fail
    refine (stext_any b _ _ HR6.out).mono ?_
    rintro e w7 ⟨rfl, h7, hf7⟩
    have HR7 : Hid (RS w7 b (rdVal (rdName (rdId r).2).2).2) := h7
    have HC7 : Hid (Blk w7 cb (chA 83 0 0 0 0 [] []) 101) := HC6.out.kept hf7 (by omega)
    have HB7 : Hid (Blk w7 w.heap.size noChg 101) := HB6.out.kept hf7 (by omega)
    have HF7 : Hid (Fr (fun _ => False) w w7) := HF6.out.trans hf7 (by omega)
    clear h7 hf7 HR6 HC6 HB6 HF6
    go_wp2_with fail
    refine (stime_any b _ _ HR7.out).mono ?_
    rintro e w8 ⟨rfl, h8, hf8⟩
    have HR8 : Hid (RS w8 b (rdTime (rdVal (rdName (rdId r).2).2).2).2) := h8
    have HC8 : Hid (Blk w8 cb (chA 83 0 0 0 0 [] []) 101) := HC7.out.kept hf8 (by omega)
    have HB8 : Hid (Blk w8 w.heap.size noChg 101) := HB7.out.kept hf8 (by omega)
    have HF8 : Hid (Fr (fun _ => False) w w8) := HF7.out.trans hf8 (by omega)
    clear h8 hf8 HR7 HC7 HB7 HF7
    have c1 : w8.cell? ⟨cb, 1, none⟩ = some (.int .i64 0) := Blk.cell HC8.out 1
    have f1 : w8.frozen? ⟨cb, 1, none⟩ = false := Blk.frozen HC8.out 1
    have c5 : w8.cell? ⟨cb, 5, none⟩ = some (.string (ofL [])) := Blk.cell HC8.out 5
    have f5 : w8.frozen? ⟨cb, 5, none⟩ = false := Blk.frozen HC8.out 5
    have c6 : w8.cell? ⟨cb, 6, none⟩ = some (.string (ofL [])) := Blk.cell HC8.out 6
    have f6 : w8.frozen? ⟨cb, 6, none⟩ = false := Blk.frozen HC8.out 6
    have c4 : w8.cell? ⟨cb, 4, none⟩ = some (.int .i64 0) := Blk.cell HC8.out 4
    have f4 : w8.frozen? ⟨cb, 4, none⟩ = false := Blk.frozen HC8.out 4
    go_wp2_with fail
    have HR9 : Hid (RS ((((w8.setCell ⟨cb, 1, none⟩ (.int .i64 (rdId r).1)).setCell ⟨cb, 5, none⟩ (.string (ofL (rdName (rdId r).2).1))).setCell ⟨cb, 6, none⟩ (.string (ofL (rdVal (rdName (rdId r).2).2).1))).setCell ⟨cb, 4, none⟩ (.int .i64 (rdTime (rdVal (rdName (rdId r).2).2).2).1)) b (rdTime (rdVal (rdName (rdId r).2).2).2).2) := (Blk.other (Blk.other (Blk.other (Blk.other HR8.out (by simp only; omega) _) (by simp only; omega) _) (by simp only; omega) _) (by simp only; omega) _)
    have HC9 : Hid (Blk ((((w8.setCell ⟨cb, 1, none⟩ (.int .i64 (rdId r).1)).setCell ⟨cb, 5, none⟩ (.string (ofL (rdName (rdId r).2).1))).setCell ⟨cb, 6, none⟩ (.string (ofL (rdVal (rdName (rdId r).2).2).1))).setCell ⟨cb, 4, none⟩ (.int .i64 (rdTime (rdVal (rdName (rdId r).2).2).2).1)) cb (chA 83 (rdId r).1 0 0 (rdTime (rdVal (rdName (rdId r).2).2).2).1 (rdName (rdId r).2).1 (rdVal (rdName (rdId r).2).2).1) 101) := (Blk.set (Blk.set (Blk.set (Blk.set HC8.out 1 _) 5 _) 6 _) 4 _)
    have HB9 : Hid (Blk ((((w8.setCell ⟨cb, 1, none⟩ (.int .i64 (rdId r).1)).setCell ⟨cb, 5, none⟩ (.string (ofL (rdName (rdId r).2).1))).setCell ⟨cb, 6, none⟩ (.string (ofL (rdVal (rdName (rdId r).2).2).1))).setCell ⟨cb, 4, none⟩ (.int .i64 (rdTime (rdVal (rdName (rdId r).2).2).2).1)) w.heap.size noChg 101) := (Blk.other (Blk.other (Blk.other (Blk.other HB8.out (by simp only; omega) _) (by simp only; omega) _) (by simp only; omega) _) (by simp only; omega) _)
    have HF9 : Hid (Fr (fun _ => False) w ((((w8.setCell ⟨cb, 1, none⟩ (.int .i64 (rdId r).1)).setCell ⟨cb, 5, none⟩ (.string (ofL (rdName (rdId r).2).1))).setCell ⟨cb, 6, none⟩ (.string (ofL (rdVal (rdName (rdId r).2).2).1))).setCell ⟨cb, 4, none⟩ (.int .i64 (rdTime (rdVal (rdName (rdId r).2).2).2).1))) := (Fr.setCell (Fr.setCell (Fr.setCell (Fr.setCell HF8.out _ (by simp only; omega) _) _ (by simp only; omega) _) _ (by simp only; omega) _) _ (by simp only; omega) _)
    clear HR8 HC8 HB8 HF8 c1 f1 c5 f5 c6 f6 c4 f4
    generalize ((((w8.setCell ⟨cb, 1, none⟩ (.int .i64 (rdId r).1)).setCell ⟨cb, 5, none⟩ (.string (ofL (rdName (rdId r).2).1))).setCell ⟨cb, 6, none⟩ (.string (ofL (rdVal (rdName (rdId r).2).2).1))).setCell ⟨cb, 4, none⟩ (.int .i64 (rdTime (rdVal (rdName (rdId r).2).2).2).1)) = w9 at *
    obtain ⟨l, hp, hr⟩ := first_kind HQ.out (by decide)
    have HPC : Hid (parseChg p = if (rdTime (rdVal (rdName (rdId r).2).2).2).2.fit = true then some (Chg.S (rdId r).1 (rdName (rdId r).2).1 (rdVal (rdName (rdId r).2).2).1 (rdTime (rdVal (rdName (rdId r).2).2).2).1) else none) := by
      show _ = _
      rw [hp]
      exact gS_eq hr
    clear hp hr
    refine (isFit_any b _ _ HR9.out).mono ?_
    rintro e w10 ⟨rfl, nq, rfl⟩
    generalize (rdTime (rdVal (rdName (rdId r).2).2).2).2.fit = ft at *
    have r0 : w9.cell? ⟨w.heap.size, 0, none⟩ = some (.int .u8 0) := Blk.cell HB9.out 0
    have r1 : w9.cell? ⟨w.heap.size, 1, none⟩ = some (.int .i64 0) := Blk.cell HB9.out 1
    have r2 : w9.cell? ⟨w.heap.size, 2, none⟩ = some (.int .i64 0) := Blk.cell HB9.out 2
    have r3 : w9.cell? ⟨w.heap.size, 3, none⟩ = some (.int .i64 0) := Blk.cell HB9.out 3
    have r4 : w9.cell? ⟨w.heap.size, 4, none⟩ = some (.int .i64 0) := Blk.cell HB9.out 4
    have r5 : w9.cell? ⟨w.heap.size, 5, none⟩ = some (.string (ofL [])) := Blk.cell HB9.out 5
    have r6 : w9.cell? ⟨w.heap.size, 6, none⟩ = some (.string (ofL [])) := Blk.cell HB9.out 6
    have fr : ∀ i, w9.frozen? ⟨w.heap.size, i, none⟩ = false := fun i => Blk.frozen HB9.out i
    cases ft with
    | true =>
      have c0 : w9.cell? ⟨cb, 0, none⟩ = some (.int .u8 83) := Blk.cell HC9.out 0
      have c1 : w9.cell? ⟨cb, 1, none⟩ = some (.int .i64 (rdId r).1) := Blk.cell HC9.out 1
      have c2 : w9.cell? ⟨cb, 2, none⟩ = some (.int .i64 0) := Blk.cell HC9.out 2
      have c3 : w9.cell? ⟨cb, 3, none⟩ = some (.int .i64 0) := Blk.cell HC9.out 3
      have c4 : w9.cell? ⟨cb, 4, none⟩ = some (.int .i64 (rdTime (rdVal (rdName (rdId r).2).2).2).1) := Blk.cell HC9.out 4
      have c5 : w9.cell? ⟨cb, 5, none⟩ = some (.string (ofL (rdName (rdId r).2).1)) := Blk.cell HC9.out 5
      have c6 : w9.cell? ⟨cb, 6, none⟩ = some (.string (ofL (rdVal (rdName (rdId r).2).2).1)) := Blk.cell HC9.out 6
      go_wp2_with fail
      refine bodyPost_ret (v := rcV (.iface t0 v0) (some (Chg.S (rdId r).1 (rdName (rdId r).2).1 (rdVal (rdName (rdId r).2).2).1 (rdTime (rdVal (rdName (rdId r).2).2).2).1))) (by simp [results, Tryz.results188, go_sem, r0, r1, r2, r3, r4, r5, r6, rcV, chgV, chV]) rfl ⟨?_, ?_⟩
      · rw [HPC.out]; rfl
      · exact below_sets (HF9.out.drewN _)
    | false =>
      have fe : w9.cell? ⟨8, 0, none⟩ = some (.iface t0 v0) := (HF9.out.cell (p := ⟨8, 0, none⟩) hg (fun h => h)).trans HE.out
      go_wp2_with fail
      go_region
      all_goals
        go_wp2_with fail
        refine bodyPost_ret (v := rcV (.iface t0 v0) none) (by simp [results, Tryz.results188, go_sem, r0, r1, r2, r3, r4, r5, r6, rcV, noChg]; try rfl) rfl ⟨?_, ?_⟩
        · rw [HPC.out]; rfl
        · exact below_sets (HF9.out.drewN _)
  by_cases h88 : n = 88
  · subst h88
    go_wp2_with fail
    have HR4 : Hid (RS (w3.alloc (.cells (chA 88 0 0 0 0 [] []) 101)) b r) := HR3.out.alloc _
    have HC4 : Hid (Blk (w3.alloc (.cells (chA 88 0 0 0 0 [] []) 101)) w3.heap.size (chA 88 0 0 0 0 [] []) 101) := Blk.new _ _ _
    have HB4 : Hid (Blk (w3.alloc (.cells (chA 88 0 0 0 0 [] []) 101)) w.heap.size noChg 101) := HRB3.out.alloc _
    have HF4 : Hid (Fr (fun _ => False) w (w3.alloc (.cells (chA 88 0 0 0 0 [] []) 101))) := HF3.out.alloc _
    have hsz : w.heap.size ≤ w3.heap.size := HF3.out.size
    rw [show (#[.int .u8 88, .int .i64 0, .int .i64 0, .int .i64 0, .int .i64 0, .string { data := #[] }, .string { data := #[] }] : Array Value) = chA 88 0 0 0 0 [] [] from rfl]
    clear HR3 HRB3 HF3
    generalize w3.heap.size = cb at *
    generalize w3.alloc (.cells (chA 88 0 0 0 0 [] []) 101) = w4 at *
    refine (sid_any b _ _ HR4.out).mono ?_
    rintro e w5 ⟨rfl, h5, hf5⟩
    have HR5 : Hid (RS w5 b (rdId r).2) := h5
    have HC5 : Hid (Blk w5 cb (chA 88 0 0 0 0 [] []) 101) := HC4.out.kept hf5 (by omega)
    have HB5 : Hid (Blk w5 w.heap.size noChg 101) := HB4.out.kept hf5 (by omega)
    have HF5 : Hid (Fr (fun _ => False) w w5) := HF4.out.trans hf5 (by omega)
    clear h5 hf5 HR4 HC4 HB4 HF4
    have c1 : w5.cell? ⟨cb, 1, none⟩ = some (.int .i64 0) := Blk.cell HC5.out 1
    have f1 : w5.frozen? ⟨cb, 1, none⟩ = false := Blk.frozen HC5.out 1
    go_wp2_with fail
    have HR9 : Hid (RS (w5.setCell ⟨cb, 1, none⟩ (.int .i64 (rdId r).1)) b (rdId r).2) := (Blk.other HR5.out (by simp only; omega) _)
    have HC9 : Hid (Blk (w5.setCell ⟨cb, 1, none⟩ (.int .i64 (rdId r).1)) cb (chA 88 (rdId r).1 0 0 0 [] []) 101) := (Blk.set HC5.out 1 _)
    have HB9 : Hid (Blk (w5.setCell ⟨cb, 1, none⟩ (.int .i64 (rdId r).1)) w.heap.size noChg 101) := (Blk.other HB5.out (by simp only; omega) _)
    have HF9 : Hid (Fr (fun _ => False) w (w5.setCell ⟨cb, 1, none⟩ (.int .i64 (rdId r).1))) := (Fr.setCell HF5.out _ (by simp only; omega) _)
    clear HR5 HC5 HB5 HF5 c1 f1
    generalize (w5.setCell ⟨cb, 1, none⟩ (.int .i64 (rdId r).1)) = w9 at *
    obtain ⟨l, hp, hr⟩ := first_kind HQ.out (by decide)
    have HPC : Hid (parseChg p = if (rdId r).2.fit = true then some (Chg.X (rdId r).1) else none) := by
      show _ = _
      rw [hp]
      exact gX_eq hr
    clear hp hr
    refine (isFit_any b _ _ HR9.out).mono ?_
    rintro e w10 ⟨rfl, nq, rfl⟩
    generalize (rdId r).2.fit = ft at *
    have r0 : w9.cell? ⟨w.heap.size, 0, none⟩ = some (.int .u8 0) := Blk.cell HB9.out 0
    have r1 : w9.cell? ⟨w.heap.size, 1, none⟩ = some (.int .i64 0) := Blk.cell HB9.out 1
    have r2 : w9.cell? ⟨w.heap.size, 2, none⟩ = some (.int .i64 0) := Blk.cell HB9.out 2
    have r3 : w9.cell? ⟨w.heap.size, 3, none⟩ = some (.int .i64 0) := Blk.cell HB9.out 3
    have r4 : w9.cell? ⟨w.heap.size, 4, none⟩ = some (.int .i64 0) := Blk.cell HB9.out 4
    have r5 : w9.cell? ⟨w.heap.size, 5, none⟩ = some (.string (ofL [])) := Blk.cell HB9.out 5
    have r6 : w9.cell? ⟨w.heap.size, 6, none⟩ = some (.string (ofL [])) := Blk.cell HB9.out 6
    have fr : ∀ i, w9.frozen? ⟨w.heap.size, i, none⟩ = false := fun i => Blk.frozen HB9.out i
    cases ft with
    | true =>
      have c0 : w9.cell? ⟨cb, 0, none⟩ = some (.int .u8 88) := Blk.cell HC9.out 0
      have c1 : w9.cell? ⟨cb, 1, none⟩ = some (.int .i64 (rdId r).1) := Blk.cell HC9.out 1
      have c2 : w9.cell? ⟨cb, 2, none⟩ = some (.int .i64 0) := Blk.cell HC9.out 2
      have c3 : w9.cell? ⟨cb, 3, none⟩ = some (.int .i64 0) := Blk.cell HC9.out 3
      have c4 : w9.cell? ⟨cb, 4, none⟩ = some (.int .i64 0) := Blk.cell HC9.out 4
      have c5 : w9.cell? ⟨cb, 5, none⟩ = some (.string (ofL [])) := Blk.cell HC9.out 5
      have c6 : w9.cell? ⟨cb, 6, none⟩ = some (.string (ofL [])) := Blk.cell HC9.out 6
      go_wp2_with fail
      refine bodyPost_ret (v := rcV (.iface t0 v0) (some (Chg.X (rdId r).1))) (by simp [results, Tryz.results188, go_sem, r0, r1, r2, r3, r4, r5, r6, rcV, chgV, chV]) rfl ⟨?_, ?_⟩
      · rw [HPC.out]; rfl
      · exact below_sets (HF9.out.drewN _)
    | false =>
      have fe : w9.cell? ⟨8, 0, none⟩ = some (.iface t0 v0) := (HF9.out.cell (p := ⟨8, 0, none⟩) hg (fun h => h)).trans HE.out
      go_wp2_with fail
      go_region
      all_goals
        go_wp2_with fail
        refine bodyPost_ret (v := rcV (.iface t0 v0) none) (by simp [results, Tryz.results188, go_sem, r0, r1, r2, r3, r4, r5, r6, rcV, noChg]; try rfl) rfl ⟨?_, ?_⟩
        · rw [HPC.out]; rfl
        · exact below_sets (HF9.out.drewN _)
  by_cases h85 : n = 85
  · subst h85
    go_wp2_with fail
    have HR4 : Hid (RS (w3.alloc (.cells (chA 85 0 0 0 0 [] []) 101)) b r) := HR3.out.alloc _
    have HC4 : Hid (Blk (w3.alloc (.cells (chA 85 0 0 0 0 [] []) 101)) w3.heap.size (chA 85 0 0 0 0 [] []) 101) := Blk.new _ _ _
    have HB4 : Hid (Blk (w3.alloc (.cells (chA 85 0 0 0 0 [] []) 101)) w.heap.size noChg 101) := HRB3.out.alloc _
    have HF4 : Hid (Fr (fun _ => False) w (w3.alloc (.cells (chA 85 0 0 0 0 [] []) 101))) := HF3.out.alloc _
    have hsz : w.heap.size ≤ w3.heap.size := HF3.out.size
    rw [show (#[.int .u8 85, .int .i64 0, .int .i64 0, .int .i64 0, .int .i64 0, .string { data := #[] }, .string { data := #[] }] : Array Value) = chA 85 0 0 0 0 [] [] from rfl]
    clear HR3 HRB3 HF3
    generalize w3.heap.size = cb at *
    generalize w3.alloc (.cells (chA 85 0 0 0 0 [] []) 101) = w4 at *
    refine (suser_any b _ _ HR4.out).mono ?_
    rintro e w5 ⟨rfl, h5, hf5⟩
    have HR5 : Hid (RS w5 b (rdUser r).2) := h5
    have HC5 : Hid (Blk w5 cb (chA 85 0 0 0 0 [] []) 101) := HC4.out.kept hf5 (by omega)
    have HB5 : Hid (Blk w5 w.heap.size noChg 101) := HB4.out.kept hf5 (by omega)
    have HF5 : Hid (Fr (fun _ => False) w w5) := HF4.out.trans hf5 (by omega)
    clear h5 hf5 HR4 HC4 HB4 HF4
    have c3 : w5.cell? ⟨cb, 3, none⟩ = some (.int .i64 0) := Blk.cell HC5.out 3
    have f3 : w5.frozen? ⟨cb, 3, none⟩ = false := Blk.frozen HC5.out 3
    go_wp2_with fail
    have HR9 : Hid (RS (w5.setCell ⟨cb, 3, none⟩ (.int .i64 (rdUser r).1)) b (rdUser r).2) := (Blk.other HR5.out (by simp only; omega) _)
    have HC9 : Hid (Blk (w5.setCell ⟨cb, 3, none⟩ (.int .i64 (rdUser r).1)) cb (chA 85 0 0 (rdUser r).1 0 [] []) 101) := (Blk.set HC5.out 3 _)
    have HB9 : Hid (Blk (w5.setCell ⟨cb, 3, none⟩ (.int .i64 (rdUser r).1)) w.heap.size noChg 101) := (Blk.other HB5.out (by simp only; omega) _)
    have HF9 : Hid (Fr (fun _ => False) w (w5.setCell ⟨cb, 3, none⟩ (.int .i64 (rdUser r).1))) := (Fr.setCell HF5.out _ (by simp only; omega) _)
    clear HR5 HC5 HB5 HF5 c3 f3
    generalize (w5.setCell ⟨cb, 3, none⟩ (.int .i64 (rdUser r).1)) = w9 at *
    obtain ⟨l, hp, hr⟩ := first_kind HQ.out (by decide)
    have HPC : Hid (parseChg p = if (rdUser r).2.fit = true then some (Chg.U (rdUser r).1) else none) := by
      show _ = _
      rw [hp]
      exact gU_eq hr
    clear hp hr
    refine (isFit_any b _ _ HR9.out).mono ?_
    rintro e w10 ⟨rfl, nq, rfl⟩
    generalize (rdUser r).2.fit = ft at *
    have r0 : w9.cell? ⟨w.heap.size, 0, none⟩ = some (.int .u8 0) := Blk.cell HB9.out 0
    have r1 : w9.cell? ⟨w.heap.size, 1, none⟩ = some (.int .i64 0) := Blk.cell HB9.out 1
    have r2 : w9.cell? ⟨w.heap.size, 2, none⟩ = some (.int .i64 0) := Blk.cell HB9.out 2
    have r3 : w9.cell? ⟨w.heap.size, 3, none⟩ = some (.int .i64 0) := Blk.cell HB9.out 3
    have r4 : w9.cell? ⟨w.heap.size, 4, none⟩ = some (.int .i64 0) := Blk.cell HB9.out 4
    have r5 : w9.cell? ⟨w.heap.size, 5, none⟩ = some (.string (ofL [])) := Blk.cell HB9.out 5
    have r6 : w9.cell? ⟨w.heap.size, 6, none⟩ = some (.string (ofL [])) := Blk.cell HB9.out 6
    have fr : ∀ i, w9.frozen? ⟨w.heap.size, i, none⟩ = false := fun i => Blk.frozen HB9.out i
    cases ft with
    | true =>
      have c0 : w9.cell? ⟨cb, 0, none⟩ = some (.int .u8 85) := Blk.cell HC9.out 0
      have c1 : w9.cell? ⟨cb, 1, none⟩ = some (.int .i64 0) := Blk.cell HC9.out 1
      have c2 : w9.cell? ⟨cb, 2, none⟩ = some (.int .i64 0) := Blk.cell HC9.out 2
      have c3 : w9.cell? ⟨cb, 3, none⟩ = some (.int .i64 (rdUser r).1) := Blk.cell HC9.out 3
      have c4 : w9.cell? ⟨cb, 4, none⟩ = some (.int .i64 0) := Blk.cell HC9.out 4
      have c5 : w9.cell? ⟨cb, 5, none⟩ = some (.string (ofL [])) := Blk.cell HC9.out 5
      have c6 : w9.cell? ⟨cb, 6, none⟩ = some (.string (ofL [])) := Blk.cell HC9.out 6
      go_wp2_with fail
      refine bodyPost_ret (v := rcV (.iface t0 v0) (some (Chg.U (rdUser r).1))) (by simp [results, Tryz.results188, go_sem, r0, r1, r2, r3, r4, r5, r6, rcV, chgV, chV]) rfl ⟨?_, ?_⟩
      · rw [HPC.out]; rfl
      · exact below_sets (HF9.out.drewN _)
    | false =>
      have fe : w9.cell? ⟨8, 0, none⟩ = some (.iface t0 v0) := (HF9.out.cell (p := ⟨8, 0, none⟩) hg (fun h => h)).trans HE.out
      go_wp2_with fail
      go_region
      all_goals
        go_wp2_with fail
        refine bodyPost_ret (v := rcV (.iface t0 v0) none) (by simp [results, Tryz.results188, go_sem, r0, r1, r2, r3, r4, r5, r6, rcV, noChg]; try rfl) rfl ⟨?_, ?_⟩
        · rw [HPC.out]; rfl
        · exact below_sets (HF9.out.drewN _)
  have HPC : Hid (parseChg p = none) := first_none HQ.out h76 h84 h82 h83 h88 h85
  have e76 : ((n : Int) == 76) = false := beq_eq_false_iff_ne.2 (by omega)
  have e84 : ((n : Int) == 84) = false := beq_eq_false_iff_ne.2 (by omega)
  have e82 : ((n : Int) == 82) = false := beq_eq_false_iff_ne.2 (by omega)
  have e83 : ((n : Int) == 83) = false := beq_eq_false_iff_ne.2 (by omega)
  have e88 : ((n : Int) == 88) = false := beq_eq_false_iff_ne.2 (by omega)
  have e85 : ((n : Int) == 85) = false := beq_eq_false_iff_ne.2 (by omega)
  clear h76 h84 h82 h83 h88 h85
  go_wp2_with fail
  have HB4 : Hid (Blk (w3.alloc (.cells #[.int .u8 n, .int .i64 0, .int .i64 0, .int .i64 0, .int .i64 0, .string { data := #[] }, .string { data := #[] }] 101)) w.heap.size noChg 101) := HRB3.out.alloc _
  have HF4 : Hid (Fr (fun _ => False) w (w3.alloc (.cells #[.int .u8 n, .int .i64 0, .int .i64 0, .int .i64 0, .int .i64 0, .string { data := #[] }, .string { data := #[] }] 101))) := HF3.out.alloc _
  clear HRB3 HF3 HR3 hlt3
  generalize w3.alloc (.cells #[.int .u8 n, .int .i64 0, .int .i64 0, .int .i64 0, .int .i64 0, .string { data := #[] }, .string { data := #[] }] 101) = w4 at *
  have r0 : w4.cell? ⟨w.heap.size, 0, none⟩ = some (.int .u8 0) := Blk.cell HB4.out 0
  have r1 : w4.cell? ⟨w.heap.size, 1, none⟩ = some (.int .i64 0) := Blk.cell HB4.out 1
  have r2 : w4.cell? ⟨w.heap.size, 2, none⟩ = some (.int .i64 0) := Blk.cell HB4.out 2
  have r3 : w4.cell? ⟨w.heap.size, 3, none⟩ = some (.int .i64 0) := Blk.cell HB4.out 3
  have r4 : w4.cell? ⟨w.heap.size, 4, none⟩ = some (.int .i64 0) := Blk.cell HB4.out 4
  have r5 : w4.cell? ⟨w.heap.size, 5, none⟩ = some (.string (ofL [])) := Blk.cell HB4.out 5
  have r6 : w4.cell? ⟨w.heap.size, 6, none⟩ = some (.string (ofL [])) := Blk.cell HB4.out 6
  have fr : ∀ i, w4.frozen? ⟨w.heap.size, i, none⟩ = false := fun i => Blk.frozen HB4.out i
  have fe : w4.cell? ⟨8, 0, none⟩ = some (.iface t0 v0) := (HF4.out.cell (p := ⟨8, 0, none⟩) hg (fun h => h)).trans HE.out
  go_region
  all_goals
    go_wp2_with fail
    refine bodyPost_ret (v := rcV (.iface t0 v0) none) (by simp [results, Tryz.results188, go_sem, r0, r1, r2, r3, r4, r5, r6, rcV, noChg]; try rfl) rfl ⟨?_, ?_⟩
    · rw [HPC.out]
    · exact (below_sets HF4.out).drew
end Go.Proofs.YtmnajomkfnkmeaaGreatDoor
