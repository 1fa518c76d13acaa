import Derived.Test.YtmnajomkfnkmeaaGreatDoorKatA
import Derived.Test.YtmnajomkfnkmeaaGreatDoorStaD
import Derived.Deep.RegionHeld3
namespace Go.Proofs.YtmnajomkfnkmeaaGreatDoor
open Go.RowKit Go.Conc
attribute [local go_sem] ofL_size
theorem find_down {m : Kp} {p : Bs} (h : m.down = true) : m.find p = (0, 4) := by unfold Kp.find; rw [if_pos h]
theorem find_pass {m : Kp} {p : Bs} (h : m.down = false) (hp : passOf m.secret p = none) : m.find p = (0, 5) := by
  unfold Kp.find; rw [if_neg (by rw [h]; decide), hp]
theorem find_gone {m : Kp} {p : Bs} {id : Nat} (h : m.down = false) (hp : passOf m.secret p = some id) (ht : m.st.T id = none) : m.find p = (0, 6) := by
  unfold Kp.find; rw [if_neg (by rw [h]; decide), hp]; simp only; rw [ht]
theorem find_here {m : Kp} {p : Bs} {id : Nat} {x : Sess} (h : m.down = false) (hp : passOf m.secret p = some id) (ht : m.st.T id = some x) : m.find p = if m.over x then (id, 7) else (id, 0) := by
  unfold Kp.find; rw [if_neg (by rw [h]; decide), hp]; simp only; rw [ht]
/-- the session that a look answers with -/
def fndV (T : Tab) (sl : Nat → Value) (r : Nat × Nat) : Value := if r.2 = 0 ∨ r.2 = 7 then foundV T sl r.1 else noSess
theorem fndV_no {T : Tab} {sl : Nat → Value} {a b : Nat} (h : ¬ (b = 0 ∨ b = 7)) : fndV T sl (a, b) = noSess := by unfold fndV; rw [if_neg h]
theorem fndV_yes {T : Tab} {sl : Nat → Value} {a b : Nat} (h : b = 0 ∨ b = 7) : fndV T sl (a, b) = foundV T sl a := by unfold fndV; rw [if_pos h]
theorem below5 {w X : World} (h : Below w.heap.size w X) {v0 v1 v2 v3 v4 : Value} :
    Below w.heap.size w (((((X.setCell ⟨w.heap.size, 0, none⟩ v0).setCell ⟨w.heap.size, 1, none⟩ v1).setCell ⟨w.heap.size, 2, none⟩ v2).setCell ⟨w.heap.size, 3, none⟩ v3).setCell ⟨w.heap.size, 4, none⟩ v4) :=
  ((((h.setCell (Nat.le_refl _) _).setCell (Nat.le_refl _) _).setCell (Nat.le_refl _) _).setCell (Nat.le_refl _) _).setCell (Nat.le_refl _) _
theorem step8 {w0 w1 w2 : World} {q kb : Nat} {v0 v1 v2 v3 v4 u5 u6 u7 : Value}
    (h : w1.cell? ⟨q, 0, none⟩ = some v0 ∧ w1.cell? ⟨q, 1, none⟩ = some v1 ∧ w1.cell? ⟨q, 2, none⟩ = some v2 ∧ w1.cell? ⟨q, 3, none⟩ = some v3 ∧ w1.cell? ⟨q, 4, none⟩ = some v4 ∧ w1.cell? ⟨kb, 5, none⟩ = some u5 ∧ w1.cell? ⟨kb, 6, none⟩ = some u6 ∧ w1.cell? ⟨kb, 7, none⟩ = some u7 ∧ q < w1.heap.size ∧ kb < w1.heap.size ∧ Below w0.heap.size w0 w1) (hb : Below w1.heap.size w1 w2) :
    w2.cell? ⟨q, 0, none⟩ = some v0 ∧ w2.cell? ⟨q, 1, none⟩ = some v1 ∧ w2.cell? ⟨q, 2, none⟩ = some v2 ∧ w2.cell? ⟨q, 3, none⟩ = some v3 ∧ w2.cell? ⟨q, 4, none⟩ = some v4 ∧ w2.cell? ⟨kb, 5, none⟩ = some u5 ∧ w2.cell? ⟨kb, 6, none⟩ = some u6 ∧ w2.cell? ⟨kb, 7, none⟩ = some u7 ∧ q < w2.heap.size ∧ kb < w2.heap.size ∧ Below w0.heap.size w0 w2 := by
  obtain ⟨a0, a1, a2, a3, a4, a5, a6, a7, b1, b2, b3⟩ := h
  exact ⟨(below_cell hb b1).trans a0, (below_cell hb b1).trans a1, (below_cell hb b1).trans a2, (below_cell hb b1).trans a3, (below_cell hb b1).trans a4, (below_cell hb b2).trans a5, (below_cell hb b2).trans a6, (below_cell hb b2).trans a7, Nat.lt_of_lt_of_le b1 hb.size, Nat.lt_of_lt_of_le b2 hb.size, bstep b3 hb⟩
set_option maxRecDepth 20000 in
set_option maxHeartbeats 2000000 in
theorem kfind_any (B kb db jb sb mb : Nat) (f : Fn) (D : DataW Unit) (sl : Nat → Value) (Fd : Nat → Prop) (m : Kp) (d : Dv) (G : Gl) (p : Bs) (w : World) (h : KeepP w B kb db jb sb mb f D sl Fd m d) (hp : p.length ≤ 9223372036854775000) (hG : Glob B G w) :
    Calls Tryz.prog 62 #[.pointer (some ⟨kb, 0, none⟩), .string (ofL p)] w fun e w' => e = .returned (.tuple #[fndV m.st.T sl (m.find p), .int .i64 (m.find p).2]) ∧ Below w.heap.size w w' := by
  have HP0 : Hid (KeepP w B kb db jb sb mb f D sl Fd m d) := h
  have HPL : Hid (p.length ≤ 9223372036854775000) := hp
  have HG : Hid (Glob B G w) := hG
  have hb0 : Below w.heap.size w (w.alloc (.cells #[.int .i64 0, .int .i64 0, .int .i64 0, .int .i64 0, .slice none 0 0] 104)) := (Below.refl _ _).alloc (Nat.le_refl _) _
  have HQ0 : Hid (Blk (w.alloc (.cells #[.int .i64 0, .int .i64 0, .int .i64 0, .int .i64 0, .slice none 0 0] 104)) w.heap.size _ 104) := Blk.new _ _ _
  have HP : Hid (KeepP (w.alloc (.cells #[.int .i64 0, .int .i64 0, .int .i64 0, .int .i64 0, .slice none 0 0] 104)) B kb db jb sb mb f D sl Fd m d) := h.below hb0
  have HB0 : Hid (Below _ _ _) := hb0
  have k0 := Blk.cell HP.out.blk 0
  have k4 := Blk.cell HP.out.blk 4
  simp only [kepA, List.getElem?_toArray, List.getElem?_cons_zero, List.getElem?_cons_succ] at k0 k4
  have HDN : Hid (DrvAt _ B db Fd d ∧ d.down = m.down) := ⟨HP.out.dj.drv, HP.out.dj.kd.down⟩
  clear h hp hG hb0
  by_cases hdn : m.down = true
  · have HE : Hid (m.find p = (0, 4)) := find_down hdn
    have HDD : Hid (d.down = true) := HDN.out.2.trans hdn
    go_enter Tryz.func62, Tryz.ntmps62
    go_wp2_with fail
    refine (down_any db B Fd d _ HDN.out.1).mono ?_
    rintro e w1 ⟨rfl, rfl⟩
    rw [HDD.out]
    clear hdn
    go_wp2_with fail
    refine bodyPost_ret (v := .tuple #[noSess, .int .i64 4]) (by simp [results, Tryz.results62, go_sem, noSess]) rfl ?_
    rw [HE.out, fndV_no (by decide)]
    exact ⟨rfl, HB0.out⟩
  · have hup : m.down = false := Bool.eq_false_iff.2 hdn
    have HDD : Hid (d.down = false) := HDN.out.2.trans hup
    have HUP : Hid (m.down = false) := hup
    have HSL : Hid (m.secret.length ≤ 9223372036854775000) := by have := HP.out.ok.secret; show _ ≤ _; omega
    clear hup hdn
    go_enter Tryz.func62, Tryz.ntmps62
    go_wp2_with fail
    refine (down_any db B Fd d _ HDN.out.1).mono ?_
    rintro e w1 ⟨rfl, hw1⟩
    subst hw1
    rw [HDD.out]
    generalize w.alloc (Obj.cells _ _ _) = w0 at *
    have HG0 : Hid (Glob B G w0) := DigitsBelow HG.out HB0.out
    go_wp2_with fail
    refine (pread_any m.secret p (errV G.pass) _ HSL.out HPL.out HG0.out.digits HG0.out.pass.1 (Nat.lt_of_lt_of_le HG0.out.pass.2 HG0.out.le)).mono ?_
    rintro e w1 ⟨rfl, hb1⟩
    have HB1 : Hid (Below w.heap.size w w1) := bstep HB0.out hb1
    have HQ1 : Hid (Blk w1 w.heap.size _ 104) := Blk.below HQ0.out hb1
    have HP1 : Hid (KeepP w1 B kb db jb sb mb f D sl Fd m d) := HP.out.below hb1
    clear hb1 HQ0 HP k0 k4 HDN HG0
    cases hps : passOf m.secret p with
    | none =>
      have HE : Hid (m.find p = (0, 5)) := find_pass HUP.out hps
      clear hps
      have r0 := Blk.cell HQ1.out 0
      have r1 := Blk.cell HQ1.out 1
      have r2 := Blk.cell HQ1.out 2
      have r3 := Blk.cell HQ1.out 3
      have r4 := Blk.cell HQ1.out 4
      simp only [List.getElem?_toArray, List.getElem?_cons_zero, List.getElem?_cons_succ] at r0 r1 r2 r3 r4
      have fr : ∀ i, w1.frozen? ⟨w.heap.size, i, none⟩ = false := fun i => Blk.frozen HQ1.out i
      unfold preadV errV
      go_wp2_with fail
      refine bodyPost_ret (v := .tuple #[noSess, .int .i64 5]) (by simp [results, Tryz.results62, go_sem, noSess, r0, r1, r2, r3, r4]) rfl ?_
      rw [HE.out, fndV_no (by decide)]
      exact ⟨rfl, below5 HB1.out⟩
    | some id =>
      have hid := (passOf_some hps).2
      have HPS : Hid (passOf m.secret p = some id) := hps
      have HID : Hid (id < 65536) := by show _ < _; omega
      have k2 := Blk.cell HP1.out.blk 2
      simp only [kepA, List.getElem?_toArray, List.getElem?_cons_zero, List.getElem?_cons_succ] at k2
      clear hps hid
      unfold preadV
      go_wp2_with fail
      refine (find_any sb m.st.T mb f D sl id _ HP1.out.tab HID.out).mono ?_
      rintro e w2 ⟨rfl, hb2⟩
      have HB2 : Hid (Below w.heap.size w w2) := bstep HB1.out hb2
      have HQ2 : Hid (Blk w2 w.heap.size _ 104) := Blk.below HQ1.out hb2
      have HP2 : Hid (KeepP w2 B kb db jb sb mb f D sl Fd m d) := HP1.out.below hb2
      clear hb2 HQ1 HP1 k2 HB1
      cases ht : m.st.T id with
      | none =>
        have HE : Hid (m.find p = (0, 6)) := find_gone HUP.out HPS.out ht
        rw [show foundV m.st.T sl id = .agg #[.int .i64 0, .int .i64 0, .int .i64 0, .int .i64 0, .slice none 0 0] by unfold foundV; rw [ht]; rfl]
        clear ht
        have HB3 : Hid (Below w.heap.size w (w2.alloc (.cells #[.int .i64 0, .int .i64 0, .int .i64 0, .int .i64 0, .slice none 0 0] 104))) := bstep HB2.out ((Below.refl _ _).alloc (Nat.le_refl _) _)
        have HQ3 : Hid (Blk (w2.alloc (.cells #[.int .i64 0, .int .i64 0, .int .i64 0, .int .i64 0, .slice none 0 0] 104)) w.heap.size _ 104) := Blk.below HQ2.out ((Below.refl _ _).alloc (Nat.le_refl _) _)
        have r0 := Blk.cell HQ3.out 0
        have r1 := Blk.cell HQ3.out 1
        have r2 := Blk.cell HQ3.out 2
        have r3 := Blk.cell HQ3.out 3
        have r4 := Blk.cell HQ3.out 4
        simp only [List.getElem?_toArray, List.getElem?_cons_zero, List.getElem?_cons_succ] at r0 r1 r2 r3 r4
        have fr : ∀ i, World.frozen? (w2.alloc (.cells #[.int .i64 0, .int .i64 0, .int .i64 0, .int .i64 0, .slice none 0 0] 104)) ⟨w.heap.size, i, none⟩ = false := fun i => Blk.frozen HQ3.out i
        go_wp2_with fail
        refine bodyPost_ret (v := .tuple #[noSess, .int .i64 6]) (by simp [results, Tryz.results62, go_sem, noSess, r0, r1, r2, r3, r4]) rfl ?_
        rw [HE.out, fndV_no (by decide)]
        exact ⟨rfl, below5 HB3.out⟩
      | some x =>
        have HE : Hid (m.find p = if m.over x then (id, 7) else (id, 0)) := find_here HUP.out HPS.out ht
        have HFV : Hid (foundV m.st.T sl id = sessV id x (sl id)) := by
          show _ = _
          unfold foundV; rw [ht]
        have hx := (HP2.out.ok.wf.each id x ht).2
        have HXB : Hid (x.used ≤ 1000000000 ∧ x.created ≤ 1000000000 ∧ m.now ≤ 1000000000) := ⟨hx.s1, hx.c1, HP2.out.ok.now⟩
        have hsh : sl id = .slice none 0 0 ∨ ∃ g n cap, sl id = .slice (some ⟨g, 0, none⟩) n cap := by
          obtain ⟨a, b, c, dd, s, hfv, hs, -⟩ := found_shape HP2.out.tab id
          rw [HFV.out] at hfv
          unfold sessV at hfv
          simp only [Value.agg.injEq, Array.mk.injEq, List.cons.injEq, and_true] at hfv
          rw [hfv.2.2.2.2]; exact hs
        clear ht hx
        rcases hsh with hs | ⟨g0, n0, cap0, hs⟩
        · have hsv : foundV m.st.T sl id = .agg #[.int .i64 id, .int .i64 x.user, .int .i64 x.created, .int .i64 x.used, .slice none 0 0] := by rw [HFV.out]; unfold sessV; rw [hs]
          have HSV : Hid (foundV m.st.T sl id = .agg #[.int .i64 id, .int .i64 x.user, .int .i64 x.created, .int .i64 x.used, .slice none 0 0]) := hsv
          rw [hsv]
          clear hsv hs
          have hb3 : Below w2.heap.size w2 (w2.alloc (.cells #[.int .i64 id, .int .i64 x.user, .int .i64 x.created, .int .i64 x.used, .slice none 0 0] 104)) := (Below.refl _ _).alloc (Nat.le_refl _) _
          have hq3 : Blk (w2.alloc (.cells #[.int .i64 id, .int .i64 x.user, .int .i64 x.created, .int .i64 x.used, .slice none 0 0] 104)) w2.heap.size #[.int .i64 id, .int .i64 x.user, .int .i64 x.created, .int .i64 x.used, .slice none 0 0] 104 := Blk.new _ _ _
          have HB3 : Hid (Below w.heap.size w (w2.alloc (.cells #[.int .i64 id, .int .i64 x.user, .int .i64 x.created, .int .i64 x.used, .slice none 0 0] 104))) := bstep HB2.out hb3
          have HQ3 : Hid (Blk (w2.alloc (.cells #[.int .i64 id, .int .i64 x.user, .int .i64 x.created, .int .i64 x.used, .slice none 0 0] 104)) w.heap.size _ 104) := Blk.below HQ2.out hb3
          have HP3 : Hid (KeepP (w2.alloc (.cells #[.int .i64 id, .int .i64 x.user, .int .i64 x.created, .int .i64 x.used, .slice none 0 0] 104)) B kb db jb sb mb f D sl Fd m d) := HP2.out.below hb3
          have HL3 : Hid (Blk _ w2.heap.size _ 104) := hq3
          clear hb3 hq3
          go_wp2_with fail
          generalize w2.alloc (Obj.cells _ _ _) = w3 at *
          have q0 := Blk.cell HL3.out 0
          have q1 := Blk.cell HL3.out 1
          have q2 := Blk.cell HL3.out 2
          have q3 := Blk.cell HL3.out 3
          have q4 := Blk.cell HL3.out 4
          have k5 := Blk.cell HP3.out.blk 5
          have k6 := Blk.cell HP3.out.blk 6
          have k7 := Blk.cell HP3.out.blk 7
          simp only [kepA, List.getElem?_toArray, List.getElem?_cons_zero, List.getElem?_cons_succ] at k5 k6 k7 q0 q1 q2 q3 q4
          have l1 := HL3.out.lt
          have l2 := HP3.out.blk.lt
          go_region_held3 (fun w' => w'.cell? ⟨w2.heap.size, 0, none⟩ = some (.int .i64 id) ∧ w'.cell? ⟨w2.heap.size, 1, none⟩ = some (.int .i64 x.user) ∧ w'.cell? ⟨w2.heap.size, 2, none⟩ = some (.int .i64 x.created) ∧ w'.cell? ⟨w2.heap.size, 3, none⟩ = some (.int .i64 x.used) ∧ w'.cell? ⟨w2.heap.size, 4, none⟩ = some (.slice none 0 0) ∧ w'.cell? ⟨kb, 5, none⟩ = some (.int .i64 m.idle) ∧ w'.cell? ⟨kb, 6, none⟩ = some (.int .i64 m.abs) ∧ w'.cell? ⟨kb, 7, none⟩ = some (.int .i64 m.now) ∧ w2.heap.size < w'.heap.size ∧ kb < w'.heap.size ∧ Below w3.heap.size w3 w')
            (first
              | exact step8 (by assumption) (by assumption)
              | exact ⟨q0, q1, q2, q3, q4, k5, k6, k7, l1, l2, (Below.refl _ _).drew⟩)
            (first
              | (go_at_call 115; refine (isOver_any id x (.slice none 0 0) m.now m.idle m.abs _ HXB.out.1 HXB.out.2.1 HXB.out.2.2 (Or.inl rfl)).mono ?_; rintro e w' ⟨rfl, hbN⟩))
          rename_i hHeld
          have HOV : Hid ((decide ((m.idle : Int) ≤ (m.now : Int) - x.used) || decide ((m.abs : Int) ≤ (m.now : Int) - x.created)) = m.over x) := rfl
          obtain ⟨p0, p1, p2, p3, p4, _, _, _, _, _, hb5⟩ := hHeld
          rw [HOV.out]
          have HB5 : Hid (Below w.heap.size w w') := bstep HB3.out hb5
          have HQ5 : Hid (Blk w' w.heap.size _ 104) := Blk.below HQ3.out hb5
          clear q0 q1 q2 q3 q4 k5 k6 k7 l1 l2 hb5 hbN HOV
          generalize w' = w5 at *
          have r0 := Blk.cell HQ5.out 0
          have r1 := Blk.cell HQ5.out 1
          have r2 := Blk.cell HQ5.out 2
          have r3 := Blk.cell HQ5.out 3
          have r4 := Blk.cell HQ5.out 4
          simp only [List.getElem?_toArray, List.getElem?_cons_zero, List.getElem?_cons_succ] at r0 r1 r2 r3 r4
          have fr : ∀ i, World.frozen? w5 ⟨w.heap.size, i, none⟩ = false := fun i => Blk.frozen HQ5.out i
          by_cases ho : m.over x = true
          · have HE2 : Hid (m.find p = (id, 7)) := by
              show _ = _
              rw [HE.out, if_pos ho]
            rw [ho]
            clear ho HE
            go_wp2_with fail
            refine bodyPost_ret (v := .tuple #[.agg #[.int .i64 id, .int .i64 x.user, .int .i64 x.created, .int .i64 x.used, .slice none 0 0], .int .i64 7]) (by simp [results, Tryz.results62, go_sem, r0, r1, r2, r3, r4]) rfl ?_
            rw [HE2.out, fndV_yes (by decide), HSV.out]
            exact ⟨rfl, below5 HB5.out⟩
          · have HE2 : Hid (m.find p = (id, 0)) := by
              show _ = _
              rw [HE.out, if_neg ho]
            rw [Bool.eq_false_iff.2 ho]
            clear ho HE
            go_wp2_with fail
            refine bodyPost_ret (v := .tuple #[.agg #[.int .i64 id, .int .i64 x.user, .int .i64 x.created, .int .i64 x.used, .slice none 0 0], .int .i64 0]) (by simp [results, Tryz.results62, go_sem, r0, r1, r2, r3, r4]) rfl ?_
            rw [HE2.out, fndV_yes (by decide), HSV.out]
            exact ⟨rfl, below5 HB5.out⟩
        · have hsv : foundV m.st.T sl id = .agg #[.int .i64 id, .int .i64 x.user, .int .i64 x.created, .int .i64 x.used, .slice (some ⟨g0, 0, none⟩) n0 cap0] := by rw [HFV.out]; unfold sessV; rw [hs]
          have HSV : Hid (foundV m.st.T sl id = .agg #[.int .i64 id, .int .i64 x.user, .int .i64 x.created, .int .i64 x.used, .slice (some ⟨g0, 0, none⟩) n0 cap0]) := hsv
          rw [hsv]
          clear hsv hs
          have hb3 : Below w2.heap.size w2 (w2.alloc (.cells #[.int .i64 id, .int .i64 x.user, .int .i64 x.created, .int .i64 x.used, .slice (some ⟨g0, 0, none⟩) n0 cap0] 104)) := (Below.refl _ _).alloc (Nat.le_refl _) _
          have hq3 : Blk (w2.alloc (.cells #[.int .i64 id, .int .i64 x.user, .int .i64 x.created, .int .i64 x.used, .slice (some ⟨g0, 0, none⟩) n0 cap0] 104)) w2.heap.size #[.int .i64 id, .int .i64 x.user, .int .i64 x.created, .int .i64 x.used, .slice (some ⟨g0, 0, none⟩) n0 cap0] 104 := Blk.new _ _ _
          have HB3 : Hid (Below w.heap.size w (w2.alloc (.cells #[.int .i64 id, .int .i64 x.user, .int .i64 x.created, .int .i64 x.used, .slice (some ⟨g0, 0, none⟩) n0 cap0] 104))) := bstep HB2.out hb3
          have HQ3 : Hid (Blk (w2.alloc (.cells #[.int .i64 id, .int .i64 x.user, .int .i64 x.created, .int .i64 x.used, .slice (some ⟨g0, 0, none⟩) n0 cap0] 104)) w.heap.size _ 104) := Blk.below HQ2.out hb3
          have HP3 : Hid (KeepP (w2.alloc (.cells #[.int .i64 id, .int .i64 x.user, .int .i64 x.created, .int .i64 x.used, .slice (some ⟨g0, 0, none⟩) n0 cap0] 104)) B kb db jb sb mb f D sl Fd m d) := HP2.out.below hb3
          have HL3 : Hid (Blk _ w2.heap.size _ 104) := hq3
          clear hb3 hq3
          go_wp2_with fail
          generalize w2.alloc (Obj.cells _ _ _) = w3 at *
          have q0 := Blk.cell HL3.out 0
          have q1 := Blk.cell HL3.out 1
          have q2 := Blk.cell HL3.out 2
          have q3 := Blk.cell HL3.out 3
          have q4 := Blk.cell HL3.out 4
          have k5 := Blk.cell HP3.out.blk 5
          have k6 := Blk.cell HP3.out.blk 6
          have k7 := Blk.cell HP3.out.blk 7
          simp only [kepA, List.getElem?_toArray, List.getElem?_cons_zero, List.getElem?_cons_succ] at k5 k6 k7 q0 q1 q2 q3 q4
          have l1 := HL3.out.lt
          have l2 := HP3.out.blk.lt
          go_region_held3 (fun w' => w'.cell? ⟨w2.heap.size, 0, none⟩ = some (.int .i64 id) ∧ w'.cell? ⟨w2.heap.size, 1, none⟩ = some (.int .i64 x.user) ∧ w'.cell? ⟨w2.heap.size, 2, none⟩ = some (.int .i64 x.created) ∧ w'.cell? ⟨w2.heap.size, 3, none⟩ = some (.int .i64 x.used) ∧ w'.cell? ⟨w2.heap.size, 4, none⟩ = some (.slice (some ⟨g0, 0, none⟩) n0 cap0) ∧ w'.cell? ⟨kb, 5, none⟩ = some (.int .i64 m.idle) ∧ w'.cell? ⟨kb, 6, none⟩ = some (.int .i64 m.abs) ∧ w'.cell? ⟨kb, 7, none⟩ = some (.int .i64 m.now) ∧ w2.heap.size < w'.heap.size ∧ kb < w'.heap.size ∧ Below w3.heap.size w3 w')
            (first
              | exact step8 (by assumption) (by assumption)
              | exact ⟨q0, q1, q2, q3, q4, k5, k6, k7, l1, l2, (Below.refl _ _).drew⟩)
            (first
              | (go_at_call 115; refine (isOver_any id x (.slice (some ⟨g0, 0, none⟩) n0 cap0) m.now m.idle m.abs _ HXB.out.1 HXB.out.2.1 HXB.out.2.2 (Or.inr ⟨_, _, _, rfl⟩)).mono ?_; rintro e w' ⟨rfl, hbN⟩))
          rename_i hHeld
          have HOV : Hid ((decide ((m.idle : Int) ≤ (m.now : Int) - x.used) || decide ((m.abs : Int) ≤ (m.now : Int) - x.created)) = m.over x) := rfl
          obtain ⟨p0, p1, p2, p3, p4, _, _, _, _, _, hb5⟩ := hHeld
          rw [HOV.out]
          have HB5 : Hid (Below w.heap.size w w') := bstep HB3.out hb5
          have HQ5 : Hid (Blk w' w.heap.size _ 104) := Blk.below HQ3.out hb5
          clear q0 q1 q2 q3 q4 k5 k6 k7 l1 l2 hb5 hbN HOV
          generalize w' = w5 at *
          have r0 := Blk.cell HQ5.out 0
          have r1 := Blk.cell HQ5.out 1
          have r2 := Blk.cell HQ5.out 2
          have r3 := Blk.cell HQ5.out 3
          have r4 := Blk.cell HQ5.out 4
          simp only [List.getElem?_toArray, List.getElem?_cons_zero, List.getElem?_cons_succ] at r0 r1 r2 r3 r4
          have fr : ∀ i, World.frozen? w5 ⟨w.heap.size, i, none⟩ = false := fun i => Blk.frozen HQ5.out i
          by_cases ho : m.over x = true
          · have HE2 : Hid (m.find p = (id, 7)) := by
              show _ = _
              rw [HE.out, if_pos ho]
            rw [ho]
            clear ho HE
            go_wp2_with fail
            refine bodyPost_ret (v := .tuple #[.agg #[.int .i64 id, .int .i64 x.user, .int .i64 x.created, .int .i64 x.used, .slice (some ⟨g0, 0, none⟩) n0 cap0], .int .i64 7]) (by simp [results, Tryz.results62, go_sem, r0, r1, r2, r3, r4]) rfl ?_
            rw [HE2.out, fndV_yes (by decide), HSV.out]
            exact ⟨rfl, below5 HB5.out⟩
          · have HE2 : Hid (m.find p = (id, 0)) := by
              show _ = _
              rw [HE.out, if_neg ho]
            rw [Bool.eq_false_iff.2 ho]
            clear ho HE
            go_wp2_with fail
            refine bodyPost_ret (v := .tuple #[.agg #[.int .i64 id, .int .i64 x.user, .int .i64 x.created, .int .i64 x.used, .slice (some ⟨g0, 0, none⟩) n0 cap0], .int .i64 0]) (by simp [results, Tryz.results62, go_sem, r0, r1, r2, r3, r4]) rfl ?_
            rw [HE2.out, fndV_yes (by decide), HSV.out]
            exact ⟨rfl, below5 HB5.out⟩
end Go.Proofs.YtmnajomkfnkmeaaGreatDoor
namespace Go.Proofs.YtmnajomkfnkmeaaGreatDoor
open Go.RowKit Go.Conc
attribute [local go_sem] ofL_size
theorem find_in {m : Kp} {p : Bs} (h : (m.find p).2 = 0 ∨ (m.find p).2 = 7) : m.down = false ∧ ∃ id x, passOf m.secret p = some id ∧ id < 4096 ∧ m.st.T id = some x ∧ (m.find p).1 = id := by
  cases hd : m.down with
  | true => rw [find_down hd] at h; rcases h with h | h <;> exact absurd h (by decide)
  | false =>
    refine ⟨rfl, ?_⟩
    cases hp : passOf m.secret p with
    | none => rw [find_pass hd hp] at h; rcases h with h | h <;> exact absurd h (by decide)
    | some id =>
      cases ht : m.st.T id with
      | none => rw [find_gone hd hp ht] at h; rcases h with h | h <;> exact absurd h (by decide)
      | some x =>
        refine ⟨id, x, rfl, (passOf_some hp).2, ht, ?_⟩
        rw [find_here hd hp ht]
        split <;> rfl
/-- its shape, and the session's values -/
theorem sess_shape {w : World} {sb : Nat} {T : Tab} {mb : Nat} {f : Fn} {D : DataW Unit} {sl : Nat → Value} (h : TabAt w sb T mb f D sl) {id : Nat} {x : Sess} (ht : T id = some x) :
    ∃ s, foundV T sl id = .agg #[.int .i64 id, .int .i64 x.user, .int .i64 x.created, .int .i64 x.used, s] ∧ (s = .slice none 0 0 ∨ ∃ g n cap, s = .slice (some ⟨g, 0, none⟩) n cap) ∧ VSl w s x.vals := by
  obtain ⟨a, b, c, dd, s, hfv, hs, hv⟩ := found_shape h id
  have e : foundV T sl id = sessV id x (sl id) := by unfold foundV; rw [ht]
  rw [e] at hfv
  unfold sessV at hfv
  simp only [Value.agg.injEq, Array.mk.injEq, List.cons.injEq, and_true] at hfv
  refine ⟨s, ?_, hs, hv x ht⟩
  rw [e]; unfold sessV; rw [hfv.2.2.2.2]
set_option maxRecDepth 20000 in
set_option maxHeartbeats 1000000 in
theorem kend_any (B kb : Nat) (F : Nat → Prop) (m : Kp) (G : Gl) (id : Nat) (x : Sess) (a b c : Int) (s : Value) (w : World) (h : KAt w B kb F m) (hu : m.down = false) (hid : id < 4096) (ht : m.st.T id = some x) (hs : s = .slice none 0 0 ∨ ∃ g n cap, s = .slice (some ⟨g, 0, none⟩) n cap) (hG : Glob B G w) :
    Calls Tryz.prog 64 #[.pointer (some ⟨kb, 0, none⟩), .agg #[.int .i64 id, .int .i64 a, .int .i64 b, .int .i64 c, s]] w fun e w' => e = .returned (.int .i64 (m.change (.X id)).1) ∧ KTo w B kb F (m.change (.X id)).2 w' := by
  have HCH : Hid (∀ w', KAt w' B kb F m → Glob B G w' → Calls Tryz.prog 58 #[.pointer (some ⟨kb, 0, none⟩), .agg #[.int .u8 88, .int .i64 id, .int .i64 0, .int .i64 0, .int .i64 0, .string { data := #[] }, .string { data := #[] }]] w' fun e w'' => e = .returned (.int .i64 (m.change (.X id)).1) ∧ KTo w' B kb F (m.change (.X id)).2 w'') := fun w' h1 h2 =>
    kchange_any B kb F m G (.X id) w' h1 hu hid (by show (m.st.T id).isSome = true; rw [ht]; rfl) trivial h2
  have HH : Hid (KAt w B kb F m) := h
  have HG : Hid (Glob B G w) := hG
  clear h hu hid ht hG
  generalize m.change (.X id) = r at *
  rcases hs with rfl | ⟨g0, n0, cap0, rfl⟩
  all_goals
    go_enter Tryz.func64, Tryz.ntmps64
    go_wp2_with fail
    refine (HCH.out _ (HH.out.below ((Below.refl _ _).alloc (Nat.le_refl _) _)) (DigitsBelow HG.out ((Below.refl _ _).alloc (Nat.le_refl _) _))).mono ?_
    rintro e w1 ⟨rfl, hk1⟩
    have HK1 : Hid (KTo w B kb F r.2 w1) := KTo.after_below ((Below.refl _ _).alloc (Nat.le_refl _) _) hk1
    clear hk1 HCH
    go_wp2_with fail
    go_ret
    exact ⟨rfl, HK1.out⟩
theorem kto_sets {w wA w3 : World} {B kb : Nat} {F : Nat → Prop} {m m' : Kp} (hb : Below w.heap.size w wA) (hq : w.heap.size < wA.heap.size) (h0 : KAt w B kb F m) (h : KTo wA B kb F m' w3) {v0 v1 v2 v3 v4 : Value} :
    KTo w B kb F m' (((((w3.setCell ⟨w.heap.size, 0, none⟩ v0).setCell ⟨w.heap.size, 1, none⟩ v1).setCell ⟨w.heap.size, 2, none⟩ v2).setCell ⟨w.heap.size, 3, none⟩ v3).setCell ⟨w.heap.size, 4, none⟩ v4) := by
  obtain ⟨F3, ha3, hf3, hn3⟩ := h
  have hs : Fr (· = w.heap.size) w3 (((((w3.setCell ⟨w.heap.size, 0, none⟩ v0).setCell ⟨w.heap.size, 1, none⟩ v1).setCell ⟨w.heap.size, 2, none⟩ v2).setCell ⟨w.heap.size, 3, none⟩ v3).setCell ⟨w.heap.size, 4, none⟩ v4) :=
    ((((((Fr.refl (· = w.heap.size) w3).setCell ⟨w.heap.size, 0, none⟩ (fun _ => rfl) v0).setCell ⟨w.heap.size, 1, none⟩ (fun _ => rfl) v1).setCell ⟨w.heap.size, 2, none⟩ (fun _ => rfl) v2).setCell ⟨w.heap.size, 3, none⟩ (fun _ => rfl) v3).setCell ⟨w.heap.size, 4, none⟩ (fun _ => rfl) v4)
  refine ⟨F3, ha3.kept hs (fun b hb3 e => ?_), ((Fr.of_below (S := F) hb).trans hf3 (fun _ _ h => h)).trans hs (fun b hb' e => by omega), fun b hb3 => ?_⟩
  · rcases hn3 b hb3 with h | h
    · have := (h0.foot h).2; omega
    · omega
  · rcases hn3 b hb3 with h | h
    · exact Or.inl h
    · exact Or.inr (by omega)
/-- what looking leaves -/
def lookTo (w : World) (B kb : Nat) (F : Nat → Prop) (T : Tab) (sl : Nat → Value) (r : Nat × Nat × Kp) (e : Ending) (w' : World) : Prop :=
  (r.2.1 = 0 ∧ e = .returned (.tuple #[foundV T sl r.1, .int .i64 0]) ∧ Below w.heap.size w w') ∨ (r.2.1 ≠ 0 ∧ e = .returned (.tuple #[noSess, .int .i64 r.2.1]) ∧ KTo w B kb F r.2.2 w')
set_option maxRecDepth 20000 in
set_option maxHeartbeats 2000000 in
theorem klook_any (B kb db jb sb mb : Nat) (f : Fn) (D : DataW Unit) (sl : Nat → Value) (Fd F : Nat → Prop) (m : Kp) (d : Dv) (G : Gl) (p : Bs) (w : World) (h : KeepP w B kb db jb sb mb f D sl Fd m d) (hF : ∀ b, F b ↔ kfoot kb jb sb mb f sl Fd b) (hp : p.length ≤ 9223372036854775000) (hG : Glob B G w) :
    Calls Tryz.prog 59 #[.pointer (some ⟨kb, 0, none⟩), .string (ofL p)] w (lookTo w B kb F m.st.T sl (m.look p)) := by
  have HG : Hid (Glob B G w) := hG
  have HPL : Hid (p.length ≤ 9223372036854775000) := hp
  have hb0 : Below w.heap.size w (w.alloc (.cells #[.int .i64 0, .int .i64 0, .int .i64 0, .int .i64 0, .slice none 0 0] 104)) := (Below.refl _ _).alloc (Nat.le_refl _) _
  have HQ0 : Hid (Blk (w.alloc (.cells #[.int .i64 0, .int .i64 0, .int .i64 0, .int .i64 0, .slice none 0 0] 104)) w.heap.size _ 104) := Blk.new _ _ _
  have HP : Hid (KeepP (w.alloc (.cells #[.int .i64 0, .int .i64 0, .int .i64 0, .int .i64 0, .slice none 0 0] 104)) B kb db jb sb mb f D sl Fd m d) := h.below hb0
  have HG0 : Hid (Glob B G (w.alloc (.cells #[.int .i64 0, .int .i64 0, .int .i64 0, .int .i64 0, .slice none 0 0] 104))) := DigitsBelow hG hb0
  have HB0 : Hid (Below _ _ _) := hb0
  have HF : Hid (∀ b, F b ↔ kfoot kb jb sb mb f sl Fd b) := hF
  obtain ⟨r, hr⟩ : ∃ r, r = m.find p := ⟨_, rfl⟩
  obtain ⟨L, hL⟩ : ∃ L, L = m.look p := ⟨_, rfl⟩
  have hfd := kfind_any B kb db jb sb mb f D sl Fd m d G p _ (h.below hb0) hp (DigitsBelow hG hb0)
  have HIN : Hid (r.2 = 0 ∨ r.2 = 7 → m.down = false ∧ ∃ id x, id < 4096 ∧ m.st.T id = some x ∧ r.1 = id) := fun hh => by
    rw [hr] at hh ⊢
    obtain ⟨h1, id, x, _, h2, h3, h4⟩ := find_in hh
    exact ⟨h1, id, x, h2, h3, h4⟩
  have HLS : Hid (r.2 ≠ 7 → L = (r.1, r.2, m)) := fun hh => by
    rw [hL, hr] ; rw [hr] at hh; exact look_same hh
  have HL7 : Hid (r.2 = 7 → L = (0, (if (m.change (.X r.1)).1 = 0 then 7 else (m.change (.X r.1)).1), (m.change (.X r.1)).2)) := fun hh => by
    rw [hL]
    refine look_over (id := r.1) ?_
    rw [← hr, ← hh]
  rw [← hr] at hfd
  rw [← hL]
  have HFD : Hid (Calls _ _ _ _ _) := hfd
  have HKA : Hid (KAt w B kb F m) := ⟨db, jb, sb, mb, f, D, sl, Fd, d, h, hF⟩
  clear h hp hG hb0 hF hfd hr hL
  go_enter Tryz.func59, Tryz.ntmps59
  go_wp2_with fail
  refine HFD.out.mono ?_
  rintro e w1 ⟨rfl, hb1⟩
  have HB1 : Hid (Below w.heap.size w w1) := bstep HB0.out hb1
  have HQ1 : Hid (Blk w1 w.heap.size _ 104) := Blk.below HQ0.out hb1
  have HP1 : Hid (KeepP w1 B kb db jb sb mb f D sl Fd m d) := HP.out.below hb1
  have HG1 : Hid (Glob B G w1) := DigitsBelow HG.out HB1.out
  clear hb1 HP HQ0 HG0 HB0 HFD
  generalize w.alloc (Obj.cells _ _ _) = w0 at *
  obtain ⟨id, code⟩ := r
  by_cases h7 : code = 7
  · subst h7
    obtain ⟨hup, id', x, hid, ht, hide⟩ := HIN.out (Or.inr rfl)
    have hide : id = id' := hide
    subst hide
    obtain ⟨s, hsv, hs, hvs⟩ := sess_shape HP1.out.tab ht
    have HL : Hid (L = (0, (if (m.change (.X id)).1 = 0 then 7 else (m.change (.X id)).1), (m.change (.X id)).2)) := HL7.out rfl
    clear HL7 HLS HIN
    rcases hs with rfl | ⟨g0, n0, cap0, rfl⟩
    · skip
      have hb2 : Below w1.heap.size w1 (w1.alloc (.cells #[.int .i64 id, .int .i64 x.user, .int .i64 x.created, .int .i64 x.used, .slice none 0 0] 104)) := (Below.refl _ _).alloc (Nat.le_refl _) _
      have HB2 : Hid (Below w.heap.size w (w1.alloc (.cells #[.int .i64 id, .int .i64 x.user, .int .i64 x.created, .int .i64 x.used, .slice none 0 0] 104))) := bstep HB1.out hb2
      have hq2 : Blk (w1.alloc (.cells #[.int .i64 id, .int .i64 x.user, .int .i64 x.created, .int .i64 x.used, .slice none 0 0] 104)) w.heap.size _ 104 := Blk.below HQ1.out hb2
      have HQ2 : Hid (Blk _ w.heap.size _ 104) := hq2
      have hend := kend_any B kb F m G id x x.user x.created x.used (.slice none 0 0) (w1.alloc (.cells #[.int .i64 id, .int .i64 x.user, .int .i64 x.created, .int .i64 x.used, .slice none 0 0] 104)) (HKA.out.below HB2.out) hup hid ht (Or.inl rfl) (DigitsBelow HG1.out hb2)
      have HEND : Hid (Calls _ _ _ _ _) := hend
      rw [fndV_yes (by decide), hsv]
      clear hb2 hq2 hsv hvs ht hid hup hend
      generalize m.change (.X id) = q at *
      go_wp2_with fail
      refine HEND.out.mono ?_
      rintro e w3 ⟨rfl, hk3⟩
      have HK3 : Hid (KTo _ B kb F q.2 w3) := hk3
      obtain ⟨F3, ha3, hf3, hn3⟩ := hk3
      have hno : ¬ F w.heap.size := fun hh => by have := (HKA.out.foot hh).2; omega
      have hq2 : Blk w3 w.heap.size _ 104 := HQ2.out.kept hf3 hno
      have r0 := Blk.cell hq2 0
      have r1 := Blk.cell hq2 1
      have r2 := Blk.cell hq2 2
      have r3 := Blk.cell hq2 3
      have r4 := Blk.cell hq2 4
      simp only [List.getElem?_toArray, List.getElem?_cons_zero, List.getElem?_cons_succ] at r0 r1 r2 r3 r4
      have fr : ∀ i, World.frozen? w3 ⟨w.heap.size, i, none⟩ = false := fun i => Blk.frozen hq2 i
      have HSZ : Hid (w.heap.size < _) := HQ2.out.lt
      clear hq2 ha3 hf3 hn3 HEND HQ2
      by_cases hc : q.1 = 0
      · have HL2 : Hid (L = (0, 7, q.2)) := by
          show _ = _
          rw [HL.out, if_pos hc]
        rw [hc]
        clear hc
        go_wp2_with fail
        refine bodyPost_ret (v := .tuple #[noSess, .int .i64 7]) (by simp [results, Tryz.results59, go_sem, noSess, r0, r1, r2, r3, r4]) rfl ?_
        rw [HL2.out]
        exact Or.inr ⟨(by show (7 : Nat) ≠ 0; decide), rfl, kto_sets HB2.out HSZ.out HKA.out HK3.out⟩
      · have HL2 : Hid (L = (0, q.1, q.2)) := by
          show _ = _
          rw [HL.out, if_neg hc]
        have HC : Hid (q.1 ≠ 0) := hc
        have e0 : ((q.1 : Int) == 0) = false := by rw [Bool.eq_false_iff]; intro h; rw [beq_iff_eq] at h; omega
        clear hc
        go_wp2_with fail
        refine bodyPost_ret (v := .tuple #[noSess, .int .i64 q.1]) (by simp [results, Tryz.results59, go_sem, noSess, r0, r1, r2, r3, r4]) rfl ?_
        rw [HL2.out]
        exact Or.inr ⟨HC.out, rfl, kto_sets HB2.out HSZ.out HKA.out HK3.out⟩
    · skip
      have hb2 : Below w1.heap.size w1 (w1.alloc (.cells #[.int .i64 id, .int .i64 x.user, .int .i64 x.created, .int .i64 x.used, .slice (some ⟨g0, 0, none⟩) n0 cap0] 104)) := (Below.refl _ _).alloc (Nat.le_refl _) _
      have HB2 : Hid (Below w.heap.size w (w1.alloc (.cells #[.int .i64 id, .int .i64 x.user, .int .i64 x.created, .int .i64 x.used, .slice (some ⟨g0, 0, none⟩) n0 cap0] 104))) := bstep HB1.out hb2
      have hq2 : Blk (w1.alloc (.cells #[.int .i64 id, .int .i64 x.user, .int .i64 x.created, .int .i64 x.used, .slice (some ⟨g0, 0, none⟩) n0 cap0] 104)) w.heap.size _ 104 := Blk.below HQ1.out hb2
      have HQ2 : Hid (Blk _ w.heap.size _ 104) := hq2
      have hend := kend_any B kb F m G id x x.user x.created x.used (.slice (some ⟨g0, 0, none⟩) n0 cap0) (w1.alloc (.cells #[.int .i64 id, .int .i64 x.user, .int .i64 x.created, .int .i64 x.used, .slice (some ⟨g0, 0, none⟩) n0 cap0] 104)) (HKA.out.below HB2.out) hup hid ht (Or.inr ⟨_, _, _, rfl⟩) (DigitsBelow HG1.out hb2)
      have HEND : Hid (Calls _ _ _ _ _) := hend
      rw [fndV_yes (by decide), hsv]
      clear hb2 hq2 hsv hvs ht hid hup hend
      generalize m.change (.X id) = q at *
      go_wp2_with fail
      refine HEND.out.mono ?_
      rintro e w3 ⟨rfl, hk3⟩
      have HK3 : Hid (KTo _ B kb F q.2 w3) := hk3
      obtain ⟨F3, ha3, hf3, hn3⟩ := hk3
      have hno : ¬ F w.heap.size := fun hh => by have := (HKA.out.foot hh).2; omega
      have hq2 : Blk w3 w.heap.size _ 104 := HQ2.out.kept hf3 hno
      have r0 := Blk.cell hq2 0
      have r1 := Blk.cell hq2 1
      have r2 := Blk.cell hq2 2
      have r3 := Blk.cell hq2 3
      have r4 := Blk.cell hq2 4
      simp only [List.getElem?_toArray, List.getElem?_cons_zero, List.getElem?_cons_succ] at r0 r1 r2 r3 r4
      have fr : ∀ i, World.frozen? w3 ⟨w.heap.size, i, none⟩ = false := fun i => Blk.frozen hq2 i
      have HSZ : Hid (w.heap.size < _) := HQ2.out.lt
      clear hq2 ha3 hf3 hn3 HEND HQ2
      by_cases hc : q.1 = 0
      · have HL2 : Hid (L = (0, 7, q.2)) := by
          show _ = _
          rw [HL.out, if_pos hc]
        rw [hc]
        clear hc
        go_wp2_with fail
        refine bodyPost_ret (v := .tuple #[noSess, .int .i64 7]) (by simp [results, Tryz.results59, go_sem, noSess, r0, r1, r2, r3, r4]) rfl ?_
        rw [HL2.out]
        exact Or.inr ⟨(by show (7 : Nat) ≠ 0; decide), rfl, kto_sets HB2.out HSZ.out HKA.out HK3.out⟩
      · have HL2 : Hid (L = (0, q.1, q.2)) := by
          show _ = _
          rw [HL.out, if_neg hc]
        have HC : Hid (q.1 ≠ 0) := hc
        have e0 : ((q.1 : Int) == 0) = false := by rw [Bool.eq_false_iff]; intro h; rw [beq_iff_eq] at h; omega
        clear hc
        go_wp2_with fail
        refine bodyPost_ret (v := .tuple #[noSess, .int .i64 q.1]) (by simp [results, Tryz.results59, go_sem, noSess, r0, r1, r2, r3, r4]) rfl ?_
        rw [HL2.out]
        exact Or.inr ⟨HC.out, rfl, kto_sets HB2.out HSZ.out HKA.out HK3.out⟩
  · by_cases h0 : code = 0
    · subst h0
      obtain ⟨hup, id', x, hid, ht, hide⟩ := HIN.out (Or.inl rfl)
      have hide : id = id' := hide
      subst hide
      obtain ⟨s, hsv, hs, hvs⟩ := sess_shape HP1.out.tab ht
      have HL : Hid (L = (id, 0, m)) := HLS.out h7
      clear HL7 HLS HIN h7
      rcases hs with rfl | ⟨g0, n0, cap0, rfl⟩
      · skip
        have hb2 : Below w1.heap.size w1 (w1.alloc (.cells #[.int .i64 id, .int .i64 x.user, .int .i64 x.created, .int .i64 x.used, .slice none 0 0] 104)) := (Below.refl _ _).alloc (Nat.le_refl _) _
        have HB2 : Hid (Below w.heap.size w (w1.alloc (.cells #[.int .i64 id, .int .i64 x.user, .int .i64 x.created, .int .i64 x.used, .slice none 0 0] 104))) := bstep HB1.out hb2
        have hq2 : Blk (w1.alloc (.cells #[.int .i64 id, .int .i64 x.user, .int .i64 x.created, .int .i64 x.used, .slice none 0 0] 104)) w.heap.size _ 104 := Blk.below HQ1.out hb2
        have r0 := Blk.cell hq2 0
        have r1 := Blk.cell hq2 1
        have r2 := Blk.cell hq2 2
        have r3 := Blk.cell hq2 3
        have r4 := Blk.cell hq2 4
        simp only [List.getElem?_toArray, List.getElem?_cons_zero, List.getElem?_cons_succ] at r0 r1 r2 r3 r4
        have fr : ∀ i, World.frozen? (w1.alloc (.cells #[.int .i64 id, .int .i64 x.user, .int .i64 x.created, .int .i64 x.used, .slice none 0 0] 104)) ⟨w.heap.size, i, none⟩ = false := fun i => Blk.frozen hq2 i
        have HSV : Hid (foundV m.st.T sl id = .agg #[.int .i64 id, .int .i64 x.user, .int .i64 x.created, .int .i64 x.used, .slice none 0 0]) := hsv
        rw [fndV_yes (by decide), hsv]
        clear hb2 hq2 hsv hvs ht hid hup
        go_wp2_with fail
        refine bodyPost_ret (v := .tuple #[.agg #[.int .i64 id, .int .i64 x.user, .int .i64 x.created, .int .i64 x.used, .slice none 0 0], .int .i64 0]) (by simp [results, Tryz.results59, go_sem, r0, r1, r2, r3, r4]) rfl ?_
        rw [HL.out]
        refine Or.inl ⟨rfl, ?_, below5 HB2.out⟩
        show _ = Ending.returned (.tuple #[foundV m.st.T sl id, .int .i64 0])
        rw [HSV.out]
      · skip
        have hb2 : Below w1.heap.size w1 (w1.alloc (.cells #[.int .i64 id, .int .i64 x.user, .int .i64 x.created, .int .i64 x.used, .slice (some ⟨g0, 0, none⟩) n0 cap0] 104)) := (Below.refl _ _).alloc (Nat.le_refl _) _
        have HB2 : Hid (Below w.heap.size w (w1.alloc (.cells #[.int .i64 id, .int .i64 x.user, .int .i64 x.created, .int .i64 x.used, .slice (some ⟨g0, 0, none⟩) n0 cap0] 104))) := bstep HB1.out hb2
        have hq2 : Blk (w1.alloc (.cells #[.int .i64 id, .int .i64 x.user, .int .i64 x.created, .int .i64 x.used, .slice (some ⟨g0, 0, none⟩) n0 cap0] 104)) w.heap.size _ 104 := Blk.below HQ1.out hb2
        have r0 := Blk.cell hq2 0
        have r1 := Blk.cell hq2 1
        have r2 := Blk.cell hq2 2
        have r3 := Blk.cell hq2 3
        have r4 := Blk.cell hq2 4
        simp only [List.getElem?_toArray, List.getElem?_cons_zero, List.getElem?_cons_succ] at r0 r1 r2 r3 r4
        have fr : ∀ i, World.frozen? (w1.alloc (.cells #[.int .i64 id, .int .i64 x.user, .int .i64 x.created, .int .i64 x.used, .slice (some ⟨g0, 0, none⟩) n0 cap0] 104)) ⟨w.heap.size, i, none⟩ = false := fun i => Blk.frozen hq2 i
        have HSV : Hid (foundV m.st.T sl id = .agg #[.int .i64 id, .int .i64 x.user, .int .i64 x.created, .int .i64 x.used, .slice (some ⟨g0, 0, none⟩) n0 cap0]) := hsv
        rw [fndV_yes (by decide), hsv]
        clear hb2 hq2 hsv hvs ht hid hup
        go_wp2_with fail
        refine bodyPost_ret (v := .tuple #[.agg #[.int .i64 id, .int .i64 x.user, .int .i64 x.created, .int .i64 x.used, .slice (some ⟨g0, 0, none⟩) n0 cap0], .int .i64 0]) (by simp [results, Tryz.results59, go_sem, r0, r1, r2, r3, r4]) rfl ?_
        rw [HL.out]
        refine Or.inl ⟨rfl, ?_, below5 HB2.out⟩
        show _ = Ending.returned (.tuple #[foundV m.st.T sl id, .int .i64 0])
        rw [HSV.out]
    · have HL : Hid (L = (id, code, m)) := HLS.out h7
      rw [fndV_no (by omega)]
      have HC : Hid (code ≠ 7 ∧ code ≠ 0) := ⟨h7, h0⟩
      have e7 : ((code : Int) == 7) = false := by rw [Bool.eq_false_iff]; intro h; rw [beq_iff_eq] at h; omega
      have hb2 : Below w1.heap.size w1 (w1.alloc (.cells #[.int .i64 0, .int .i64 0, .int .i64 0, .int .i64 0, .slice none 0 0] 104)) := (Below.refl _ _).alloc (Nat.le_refl _) _
      have HB2 : Hid (Below w.heap.size w (w1.alloc (.cells #[.int .i64 0, .int .i64 0, .int .i64 0, .int .i64 0, .slice none 0 0] 104))) := bstep HB1.out hb2
      have hq2 : Blk (w1.alloc (.cells #[.int .i64 0, .int .i64 0, .int .i64 0, .int .i64 0, .slice none 0 0] 104)) w.heap.size _ 104 := Blk.below HQ1.out hb2
      have r0 := Blk.cell hq2 0
      have r1 := Blk.cell hq2 1
      have r2 := Blk.cell hq2 2
      have r3 := Blk.cell hq2 3
      have r4 := Blk.cell hq2 4
      simp only [List.getElem?_toArray, List.getElem?_cons_zero, List.getElem?_cons_succ] at r0 r1 r2 r3 r4
      have fr : ∀ i, World.frozen? (w1.alloc (.cells #[.int .i64 0, .int .i64 0, .int .i64 0, .int .i64 0, .slice none 0 0] 104)) ⟨w.heap.size, i, none⟩ = false := fun i => Blk.frozen hq2 i
      clear hb2 hq2 h7 h0
      unfold noSess
      go_wp2_with fail
      refine bodyPost_ret (v := .tuple #[noSess, .int .i64 code]) (by simp [results, Tryz.results59, go_sem, noSess, r0, r1, r2, r3, r4]) rfl ?_
      rw [HL.out]
      exact Or.inr ⟨HC.out.2, rfl, KTo.of_below HKA.out (below5 HB2.out)⟩
end Go.Proofs.YtmnajomkfnkmeaaGreatDoor
