import Derived.Test.YtmnajomkfnkmeaaGreatDoorKa
import Derived.Deep.DeepCutAuto
namespace Go.Proofs.YtmnajomkfnkmeaaGreatDoor
open Go.RowKit Go.Conc
attribute [local go_sem] ofL_size
attribute [local go_sem] cv1 cv2 cv4 size_strOfNums
/-! keep.act -/
theorem actK_in {v : Nat} (m : Kp) (ps : List Bs) (h : v % 10 = 0 ∨ v % 10 = 1) : actK m v ps = m.login ((1 : Int) + ((v / 10 % 3 : Nat) : Int)) := by
  unfold actK
  rw [if_pos (by omega), Int.natCast_add]; rfl
theorem actK_set {v : Nat} (m : Kp) (ps : List Bs) (h : v % 10 = 2 ∨ v % 10 = 3 ∨ v % 10 = 4) : actK m v ps = ([], (m.set (actP v ps) (nm (v / 300 % 3)) (actV v)).1, (m.set (actP v ps) (nm (v / 300 % 3)) (actV v)).2) := by
  unfold actK
  rw [if_neg (by omega), if_pos (by omega)]
theorem actK_touch {v : Nat} (m : Kp) (ps : List Bs) (h : v % 10 = 5) : actK m v ps = ([], (m.touch (actP v ps)).1, (m.touch (actP v ps)).2) := by
  unfold actK
  rw [if_neg (by omega), if_neg (by omega), if_pos h]
theorem actK_rot {v : Nat} (m : Kp) (ps : List Bs) (h : v % 10 = 6) : actK m v ps = m.rotate (actP v ps) := by
  unfold actK
  rw [if_neg (by omega), if_neg (by omega), if_neg (by omega), if_pos h]
theorem actK_out {v : Nat} (m : Kp) (ps : List Bs) (h : v % 10 = 7) : actK m v ps = ([], (m.logout (actP v ps)).1, (m.logout (actP v ps)).2) := by
  unfold actK
  rw [if_neg (by omega), if_neg (by omega), if_neg (by omega), if_neg (by omega), if_pos h]
theorem actK_all {v : Nat} (m : Kp) (ps : List Bs) (h : v % 10 = 8) : actK m v ps = ([], (m.logoutAll ((1 : Int) + ((v / 10 % 3 : Nat) : Int))).2.1, (m.logoutAll ((1 : Int) + ((v / 10 % 3 : Nat) : Int))).2.2) := by
  unfold actK
  rw [if_neg (by omega), if_neg (by omega), if_neg (by omega), if_neg (by omega), if_neg (by omega), if_pos h, Int.natCast_add]; rfl
theorem actK_comp {v : Nat} (m : Kp) (ps : List Bs) (h : v % 10 = 9) : actK m v ps = ([], m.compact.1, m.compact.2) := by
  unfold actK
  rw [if_neg (by omega), if_neg (by omega), if_neg (by omega), if_neg (by omega), if_neg (by omega), if_neg (by omega)]
theorem actV_text (a b : Nat) (ha : a < 10) (hb : b < 9) : strOfNums [(48 : Int) + a, (97 : Int) + b] = ofL [UInt8.ofNat (48 + a), UInt8.ofNat (97 + b)] := by
  apply ByteArray.ext
  simp only [strOfNums, ofL, List.map_cons, List.map_nil]
  rw [show ((48 : Int) + a).toNat = 48 + a by omega, show ((97 : Int) + b).toNat = 97 + b by omega]
theorem getD_at {α : Type} (l : List α) (i : Nat) (d : α) (h : i < l.length) : l.getD i d = l[i] := by
  rw [List.getD_eq_getElem?_getD, List.getElem?_eq_getElem h]; rfl
theorem actP_len {ps : List Bs} (hp : ∀ p ∈ ps, p.length ≤ 9) (v : Nat) : (actP v ps).length ≤ 9223372036854775000 := by
  unfold actP
  split
  · exact Nat.zero_le _
  · rename_i h
    have hl : v / 10 % ps.length < ps.length := Nat.mod_lt _ (by omega)
    rw [getD_at _ _ _ hl]
    have := hp _ (List.getElem_mem hl)
    omega
/-- what act does, behind the pass that is picked -/
def ActTo (w0 : World) (B kb : Nat) (X : Nat → Prop) (w : World) (R : Bs × Nat × Kp) (e : Ending) (w' : World) : Prop :=
  e = .returned (.tuple #[.string (ofL R.1), .int .i64 R.2.1]) ∧ Ka w0 B kb R.2.2 X w' ∧ Stay X w w'
theorem len_so {w : World} {s : Value} {ps : List Bs} (h : SO w s ps) (w' : World) : Sem.run Tryz.prog (Builtin.len_ #[57] 3 #[s]) w' = .ok (.int .i64 (ps.length : Int)) w' := by
  rcases h.cases with ⟨rfl, rfl⟩ | ⟨q, cap, rfl, _, _, hm⟩
  · simp [go_sem]
  · simp [go_sem]
set_option maxRecDepth 20000 in
set_option maxHeartbeats 4000000 in
theorem act_any (w0 : World) (B kb : Nat) (m : Kp) (X : Nat → Prop) (G : Gl) (s : Value) (ps : List Bs) (c : Int) (w : World) (h : Ka w0 B kb m X w) (hG : Glob B G w0) (hc : -9223372036854775808 ≤ c ∧ c ≤ 9223372036854775807)
    (hs : SO w s ps) (hX : ∀ b, s.ownBlock = some b → X b) (hp : ∀ p ∈ ps, p.length ≤ 9) (hn : ps.length ≤ 1000) :
    Calls Tryz.prog 31 #[.pointer (some ⟨kb, 0, none⟩), .int .i64 c, s] w fun e w' => ActTo w0 B kb X w (actK m (pickN c 1099511627776) ps) e w' := by
  obtain ⟨HK, HG, HS⟩ : Hid (Ka w0 B kb m X w) ∧ Hid (Glob B G w0) ∧ Hid (SO w s ps) := ⟨h, hG, hs⟩
  have HPK : Hid (Calls Tryz.prog 15 #[.int .i64 c, .int .i64 (1099511627776 : Nat)] w fun e w'' => e = .returned (.int .i64 (pickN c 1099511627776)) ∧ w'' = w) := pick_any c 1099511627776 w hc.1 hc.2 (by decide)
  have hv := pickN_lt c (n := 1099511627776) (by decide)
  generalize pickN c 1099511627776 = v at *
  have HPL : Hid ((actP v ps).length ≤ 9223372036854775000) := actP_len hp v
  have HR : Hid (_ ∧ _ ∧ _ ∧ _ ∧ _ ∧ _ ∧ _) := ⟨actK_in (v := v) m ps, actK_set (v := v) m ps, actK_touch (v := v) m ps, actK_rot (v := v) m ps, actK_out (v := v) m ps, actK_all (v := v) m ps, actK_comp (v := v) m ps⟩
  have hV : strOfNums [(48 : Int) + ((v / 700 % 10 : Nat) : Int), (97 : Int) + ((v / 7000 % 9 : Nat) : Int)] = ofL (actV v) := actV_text _ _ (Nat.mod_lt _ (by decide)) (Nat.mod_lt _ (by decide))
  have HVL : Hid ((actV v).length ≤ 9223372036854775000) := by show (2 : Nat) ≤ _; decide
  have HPP : Hid (∀ i, i = v / 10 % ps.length → (h : i < ps.length) → ps[i] = actP v ps) := by
    intro i hi h
    unfold actP
    rw [if_neg (by omega), ← hi, getD_at _ _ _ h]
  have HPN : Hid (ps = [] → actP v ps = []) := fun h => by unfold actP; rw [if_pos (by rw [h]; rfl)]
  have f1 : (v : Int).tdiv 10 = ((v / 10 : Nat) : Int) := rfl
  have f2 : ((v / 10 : Nat) : Int).tmod 3 = ((v / 10 % 3 : Nat) : Int) := rfl
  have f3 : (v : Int).tdiv 300 = ((v / 300 : Nat) : Int) := rfl
  have f4 : ((v / 300 : Nat) : Int).tmod 3 = ((v / 300 % 3 : Nat) : Int) := rfl
  have f5 : (v : Int).tdiv 700 = ((v / 700 : Nat) : Int) := rfl
  have f6 : ((v / 700 : Nat) : Int).tmod 10 = ((v / 700 % 10 : Nat) : Int) := rfl
  have f7 : (v : Int).tdiv 7000 = ((v / 7000 : Nat) : Int) := rfl
  have f8 : ((v / 7000 : Nat) : Int).tmod 9 = ((v / 7000 % 9 : Nat) : Int) := rfl
  have f9 : (v : Int).tmod 10 = ((v % 10 : Nat) : Int) := rfl
  have f10 : ((v / 10 : Nat) : Int).tmod (ps.length : Int) = ((v / 10 % ps.length : Nat) : Int) := rfl
  have h10 : v % 10 < 10 := Nat.mod_lt _ (by decide)
  have hu : v / 10 % 3 < 3 := Nat.mod_lt _ (by decide)
  have hi : v / 300 % 3 < 3 := Nat.mod_lt _ (by decide)
  have ha : v / 700 % 10 < 10 := Nat.mod_lt _ (by decide)
  have hb : v / 7000 % 9 < 9 := Nat.mod_lt _ (by decide)
  have g1 : v / 10 < 1099511627776 := by omega
  have g3 : v / 300 < 1099511627776 := by omega
  have g5 : v / 700 < 1099511627776 := by omega
  have g7 : v / 7000 < 1099511627776 := by omega
  have HJ : Hid (0 < ps.length → v / 10 % ps.length < ps.length) := fun h => Nat.mod_lt _ h
  generalize hj : v / 10 % ps.length = j at *
  have HPP : Hid ((h : j < ps.length) → ps[j] = actP v ps) := fun h => HPP.out j rfl h
  clear hj
  generalize v / 10 % 3 = u at *
  generalize v / 300 % 3 = i3 at *
  generalize v / 700 % 10 = d1 at *
  generalize v / 7000 % 9 = d2 at *
  generalize v / 10 = v10 at *
  generalize v / 300 = v300 at *
  generalize v / 700 = v700 at *
  generalize v / 7000 = v7000 at *
  generalize v % 10 = r at *
  generalize actP v ps = P at *
  generalize actV v = V at *
  generalize actK m v ps = R at *
  have hlen := len_so hs w
  clear h hG hs hc hp
  have hshape : (s = .slice none 0 0 ∧ ps = []) ∨ ∃ (q cap : Nat), s = .slice (some ⟨q, 0, none⟩) ps.length cap ∧ q < w.heap.size ∧ ps.length ≤ cap ∧ cap ≤ maxLen := HS.out.cases
  have HX : Hid (∀ b, s.ownBlock = some b → X b) := hX
  clear hX
  go_enter Tryz.func31, Tryz.ntmps31
  go_wp2_with fail
  refine HPK.out.mono ?_
  rintro e w' ⟨rfl, hw⟩
  subst w'
  clear HPK
  go_upto_if 26 with fail
  go_cut [9] from 24 to 34 (fun p wx => p = .string (ofL P) ∧ wx = w)
  case first =>
    rcases hshape with ⟨rfl, rfl⟩ | ⟨q, cap, rfl, hq, hc1, hc2⟩
    · have hnil : P = [] := HPN.out rfl
      go_wp2_with fail
      go_meet
      case rel => exact ⟨by rw [hnil]; rfl, rfl⟩
    · by_cases h0 : ps.length = 0
      · have hnil : P = [] := HPN.out (List.eq_nil_of_length_eq_zero h0)
        go_wp2_with fail
        go_meet
        case rel => exact ⟨by rw [hnil]; rfl, rfl⟩
      · have hlt : j < ps.length := HJ.out (by omega)
        have cp := HS.out.cell j hlt
        rw [HPP.out hlt] at cp
        go_wp2_with fail
        go_meet
        case rel => exact ⟨rfl, rfl⟩
  case rest =>
  obtain ⟨rfl, rfl⟩ := hcut
  clear hshape HPN HJ HPP f10 hn hlen
  go_wp2_with fail
  refine (names_any _).mono ?_
  rintro e w1 ⟨rfl, hb1, hcn⟩
  obtain ⟨hk1, hst1⟩ := HK.out.below hb1
  have HKA : Hid (∀ o, Ka w0 B kb m X (w1.alloc o) ∧ Stay X wc (w1.alloc o)) := fun o => by
    have := hk1.below ((Below.refl _ _).alloc (Nat.le_refl _) o)
    exact ⟨this.1, hst1.trans this.2⟩
  have cn : ∀ o, (w1.alloc o).cell? ⟨wc.heap.size, i3, none⟩ = some (.string (ofL (nm i3))) := fun o => by
    have e := hcn i3 hi
    have hl : wc.heap.size < w1.heap.size := by
      unfold World.cell? at e
      cases e1 : w1.heap[wc.heap.size]? with
      | none => rw [e1] at e; cases e
      | some x => exact (Array.getElem?_eq_some_iff.1 e1).1
    exact (World.cell?_of_block (w := w1) (Below.heap_alloc w1 o _ hl)).trans e
  clear hb1 hcn hk1 hst1
  generalize wc.heap.size = nb at *
  have HNL : Hid ((nm i3).length ≤ 9223372036854775000) := by have := (nm_ok i3).2; show _ ≤ _; omega
  generalize nm i3 = N at *
  obtain rfl | rfl | rfl | rfl | rfl | rfl | rfl | rfl | rfl | rfl : r = 0 ∨ r = 1 ∨ r = 2 ∨ r = 3 ∨ r = 4 ∨ r = 5 ∨ r = 6 ∨ r = 7 ∨ r = 8 ∨ r = 9 := by omega
  · have HR1 : Hid (R = m.login ((1 : Int) + (u : Int))) := HR.out.1 (Or.inl rfl)
    clear HR
    go_wp2_with fail
    refine (alogin w0 B kb m X G _ _ (HKA.out _).1 HG.out).mono ?_
    rintro e w2 ⟨rfl, hk2⟩
    have HK2 : Hid (_ ∧ _) := hk2
    clear hk2
    go_wp2_with fail
    go_ret2
    exact ⟨by rw [HR1.out] <;> rfl, by rw [HR1.out]; exact HK2.out.1, (HKA.out _).2.trans HK2.out.2⟩
  · have HR1 : Hid (R = m.login ((1 : Int) + (u : Int))) := HR.out.1 (Or.inr rfl)
    clear HR
    go_wp2_with fail
    refine (alogin w0 B kb m X G _ _ (HKA.out _).1 HG.out).mono ?_
    rintro e w2 ⟨rfl, hk2⟩
    have HK2 : Hid (_ ∧ _) := hk2
    clear hk2
    go_wp2_with fail
    go_ret2
    exact ⟨by rw [HR1.out] <;> rfl, by rw [HR1.out]; exact HK2.out.1, (HKA.out _).2.trans HK2.out.2⟩
  · have HR1 : Hid (R = ([], (m.set P N V).1, (m.set P N V).2)) := HR.out.2.1 (Or.inl rfl)
    clear HR
    go_wp2_with fail
    refine (aset w0 B kb m X G P N V _ (HKA.out _).1 HPL.out HNL.out HVL.out HG.out).mono ?_
    rintro e w2 ⟨rfl, hk2⟩
    have HK2 : Hid (_ ∧ _) := hk2
    clear hk2
    go_wp2_with fail
    go_ret2
    exact ⟨by rw [HR1.out] <;> rfl, by rw [HR1.out]; exact HK2.out.1, (HKA.out _).2.trans HK2.out.2⟩
  · have HR1 : Hid (R = ([], (m.set P N V).1, (m.set P N V).2)) := HR.out.2.1 (Or.inr (Or.inl rfl))
    clear HR
    go_wp2_with fail
    refine (aset w0 B kb m X G P N V _ (HKA.out _).1 HPL.out HNL.out HVL.out HG.out).mono ?_
    rintro e w2 ⟨rfl, hk2⟩
    have HK2 : Hid (_ ∧ _) := hk2
    clear hk2
    go_wp2_with fail
    go_ret2
    exact ⟨by rw [HR1.out] <;> rfl, by rw [HR1.out]; exact HK2.out.1, (HKA.out _).2.trans HK2.out.2⟩
  · have HR1 : Hid (R = ([], (m.set P N V).1, (m.set P N V).2)) := HR.out.2.1 (Or.inr (Or.inr rfl))
    clear HR
    go_wp2_with fail
    refine (aset w0 B kb m X G P N V _ (HKA.out _).1 HPL.out HNL.out HVL.out HG.out).mono ?_
    rintro e w2 ⟨rfl, hk2⟩
    have HK2 : Hid (_ ∧ _) := hk2
    clear hk2
    go_wp2_with fail
    go_ret2
    exact ⟨by rw [HR1.out] <;> rfl, by rw [HR1.out]; exact HK2.out.1, (HKA.out _).2.trans HK2.out.2⟩
  · have HR1 : Hid (R = ([], (m.touch P).1, (m.touch P).2)) := HR.out.2.2.1 rfl
    clear HR
    go_wp2_with fail
    refine (atouch w0 B kb m X G P _ (HKA.out _).1 HPL.out HG.out).mono ?_
    rintro e w2 ⟨rfl, hk2⟩
    have HK2 : Hid (_ ∧ _) := hk2
    clear hk2
    go_wp2_with fail
    go_ret2
    exact ⟨by rw [HR1.out] <;> rfl, by rw [HR1.out]; exact HK2.out.1, (HKA.out _).2.trans HK2.out.2⟩
  · have HR1 : Hid (R = m.rotate P) := HR.out.2.2.2.1 rfl
    clear HR
    go_wp2_with fail
    refine (arotate w0 B kb m X G P _ (HKA.out _).1 HPL.out HG.out).mono ?_
    rintro e w2 ⟨rfl, hk2⟩
    have HK2 : Hid (_ ∧ _) := hk2
    clear hk2
    go_wp2_with fail
    go_ret2
    exact ⟨by rw [HR1.out] <;> rfl, by rw [HR1.out]; exact HK2.out.1, (HKA.out _).2.trans HK2.out.2⟩
  · have HR1 : Hid (R = ([], (m.logout P).1, (m.logout P).2)) := HR.out.2.2.2.2.1 rfl
    clear HR
    go_wp2_with fail
    refine (alogout w0 B kb m X G P _ (HKA.out _).1 HPL.out HG.out).mono ?_
    rintro e w2 ⟨rfl, hk2⟩
    have HK2 : Hid (_ ∧ _) := hk2
    clear hk2
    go_wp2_with fail
    go_ret2
    exact ⟨by rw [HR1.out] <;> rfl, by rw [HR1.out]; exact HK2.out.1, (HKA.out _).2.trans HK2.out.2⟩
  · have HR1 : Hid (R = ([], (m.logoutAll ((1 : Int) + (u : Int))).2.1, (m.logoutAll ((1 : Int) + (u : Int))).2.2)) := HR.out.2.2.2.2.2.1 rfl
    clear HR
    go_wp2_with fail
    refine (aoutall w0 B kb m X G _ _ (HKA.out _).1 HG.out).mono ?_
    rintro e w2 ⟨rfl, hk2⟩
    have HK2 : Hid (_ ∧ _) := hk2
    clear hk2
    go_wp2_with fail
    go_ret2
    exact ⟨by rw [HR1.out] <;> rfl, by rw [HR1.out]; exact HK2.out.1, (HKA.out _).2.trans HK2.out.2⟩
  · have HR1 : Hid (R = ([], m.compact.1, m.compact.2)) := HR.out.2.2.2.2.2.2 rfl
    clear HR
    go_wp2_with fail
    refine (acompact w0 B kb m X G _ (HKA.out _).1 HG.out).mono ?_
    rintro e w2 ⟨rfl, hk2⟩
    have HK2 : Hid (_ ∧ _) := hk2
    clear hk2
    go_wp2_with fail
    go_ret2
    exact ⟨by rw [HR1.out] <;> rfl, by rw [HR1.out]; exact HK2.out.1, (HKA.out _).2.trans HK2.out.2⟩
end Go.Proofs.YtmnajomkfnkmeaaGreatDoor
