import Derived.Test.YtmnajomkfnkmeaaGreatDoorCpt
import Derived.Test.YtmnajomkfnkmeaaGreatDoorKeep2
import Derived.Deep.RegionWith
namespace Go.Proofs.YtmnajomkfnkmeaaGreatDoor
open Go.RowKit Go.Conc
attribute [local go_sem] ofL_size
/-! Keeper.Compact; keep.act -/
theorem compact_codes (m : Kp) : m.compact.1 = 0 ∨ m.compact.1 = 4 ∨ m.compact.1 = 9 := by
  unfold Kp.compact
  split
  · exact Or.inr (Or.inl rfl)
  split
  · exact Or.inr (Or.inr rfl)
  simp only
  split
  · split
    · exact Or.inl rfl
    · exact Or.inr (Or.inl rfl)
  · exact Or.inr (Or.inl rfl)
theorem compact_facts {m : Kp} (h : MOK m) (hu : m.down = false) :
    MOK m.compact.2 ∧ (∀ db jb sb, kepA db jb sb m.compact.2 = kepA db jb sb m) ∧ m.compact.2.st.T = m.st.T := by
  have hg := h.good hu
  have ho := (compact_out hg).1
  have key : m.compact.2.secret = m.secret ∧ m.compact.2.idle = m.idle ∧ m.compact.2.abs = m.abs ∧ m.compact.2.now = m.now ∧ m.compact.2.drawn = m.drawn ∧ m.compact.2.st.T = m.st.T ∧ (m.compact.1 = 4 → m.compact.2.down = true) := by
    unfold Kp.compact
    rw [if_neg (by rw [hu]; decide)]
    split
    · exact ⟨rfl, rfl, rfl, rfl, rfl, rfl, fun x => by cases x⟩
    · simp only
      generalize recB (m.st.gen + 1) 0 (snapB m.st.T) ++ zeros (halfN m.disk.length - ((snapB m.st.T).length + 10)) = t
      cases hw : (m.writes (regAt m.disk.length (1 - m.st.reg)) t).1 with
      | false =>
        obtain ⟨qs, rs, e1, e2, e3⟩ := writes_no hu hg.way hw
        rw [if_neg (by decide), e3]
        exact ⟨rfl, rfl, rfl, rfl, rfl, rfl, fun _ => rfl⟩
      | true =>
        rw [if_pos rfl]
        have ew := writes_yes hu hw
        generalize (m.writes (regAt m.disk.length (1 - m.st.reg)) t).2 = m1 at *
        have hup1 : m1.down = false := by rw [ew]; exact hu
        have hway1 : m1.way = [] := by rw [ew]
        cases hw2 : (m1.writes (32 * (1 - m.st.slot)) (sectB (m.st.gen + 1) (1 - m.st.reg))).1 with
        | false =>
          obtain ⟨qs, rs, e1, e2, e3⟩ := writes_no hup1 hway1 hw2
          rw [if_neg (by decide), e3, ew]
          exact ⟨rfl, rfl, rfl, rfl, rfl, rfl, fun _ => rfl⟩
        | true =>
          rw [if_pos rfl, writes_yes hup1 hw2, ew]
          exact ⟨rfl, rfl, rfl, rfl, rfl, rfl, fun x => by cases x⟩
  obtain ⟨k1, k2, k3, k4, k5, k6, k7⟩ := key
  refine ⟨⟨fun hd => ?_, by rw [k6]; exact h.wf, by rw [k1]; exact h.secret, by rw [k2]; exact h.idle, by rw [k3]; exact h.abs, by rw [k4]; exact h.now, by rw [k5]; exact h.drawn⟩, fun db jb sb => ?_, k6⟩
  · rcases ho with o | o
    · rw [k7 o.1] at hd; cases hd
    · exact o.2.1
  · unfold kepA
    rw [k1, k2, k3, k4, k5]
set_option maxRecDepth 20000 in
set_option maxHeartbeats 1000000 in
theorem kcompact_any (B kb : Nat) (F : Nat → Prop) (m : Kp) (G : Gl) (w : World) (h : KAt w B kb F m) (hG : Glob B G w) :
    Calls Tryz.prog 34 #[.pointer (some ⟨kb, 0, none⟩)] w fun e w' => e = .returned (.int .i64 m.compact.1) ∧ KTo w B kb F m.compact.2 w' := by
  obtain ⟨db, jb, sb, mb, f, D, sl, Fd, d, hp, hF⟩ := h
  have HP : Hid (KeepP w B kb db jb sb mb f D sl Fd m d) := hp
  have HF : Hid (∀ b, F b ↔ kfoot kb jb sb mb f sl Fd b) := hF
  have HG : Hid (Glob B G w) := hG
  have HDN : Hid (Calls Tryz.prog 54 #[.pointer (some ⟨db, 0, none⟩)] w fun e w'' => e = .returned (.bool m.down) ∧ w'' = w) := kdown_drv hp (Below.refl _ _)
  have k0 := Blk.cell hp.blk 0
  have k1 := Blk.cell hp.blk 1
  have k2 := Blk.cell hp.blk 2
  simp only [kepA, List.getElem?_toArray, List.getElem?_cons_zero, List.getElem?_cons_succ] at k0 k1 k2
  by_cases hd : m.down = true
  · have HE : Hid (m.compact = (4, m)) := by
      show _ = _
      unfold Kp.compact
      exact if_pos hd
    clear hp hF hG
    go_enter Tryz.func34, Tryz.ntmps34
    go_wp2_with fail
    refine HDN.out.mono ?_
    rintro e w' ⟨rfl, rfl⟩
    rw [hd]
    clear hd HDN
    go_wp2_with fail
    go_ret
    rw [HE.out]
    exact ⟨rfl, KTo.same ⟨db, jb, sb, mb, f, D, sl, Fd, d, HP.out, HF.out⟩⟩
  · have hu : m.down = false := Bool.eq_false_iff.2 hd
    have hFA := compact_facts hp.ok hu
    obtain ⟨v, hv⟩ : ∃ v, v = jerrV G m.compact.1 := ⟨_, rfl⟩
    have hpd : KeepP w.drew B kb db jb sb mb f D sl Fd m d := hp.kept ((Fr.refl (fun _ => False) w).drew) (fun _ _ h => h)
    have HPD : Hid (KeepP w.drew B kb db jb sb mb f D sl Fd m d) := hpd
    have hGd : Glob B G w.drew := hG.drew
    have HJC : Hid (Calls Tryz.prog 71 #[.pointer (some ⟨jb, 0, none⟩), .pointer (some ⟨sb, 0, none⟩)] w.drew fun e w' => e = .returned v ∧ DJTo w.drew B db jb Fd m.compact.2 w') := by
      rw [hv]; exact jcompact_any jb db sb mb B Fd f D sl d m G w.drew hpd.dj (hp.ok.good hu) hpd.tab hGd
    have HER : Hid (∀ w', DJTo w.drew B db jb Fd m.compact.2 w' → Calls Tryz.prog 70 #[v] w' fun x w'' => x = .returned (.int .i64 m.compact.1) ∧ w'' = w') := fun w' hd => by
      obtain ⟨Fd', d', hk2, hdj2, ht2, hkd2, hft2, hfr2, hn2⟩ := keep_wrote hpd hd hFA.2.1
      have hg : Glob B G w' := hGd.fr hfr2 (fun b hb => (hpd.dj.foot hb).1)
      rw [hv]; exact errno_any B G _ w' hg (compact_codes m)
    have HFA : Hid (_ ∧ _ ∧ _) := hFA
    clear hp hF hG hd hv hpd hGd hFA
    generalize m.compact = C at *
    go_enter Tryz.func34, Tryz.ntmps34
    go_wp2_with fail
    refine HDN.out.mono ?_
    rintro e w' ⟨rfl, rfl⟩
    rw [hu]
    clear hu HDN
    go_wp2_with fail
    go_region_with (first
      | (go_at_call 71; refine HJC.out.mono ?_; rintro e w1 ⟨rfl, hd1⟩)
      | (go_at_call 70; refine (HER.out _ (by assumption)).mono ?_; rintro e w3 ⟨rfl, hw3⟩; subst w3))
    all_goals
      obtain ⟨Fd', d', hk2, hdj2, ht2, hkd2, hft2, hfr2, hn2⟩ := keep_wrote HPD.out hd1 HFA.out.2.1
      have HE : Hid (KTo w' B kb F C.2 w1) := by
        have hq : ∀ b, foot sb mb f sl b → ¬ Fd' b := fun b hb => (hft2 b hb).1
        have ht3' : TabAt w1 sb C.2.st.T mb f D sl := by rw [HFA.out.2.2]; exact ht2
        exact keep_close HP.out HF.out HG.out.le hk2 hdj2 hq hkd2.1 (((Fr.refl _ w').drew).trans hfr2 (fun _ _ h => h)) hn2 ht3' (Fr.refl _ w1) (fun _ h => Or.inl h) HFA.out.1
      clear hd1 hk2 hdj2 ht2 hkd2 hft2 hfr2 hn2 k0 k1 k2 HJC
      go_wp2_with fail
      go_ret
      exact ⟨rfl, HE.out⟩
theorem scompact (w0 : World) (B kb : Nat) (m : Kp) (G : Gl) (w : World) (h : Kst w0 B kb m w) (hG : Glob B G w0) :
    Calls Tryz.prog 34 #[.pointer (some ⟨kb, 0, none⟩)] w fun e w' => e = .returned (.int .i64 m.compact.1) ∧ Kst w0 B kb m.compact.2 w' := by
  obtain ⟨F, ha, hw, hF⟩ := h
  exact (kcompact_any B kb F m G w ha (DigitsBelow hG hw)).mono fun e w' hh => ⟨hh.1, Kst.to hw hF hh.2⟩
end Go.Proofs.YtmnajomkfnkmeaaGreatDoor
