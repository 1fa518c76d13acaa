import Derived.Test.YtmnajomkfnkmeaaGreatDoorCpt
import Derived.Test.YtmnajomkfnkmeaaGreatDoorKeep2
import Derived.Deep.RegionWith
import Derived.Test.YtmnajomkfnkmeaaGreatDoorFr
namespace Go.Proofs.YtmnajomkfnkmeaaGreatDoor
open Go.RowKit
/-! A SLICE THAT GROWS, its elements of k cells each -/
def flatV {α : Type} (enc : α → List Value) (l : List α) : List Value := (l.map enc).flatten
theorem flatV_length {α : Type} {enc : α → List Value} {k : Nat} (hk : ∀ x, (enc x).length = k) (l : List α) : (flatV enc l).length = l.length * k := by
  induction l with
  | nil => simp [flatV]
  | cons a l ih =>
    have : flatV enc (a :: l) = enc a ++ flatV enc l := rfl
    rw [this, List.length_append, hk, ih, List.length_cons, Nat.succ_mul]; omega
theorem flatV_snoc {α : Type} (enc : α → List Value) (l : List α) (x : α) : flatV enc (l ++ [x]) = flatV enc l ++ enc x := by simp [flatV]
theorem flatV_get {α : Type} {enc : α → List Value} {k : Nat} (hk : ∀ x, (enc x).length = k) : ∀ (l : List α) (i : Nat) (hi : i < l.length) (j : Nat), j < k → (flatV enc l)[i * k + j]? = (enc l[i])[j]?
  | a :: l, 0, _, j, hj => by
    have : flatV enc (a :: l) = enc a ++ flatV enc l := rfl
    rw [this, Nat.zero_mul, Nat.zero_add, List.getElem?_append_left (by rw [hk]; exact hj)]
    rfl
  | a :: l, i + 1, hi, j, hj => by
    have : flatV enc (a :: l) = enc a ++ flatV enc l := rfl
    rw [this, List.getElem?_append_right (by rw [hk, Nat.succ_mul]; omega), hk, show (i + 1) * k + j - k = i * k + j by rw [Nat.succ_mul]; omega]
    exact flatV_get hk l i (by simpa using hi) j hj
def Own {α : Type} (w : World) (t : TypeId) (k : Nat) (enc : α → List Value) (s : Value) (l : List α) : Prop := w.ownsRow 0 t k s l.length (flatV enc l)
theorem Own.cases {α : Type} {w : World} {t : TypeId} {k : Nat} {enc : α → List Value} {s : Value} {l : List α} (h : Own w t k enc s l) : (s = .slice none 0 0 ∧ l = []) ∨
    ∃ (q cap : Nat), s = .slice (some ⟨q, 0, none⟩) l.length cap ∧ q < w.heap.size ∧ l.length ≤ cap ∧ cap ≤ maxLen := by
  rcases h.2 with ⟨h1, h2⟩ | ⟨q, cap, cur, h1, _, h3, h4, h5, h6, h7⟩
  · exact Or.inl ⟨h1, List.eq_nil_of_length_eq_zero h2⟩
  · exact Or.inr ⟨q, cap, h1, (Array.getElem?_eq_some_iff.1 h3).1, h4, h5⟩
theorem Own.nil {α : Type} (w : World) (t : TypeId) (k : Nat) (enc : α → List Value) : Own w t k enc (.slice none 0 0) [] := World.ownsRow_nil w 0 t k
theorem Own.kept {α : Type} {S : Nat → Prop} {w w' : World} {t : TypeId} {k : Nat} {enc : α → List Value} {s : Value} {l : List α} (h : Own w t k enc s l) (hf : Fr S w w') (hs : ∀ b, s.ownBlock = some b → ¬ S b) : Own w' t k enc s l := by
  refine ⟨h.1, ?_⟩
  rcases h.2 with ⟨h1, h2⟩ | ⟨q, cap, cur, rfl, h2, h3, h4, h5, h6, h7⟩
  · exact Or.inl ⟨h1, h2⟩
  · exact Or.inr ⟨q, cap, cur, rfl, h2, (hf.block q (Array.getElem?_eq_some_iff.1 h3).1 (hs q rfl)).trans h3, h4, h5, h6, h7⟩
theorem Own.below {α : Type} {w w' : World} {t : TypeId} {k : Nat} {enc : α → List Value} {s : Value} {l : List α} (h : Own w t k enc s l) (hb : Below w.heap.size w w') : Own w' t k enc s l := h.kept (S := fun _ => False) (Fr.of_below hb) (fun _ _ h => h)
theorem Own.lt {α : Type} {w : World} {t : TypeId} {k : Nat} {enc : α → List Value} {s : Value} {l : List α} (h : Own w t k enc s l) {b : Nat} (hb : s.ownBlock = some b) : b < w.heap.size := (World.ownsRow.lt h b hb).2
theorem Own.cell {α : Type} {w : World} {t : TypeId} {k : Nat} {enc : α → List Value} (hk : ∀ x, (enc x).length = k) {q n cap : Nat} {l : List α} (h : Own w t k enc (.slice (some ⟨q, 0, none⟩) n cap) l) (i : Nat) (hi : i < l.length) (j : Nat) (hj : j < k) : w.cell? ⟨q, i * k + j, none⟩ = (enc l[i])[j]? := by
  have hn : n = l.length := by
    rcases h.cases with ⟨h, _⟩ | ⟨q', cap', e, _⟩
    · cases h
    · simp only [Value.slice.injEq] at e; exact e.2.1
  subst hn
  rw [World.ownsRow.cellAt h (i * k + j) (by
    have : (i + 1) * k ≤ l.length * k := Nat.mul_le_mul_right k hi
    rw [Nat.succ_mul] at this; omega)]
  exact flatV_get hk l i hi j hj
theorem Own.pushed {α : Type} {w' : World} {t : TypeId} {k : Nat} {enc : α → List Value} {s : Value} {n : Nat} {l : List α} {x : α} (hn : l.length = n) (ho : w'.ownsRow 0 t k s (n + 1) (flatV enc l ++ enc x)) : Own w' t k enc s (l ++ [x]) := by
  unfold Own
  rw [List.length_append, List.length_singleton, hn, flatV_snoc]
  exact ho
theorem Own.lit {α : Type} {w : World} {t : TypeId} {k : Nat} {enc : α → List Value} {l : List α} {cs : Array Value} {n : Nat} (hk : ∀ x, (enc x).length = k) (hm : n ≤ maxLen) (hn : l.length = n) (hc : cs.toList = flatV enc l) : Own (w.alloc (.cells cs t)) t k enc (.slice (some ⟨w.heap.size, 0, none⟩) n n) l := by
  have hs : cs.size = n * k := by rw [← hn, ← flatV_length hk, ← hc, Array.length_toList]
  have := World.ownsRow_lit (base := 0) (e := t) (size := k) w cs n (Nat.zero_le _) hm hs
  unfold Own
  rw [hn, ← hc]
  exact this
/-- texts -/
def strV (s : Bs) : List Value := [.string (ofL s)]
theorem strV_length (s : Bs) : (strV s).length = 1 := rfl
abbrev SO (w : World) (s : Value) (l : List Bs) : Prop := Own w 9 1 strV s l
theorem SO.cell {w : World} {q n cap : Nat} {l : List Bs} (h : SO w (.slice (some ⟨q, 0, none⟩) n cap) l) (i : Nat) (hi : i < l.length) : w.cell? ⟨q, i, none⟩ = some (.string (ofL l[i])) := by
  have := Own.cell strV_length h i hi 0 (by decide)
  rw [Nat.mul_one, Nat.add_zero] at this
  rw [this]; rfl
theorem info_str : (Tryz.prog.info? 9).map (fun i => (i.zero, i.size, i.bytes)) = some (some (.string ByteArray.empty), 1, 16) := by kernel_rfl
end Go.Proofs.YtmnajomkfnkmeaaGreatDoor
namespace Go.Proofs.YtmnajomkfnkmeaaGreatDoor
open Go.RowKit Go.Conc
attribute [local go_sem] ofL_size
/-! Keeper.Compact; keep.act -/
theorem compact_codes (m : Kp) : m.compact.1 = 0 ∨ m.compact.1 = 4 ∨ m.compact.1 = 9 := by
  unfold Kp.compact
  split
  · exact Or.inr (Or.inl rfl)
  split
  · exact Or.inr (Or.inr rfl)
  simp only
  split
  · split
    · exact Or.inl rfl
    · exact Or.inr (Or.inl rfl)
  · exact Or.inr (Or.inl rfl)
theorem compact_facts {m : Kp} (h : MOK m) (hu : m.down = false) :
    MOK m.compact.2 ∧ (∀ db jb sb, kepA db jb sb m.compact.2 = kepA db jb sb m) ∧ m.compact.2.st.T = m.st.T := by
  have hg := h.good hu
  have ho := (compact_out hg).1
  have key : m.compact.2.secret = m.secret ∧ m.compact.2.idle = m.idle ∧ m.compact.2.abs = m.abs ∧ m.compact.2.now = m.now ∧ m.compact.2.drawn = m.drawn ∧ m.compact.2.st.T = m.st.T ∧ (m.compact.1 = 4 → m.compact.2.down = true) := by
    unfold Kp.compact
    rw [if_neg (by rw [hu]; decide)]
    split
    · exact ⟨rfl, rfl, rfl, rfl, rfl, rfl, fun x => by cases x⟩
    · simp only
      generalize recB (m.st.gen + 1) 0 (snapB m.st.T) ++ zeros (halfN m.disk.length - ((snapB m.st.T).length + 10)) = t
      cases hw : (m.writes (regAt m.disk.length (1 - m.st.reg)) t).1 with
      | false =>
        obtain ⟨qs, rs, e1, e2, e3⟩ := writes_no hu hg.way hw
        rw [if_neg (by decide), e3]
        exact ⟨rfl, rfl, rfl, rfl, rfl, rfl, fun _ => rfl⟩
      | true =>
        rw [if_pos rfl]
        have ew := writes_yes hu hw
        generalize (m.writes (regAt m.disk.length (1 - m.st.reg)) t).2 = m1 at *
        have hup1 : m1.down = false := by rw [ew]; exact hu
        have hway1 : m1.way = [] := by rw [ew]
        cases hw2 : (m1.writes (32 * (1 - m.st.slot)) (sectB (m.st.gen + 1) (1 - m.st.reg))).1 with
        | false =>
          obtain ⟨qs, rs, e1, e2, e3⟩ := writes_no hup1 hway1 hw2
          rw [if_neg (by decide), e3, ew]
          exact ⟨rfl, rfl, rfl, rfl, rfl, rfl, fun _ => rfl⟩
        | true =>
          rw [if_pos rfl, writes_yes hup1 hw2, ew]
          exact ⟨rfl, rfl, rfl, rfl, rfl, rfl, fun x => by cases x⟩
  obtain ⟨k1, k2, k3, k4, k5, k6, k7⟩ := key
  refine ⟨⟨fun hd => ?_, by rw [k6]; exact h.wf, by rw [k1]; exact h.secret, by rw [k2]; exact h.idle, by rw [k3]; exact h.abs, by rw [k4]; exact h.now, by rw [k5]; exact h.drawn⟩, fun db jb sb => ?_, k6⟩
  · rcases ho with o | o
    · rw [k7 o.1] at hd; cases hd
    · exact o.2.1
  · unfold kepA
    rw [k1, k2, k3, k4, k5]
set_option maxRecDepth 20000 in
set_option maxHeartbeats 1000000 in
theorem kcompact_any (B kb : Nat) (F : Nat → Prop) (m : Kp) (G : Gl) (w : World) (h : KAt w B kb F m) (hG : Glob B G w) :
    Calls Tryz.prog 34 #[.pointer (some ⟨kb, 0, none⟩)] w fun e w' => e = .returned (.int .i64 m.compact.1) ∧ KTo w B kb F m.compact.2 w' := by
  obtain ⟨db, jb, sb, mb, f, D, sl, Fd, d, hp, hF⟩ := h
  have HP : Hid (KeepP w B kb db jb sb mb f D sl Fd m d) := hp
  have HF : Hid (∀ b, F b ↔ kfoot kb jb sb mb f sl Fd b) := hF
  have HG : Hid (Glob B G w) := hG
  have HDN : Hid (Calls Tryz.prog 54 #[.pointer (some ⟨db, 0, none⟩)] w fun e w'' => e = .returned (.bool m.down) ∧ w'' = w) := kdown_drv hp (Below.refl _ _)
  have k0 := Blk.cell hp.blk 0
  have k1 := Blk.cell hp.blk 1
  have k2 := Blk.cell hp.blk 2
  simp only [kepA, List.getElem?_toArray, List.getElem?_cons_zero, List.getElem?_cons_succ] at k0 k1 k2
  by_cases hd : m.down = true
  · have HE : Hid (m.compact = (4, m)) := by
      show _ = _
      unfold Kp.compact
      exact if_pos hd
    clear hp hF hG
    go_enter Tryz.func34, Tryz.ntmps34
    go_wp2_with fail
    refine HDN.out.mono ?_
    rintro e w' ⟨rfl, rfl⟩
    rw [hd]
    clear hd HDN
    go_wp2_with fail
    go_ret
    rw [HE.out]
    exact ⟨rfl, KTo.same ⟨db, jb, sb, mb, f, D, sl, Fd, d, HP.out, HF.out⟩⟩
  · have hu : m.down = false := Bool.eq_false_iff.2 hd
    have hFA := compact_facts hp.ok hu
    obtain ⟨v, hv⟩ : ∃ v, v = jerrV G m.compact.1 := ⟨_, rfl⟩
    have hpd : KeepP w.drew B kb db jb sb mb f D sl Fd m d := hp.kept ((Fr.refl (fun _ => False) w).drew) (fun _ _ h => h)
    have HPD : Hid (KeepP w.drew B kb db jb sb mb f D sl Fd m d) := hpd
    have hGd : Glob B G w.drew := hG.drew
    have HJC : Hid (Calls Tryz.prog 71 #[.pointer (some ⟨jb, 0, none⟩), .pointer (some ⟨sb, 0, none⟩)] w.drew fun e w' => e = .returned v ∧ DJTo w.drew B db jb Fd m.compact.2 w') := by
      rw [hv]; exact jcompact_any jb db sb mb B Fd f D sl d m G w.drew hpd.dj (hp.ok.good hu) hpd.tab hGd
    have HER : Hid (∀ w', DJTo w.drew B db jb Fd m.compact.2 w' → Calls Tryz.prog 70 #[v] w' fun x w'' => x = .returned (.int .i64 m.compact.1) ∧ w'' = w') := fun w' hd => by
      obtain ⟨Fd', d', hk2, hdj2, ht2, hkd2, hft2, hfr2, hn2⟩ := keep_wrote hpd hd hFA.2.1
      have hg : Glob B G w' := hGd.fr hfr2 (fun b hb => (hpd.dj.foot hb).1)
      rw [hv]; exact errno_any B G _ w' hg (compact_codes m)
    have HFA : Hid (_ ∧ _ ∧ _) := hFA
    clear hp hF hG hd hv hpd hGd hFA
    generalize m.compact = C at *
    go_enter Tryz.func34, Tryz.ntmps34
    go_wp2_with fail
    refine HDN.out.mono ?_
    rintro e w' ⟨rfl, rfl⟩
    rw [hu]
    clear hu HDN
    go_wp2_with fail
    go_region_with (first
      | (go_at_call 71; refine HJC.out.mono ?_; rintro e w1 ⟨rfl, hd1⟩)
      | (go_at_call 70; refine (HER.out _ (by assumption)).mono ?_; rintro e w3 ⟨rfl, hw3⟩; subst w3))
    all_goals
      obtain ⟨Fd', d', hk2, hdj2, ht2, hkd2, hft2, hfr2, hn2⟩ := keep_wrote HPD.out hd1 HFA.out.2.1
      have HE : Hid (KTo w' B kb F C.2 w1) := by
        have hq : ∀ b, foot sb mb f sl b → ¬ Fd' b := fun b hb => (hft2 b hb).1
        have ht3' : TabAt w1 sb C.2.st.T mb f D sl := by rw [HFA.out.2.2]; exact ht2
        exact keep_close HP.out HF.out HG.out.le hk2 hdj2 hq hkd2.1 (((Fr.refl _ w').drew).trans hfr2 (fun _ _ h => h)) hn2 ht3' (Fr.refl _ w1) (fun _ h => Or.inl h) HFA.out.1
      clear hd1 hk2 hdj2 ht2 hkd2 hft2 hfr2 hn2 k0 k1 k2 HJC
      go_wp2_with fail
      go_ret
      exact ⟨rfl, HE.out⟩
theorem scompact (w0 : World) (B kb : Nat) (m : Kp) (G : Gl) (w : World) (h : Kst w0 B kb m w) (hG : Glob B G w0) :
    Calls Tryz.prog 34 #[.pointer (some ⟨kb, 0, none⟩)] w fun e w' => e = .returned (.int .i64 m.compact.1) ∧ Kst w0 B kb m.compact.2 w' := by
  obtain ⟨F, ha, hw, hF⟩ := h
  exact (kcompact_any B kb F m G w ha (DigitsBelow hG hw)).mono fun e w' hh => ⟨hh.1, Kst.to hw hF hh.2⟩
end Go.Proofs.YtmnajomkfnkmeaaGreatDoor
namespace Go.Proofs.YtmnajomkfnkmeaaGreatDoor
open Go.RowKit Go.Conc
attribute [local go_sem] ofL_size
/-! a keeper, and blocks besides it that stay as they are -/
def ownX (s : Value) : Nat → Prop := fun b => s.ownBlock = some b
def Stay (X : Nat → Prop) (w w' : World) : Prop := ∀ b, X b → w'.heap[b]? = w.heap[b]?
theorem Stay.refl (X : Nat → Prop) (w : World) : Stay X w w := fun _ _ => rfl
theorem Stay.trans {X : Nat → Prop} {a b c : World} (h : Stay X a b) (k : Stay X b c) : Stay X a c := fun i hi => (k i hi).trans (h i hi)
theorem Stay.sub {X Y : Nat → Prop} {a b : World} (h : Stay X a b) (hs : ∀ i, Y i → X i) : Stay Y a b := fun i hi => h i (hs i hi)
theorem Stay.of_below {X : Nat → Prop} {a b : World} (h : Below a.heap.size a b) (hx : ∀ i, X i → i < a.heap.size) : Stay X a b := fun i hi => h.block i (hx i hi)
theorem Own.stay {α : Type} {w w' : World} {t : TypeId} {k : Nat} {enc : α → List Value} {s : Value} {l : List α} (h : Own w t k enc s l) (hs : Stay (ownX s) w w') : Own w' t k enc s l := by
  refine ⟨h.1, ?_⟩
  rcases h.2 with ⟨h1, h2⟩ | ⟨q, cap, cur, rfl, h2, h3, h4, h5, h6, h7⟩
  · exact Or.inl ⟨h1, h2⟩
  · exact Or.inr ⟨q, cap, cur, rfl, h2, (hs q rfl).trans h3, h4, h5, h6, h7⟩
def Ka (w0 : World) (B kb : Nat) (m : Kp) (X : Nat → Prop) (w : World) : Prop :=
  ∃ F, KAt w B kb F m ∧ Below w0.heap.size w0 w ∧ (∀ b, F b → w0.heap.size ≤ b) ∧ ∀ b, X b → w0.heap.size ≤ b ∧ b < w.heap.size ∧ ¬ F b
theorem Ka.wide {w0 w : World} {B kb : Nat} {m : Kp} {X : Nat → Prop} (h : Ka w0 B kb m X w) : Below w0.heap.size w0 w := by
  obtain ⟨F, _, hb, _⟩ := h
  exact hb
theorem Ka.lt {w0 w : World} {B kb : Nat} {m : Kp} {X : Nat → Prop} (h : Ka w0 B kb m X w) {b : Nat} (hb : X b) : w0.heap.size ≤ b ∧ b < w.heap.size := by
  obtain ⟨F, _, _, _, hX⟩ := h
  exact ⟨(hX b hb).1, (hX b hb).2.1⟩
theorem Ka.kst {w0 w : World} {B kb : Nat} {m : Kp} {X : Nat → Prop} (h : Ka w0 B kb m X w) : Kst w0 B kb m w := by
  obtain ⟨F, ha, hb, hF, _⟩ := h
  exact ⟨F, ha, hb, hF⟩
theorem Ka.of_kst {w0 w : World} {B kb : Nat} {m : Kp} (h : Kst w0 B kb m w) : Ka w0 B kb m (ownX (.slice none 0 0)) w := by
  obtain ⟨F, ha, hb, hF⟩ := h
  exact ⟨F, ha, hb, hF, fun b hb => by cases hb⟩
theorem Ka.below {w0 w w' : World} {B kb : Nat} {m : Kp} {X : Nat → Prop} (h : Ka w0 B kb m X w) (hb : Below w.heap.size w w') : Ka w0 B kb m X w' ∧ Stay X w w' := by
  obtain ⟨F, ha, hw, hF, hX⟩ := h
  exact ⟨⟨F, ha.below hb, bstep hw hb, hF, fun b h => ⟨(hX b h).1, Nat.lt_of_lt_of_le (hX b h).2.1 hb.size, (hX b h).2.2⟩⟩, Stay.of_below hb (fun i hi => (hX i hi).2.1)⟩
theorem Ka.to {w0 w w' : World} {B kb : Nat} {F X : Nat → Prop} {m' : Kp} (hw : Below w0.heap.size w0 w) (hF : ∀ b, F b → w0.heap.size ≤ b) (hX : ∀ b, X b → w0.heap.size ≤ b ∧ b < w.heap.size ∧ ¬ F b) (h : KTo w B kb F m' w') : Ka w0 B kb m' X w' ∧ Stay X w w' := by
  obtain ⟨F2, ha, hf, hn⟩ := h
  refine ⟨⟨F2, ha, hw.trans (hf.belowB hw.size hF), fun b hb => ?_, fun b hb => ⟨(hX b hb).1, Nat.lt_of_lt_of_le (hX b hb).2.1 hf.size, fun h => ?_⟩⟩, fun b hb => hf.block b (hX b hb).2.1 (hX b hb).2.2⟩
  · rcases hn b hb with h | h
    · exact hF b h
    · exact Nat.le_trans hw.size h
  · rcases hn b h with h | h
    · exact (hX b hb).2.2 h
    · have := (hX b hb).2.1; omega
/-- what was made besides, is besides -/
theorem Ka.more {w0 w w' : World} {B kb : Nat} {m : Kp} {X : Nat → Prop} (h : Ka w0 B kb m X w) (hb : Below w.heap.size w w') : Ka w0 B kb m (fun b => X b ∨ (w.heap.size ≤ b ∧ b < w'.heap.size)) w' := by
  obtain ⟨F, ha, hw, hF, hX⟩ := h
  refine ⟨F, ha.below hb, bstep hw hb, hF, fun b h => ?_⟩
  rcases h with h | h
  · exact ⟨(hX b h).1, Nat.lt_of_lt_of_le (hX b h).2.1 hb.size, (hX b h).2.2⟩
  · exact ⟨Nat.le_trans hw.size h.1, h.2, fun e => by have := (ha.foot e).2; omega⟩
theorem Ka.sub {w0 w : World} {B kb : Nat} {m : Kp} {X Y : Nat → Prop} (h : Ka w0 B kb m X w) (hs : ∀ b, Y b → X b) : Ka w0 B kb m Y w := by
  obtain ⟨F, ha, hb, hF, hX⟩ := h
  exact ⟨F, ha, hb, hF, fun b h => hX b (hs b h)⟩
/-- another keeper is opened -/
theorem Ka.opened {w0 w w' : World} {B kb : Nat} {m m' : Kp} {X : Nat → Prop} {e : Ending} (h : Ka w0 B kb m X w) (ho : okTo w B (some m') e w') : ∃ kb', e = .returned (.pointer (some ⟨kb', 0, none⟩)) ∧ Ka w0 B kb' m' X w' ∧ Stay X w w' := by
  obtain ⟨F, ha, hw, hF, hX⟩ := h
  obtain ⟨kb', F', he, hk, hb, hF'⟩ := ho
  refine ⟨kb', he, ⟨F', hk, bstep hw hb, fun b hb' => Nat.le_trans hw.size (hF' b hb'), fun b h => ⟨(hX b h).1, Nat.lt_of_lt_of_le (hX b h).2.1 hb.size, fun e => ?_⟩⟩, Stay.of_below hb (fun i hi => (hX i hi).2.1)⟩
  have h1 := hF' b e
  have h2 := (hX b h).2.1
  omega
/-- a slice of its own has grown -/
theorem Ka.pushed {w0 w w2 : World} {B kb : Nat} {m : Kp} {s : Value} {o : Obj} {g : Nat} (h : Ka w0 B kb m (ownX s) w) (hgr : (w.alloc o).grownBy w2 s.ownBlock) (hloc : s.ownBlock = some g ∨ g = (w.alloc o).heap.size) (hlt : g < w2.heap.size) :
    Ka w0 B kb m (fun b => b = g) w2 := by
  obtain ⟨F, ha, hw, hF, hX⟩ := h
  have hf1 : Fr (fun b => s.ownBlock = some b) w (w.alloc o) := Fr.of_below ((Below.refl _ _).alloc (Nat.le_refl _) _)
  have hf : Fr (fun b => s.ownBlock = some b) w w2 := hf1.grown hgr (fun k hk _ => hk)
  have hs : (w.alloc o).heap.size = w.heap.size + 1 := by simp
  refine ⟨F, ha.kept hf (fun b hb e => (hX b e).2.2 hb), ⟨hf.os.trans hw.os, hf.tape.trans hw.tape, hf.output.trans hw.output, Nat.le_trans hw.size hf.size, fun i hi => (hf.block i (Nat.lt_of_lt_of_le hi hw.size) (fun e => by have := (hX i e).1; omega)).trans (hw.block i hi)⟩, hF, fun b hb => ?_⟩
  subst hb
  refine ⟨?_, hlt, fun e => ?_⟩
  · rcases hloc with h | h
    · exact (hX b h).1
    · have := hw.size; omega
  · have := (ha.foot e).2
    rcases hloc with h | h
    · exact (hX b h).2.2 e
    · omega
/-! its calls -/
theorem alogin (w0 : World) (B kb : Nat) (m : Kp) (X : Nat → Prop) (G : Gl) (u : Int) (w : World) (h : Ka w0 B kb m X w) (hG : Glob B G w0) :
    Calls Tryz.prog 19 #[.pointer (some ⟨kb, 0, none⟩), .int .i64 u] w fun e w' => e = .returned (.tuple #[.string (ofL (m.login u).1), .int .i64 (m.login u).2.1]) ∧ Ka w0 B kb (m.login u).2.2 X w' ∧ Stay X w w' := by
  obtain ⟨F, ha, hw, hF, hX⟩ := h
  exact (klogin_any B kb F m G u w ha (DigitsBelow hG hw)).mono fun e w' hh => ⟨hh.1, Ka.to hw hF hX hh.2⟩
theorem atouch (w0 : World) (B kb : Nat) (m : Kp) (X : Nat → Prop) (G : Gl) (p : Bs) (w : World) (h : Ka w0 B kb m X w) (hp : p.length ≤ 9223372036854775000) (hG : Glob B G w0) :
    Calls Tryz.prog 21 #[.pointer (some ⟨kb, 0, none⟩), .string (ofL p)] w fun e w' => e = .returned (.int .i64 (m.touch p).1) ∧ Ka w0 B kb (m.touch p).2 X w' ∧ Stay X w w' := by
  obtain ⟨F, ha, hw, hF, hX⟩ := h
  exact (ktouch_any B kb F m G p w ha hp (DigitsBelow hG hw)).mono fun e w' hh => ⟨hh.1, Ka.to hw hF hX hh.2⟩
theorem alogout (w0 : World) (B kb : Nat) (m : Kp) (X : Nat → Prop) (G : Gl) (p : Bs) (w : World) (h : Ka w0 B kb m X w) (hp : p.length ≤ 9223372036854775000) (hG : Glob B G w0) :
    Calls Tryz.prog 28 #[.pointer (some ⟨kb, 0, none⟩), .string (ofL p)] w fun e w' => e = .returned (.int .i64 (m.logout p).1) ∧ Ka w0 B kb (m.logout p).2 X w' ∧ Stay X w w' := by
  obtain ⟨F, ha, hw, hF, hX⟩ := h
  exact (klogout_any B kb F m G p w ha hp (DigitsBelow hG hw)).mono fun e w' hh => ⟨hh.1, Ka.to hw hF hX hh.2⟩
theorem arotate (w0 : World) (B kb : Nat) (m : Kp) (X : Nat → Prop) (G : Gl) (p : Bs) (w : World) (h : Ka w0 B kb m X w) (hp : p.length ≤ 9223372036854775000) (hG : Glob B G w0) :
    Calls Tryz.prog 29 #[.pointer (some ⟨kb, 0, none⟩), .string (ofL p)] w fun e w' => e = .returned (.tuple #[.string (ofL (m.rotate p).1), .int .i64 (m.rotate p).2.1]) ∧ Ka w0 B kb (m.rotate p).2.2 X w' ∧ Stay X w w' := by
  obtain ⟨F, ha, hw, hF, hX⟩ := h
  exact (krotate_any B kb F m G p w ha hp (DigitsBelow hG hw)).mono fun e w' hh => ⟨hh.1, Ka.to hw hF hX hh.2⟩
theorem aset (w0 : World) (B kb : Nat) (m : Kp) (X : Nat → Prop) (G : Gl) (p n v : Bs) (w : World) (h : Ka w0 B kb m X w) (hp : p.length ≤ 9223372036854775000) (hn : n.length ≤ 9223372036854775000) (hv : v.length ≤ 9223372036854775000) (hG : Glob B G w0) :
    Calls Tryz.prog 32 #[.pointer (some ⟨kb, 0, none⟩), .string (ofL p), .string (ofL n), .string (ofL v)] w fun e w' => e = .returned (.int .i64 (m.set p n v).1) ∧ Ka w0 B kb (m.set p n v).2 X w' ∧ Stay X w w' := by
  obtain ⟨F, ha, hw, hF, hX⟩ := h
  exact (kset_any B kb F m G p n v w ha hp hn hv (DigitsBelow hG hw)).mono fun e w' hh => ⟨hh.1, Ka.to hw hF hX hh.2⟩
theorem aoutall (w0 : World) (B kb : Nat) (m : Kp) (X : Nat → Prop) (G : Gl) (u : Int) (w : World) (h : Ka w0 B kb m X w) (hG : Glob B G w0) :
    Calls Tryz.prog 30 #[.pointer (some ⟨kb, 0, none⟩), .int .i64 u] w fun e w' => e = .returned (.tuple #[.int .i64 (m.logoutAll u).1, .int .i64 (m.logoutAll u).2.1]) ∧ Ka w0 B kb (m.logoutAll u).2.2 X w' ∧ Stay X w w' := by
  obtain ⟨F, ha, hw, hF, hX⟩ := h
  exact (klogoutAll_any B kb F m G u w ha (DigitsBelow hG hw)).mono fun e w' hh => ⟨hh.1, Ka.to hw hF hX hh.2⟩
theorem acompact (w0 : World) (B kb : Nat) (m : Kp) (X : Nat → Prop) (G : Gl) (w : World) (h : Ka w0 B kb m X w) (hG : Glob B G w0) :
    Calls Tryz.prog 34 #[.pointer (some ⟨kb, 0, none⟩)] w fun e w' => e = .returned (.int .i64 m.compact.1) ∧ Ka w0 B kb m.compact.2 X w' ∧ Stay X w w' := by
  obtain ⟨F, ha, hw, hF, hX⟩ := h
  exact (kcompact_any B kb F m G w ha (DigitsBelow hG hw)).mono fun e w' hh => ⟨hh.1, Ka.to hw hF hX hh.2⟩
theorem aget (w0 : World) (B kb : Nat) (m : Kp) (X : Nat → Prop) (G : Gl) (p n : Bs) (w : World) (h : Ka w0 B kb m X w) (hp : p.length ≤ 9223372036854775000) (hG : Glob B G w0) :
    Calls Tryz.prog 27 #[.pointer (some ⟨kb, 0, none⟩), .string (ofL p), .string (ofL n)] w fun e w' => e = .returned (.tuple #[.string (ofL (m.get p n).1), .int .i64 (m.get p n).2]) ∧ Ka w0 B kb m X w' ∧ Stay X w w' := by
  exact (sget w0 B kb m G p n w h.kst hp hG).mono fun e w' hh => ⟨hh.1, (h.below hh.2.2).1, (h.below hh.2.2).2⟩
theorem aleft (w0 : World) (B kb : Nat) (m : Kp) (X : Nat → Prop) (keep torn part : Int) (w : World) (h : Ka w0 B kb m X w) (h0 : -9223372036854775808 ≤ keep ∧ keep ≤ 9223372036854775807) (h2 : -9223372036854775808 ≤ part ∧ part ≤ 9223372036854775807) :
    Calls Tryz.prog 23 #[.pointer (some ⟨kb, 0, none⟩), .int .i64 keep, .int .i64 torn, .int .i64 part] w fun e w' => e = .returned (.string (ofL (m.left keep torn part))) ∧ Ka w0 B kb m X w' ∧ Stay X w w' := by
  exact (sleft w0 B kb m keep torn part w h.kst h0 h2).mono fun e w' hh => ⟨hh.1, (h.below hh.2.2).1, (h.below hh.2.2).2⟩
theorem aopened (w0 : World) (B kb : Nat) (m m' : Kp) (X : Nat → Prop) (G : Gl) (l : Bs) (c : Int) (long : Bool) (w : World) (h : Ka w0 B kb m X w) (hl : l.length ≤ 9223372036854775807) (hG : Glob B G w0) (hm : openK l (confK c long) = (0, some m')) :
    Calls Tryz.prog 24 #[.string (ofL l), cfgV (confK c long)] w fun e w' => ∃ kb', e = .returned (.pointer (some ⟨kb', 0, none⟩)) ∧ Ka w0 B kb' m' X w' ∧ Stay X w w' := by
  have := opened_any l (confK c long) B G w hl (by show (10 : Nat) ≤ _; decide) (DigitsBelow hG h.wide)
  rw [hm] at this
  exact this.mono fun e w' hh => h.opened hh
end Go.Proofs.YtmnajomkfnkmeaaGreatDoor
