import Derived.Test.YtmnajomkfnkmeaaGreatDoorCpt
import Derived.Test.YtmnajomkfnkmeaaGreatDoorKopA
import Derived.BigQuiet
import Derived.Deep.RegionHeld3
import Derived.Deep.RegionWith
import Derived.Test.YtmnajomkfnkmeaaGreatDoorNum
import Derived.Test.YtmnajomkfnkmeaaGreatDoorRefA
set_option maxRecDepth 20000
set_option maxHeartbeats 1000000
namespace Go.Proofs.YtmnajomkfnkmeaaGreatDoor
open Go.RowKit
def flatV {α : Type} (enc : α → List Value) (l : List α) : List Value := (l.map enc).flatten
theorem flatV_length {α : Type} {enc : α → List Value} {k : Nat} (hk : ∀ x, (enc x).length = k) (l : List α) : (flatV enc l).length = l.length * k := by
 induction l with
 | nil => simp [flatV]
 | cons a l ih =>
  have : flatV enc (a :: l) = enc a ++ flatV enc l := rfl;rw [this, List.length_append, hk, ih, List.length_cons, Nat.succ_mul]; omega
theorem flatV_snoc {α : Type} (enc : α → List Value) (l : List α) (x : α) : flatV enc (l ++ [x]) = flatV enc l ++ enc x := by simp [flatV]
theorem flatV_get {α : Type} {enc : α → List Value} {k : Nat} (hk : ∀ x, (enc x).length = k) : ∀ (l : List α) (i : Nat) (hi : i < l.length) (j : Nat), j < k → (flatV enc l)[i * k + j]? = (enc l[i])[j]?
 | a :: l, 0, _, j, hj => by
  have : flatV enc (a :: l) = enc a ++ flatV enc l := rfl;rw [this, Nat.zero_mul, Nat.zero_add, List.getElem?_append_left (by rw [hk]; exact hj)];rfl
 | a :: l, i + 1, hi, j, hj => by
  have : flatV enc (a :: l) = enc a ++ flatV enc l := rfl;rw [this, List.getElem?_append_right (by rw [hk, Nat.succ_mul]; omega), hk, show (i + 1) * k + j - k = i * k + j by rw [Nat.succ_mul]; omega];exact flatV_get hk l i (by simpa using hi) j hj
def Own {α : Type} (w : World) (t : TypeId) (k : Nat) (enc : α → List Value) (s : Value) (l : List α) : Prop := w.ownsRow 0 t k s l.length (flatV enc l)
theorem Own.cases {α : Type} {w : World} {t : TypeId} {k : Nat} {enc : α → List Value} {s : Value} {l : List α} (h : Own w t k enc s l) : (s = .slice none 0 0 ∧ l = []) ∨
  ∃ (q cap : Nat), s = .slice (some ⟨q, 0, none⟩) l.length cap ∧ q < w.heap.size ∧ l.length ≤ cap ∧ cap ≤ maxLen := by
 rcases h.2 with ⟨h1, h2⟩ | ⟨q, cap, cur, h1, _, h3, h4, h5, h6, h7⟩
 ·exact Or.inl ⟨h1, List.eq_nil_of_length_eq_zero h2⟩
 ·exact Or.inr ⟨q, cap, h1, (Array.getElem?_eq_some_iff.1 h3).1, h4, h5⟩
theorem Own.nil {α : Type} (w : World) (t : TypeId) (k : Nat) (enc : α → List Value) : Own w t k enc (.slice none 0 0) [] := World.ownsRow_nil w 0 t k
theorem Own.kept {α : Type} {S : Nat → Prop} {w w' : World} {t : TypeId} {k : Nat} {enc : α → List Value} {s : Value} {l : List α} (h : Own w t k enc s l) (hf : Fr S w w') (hs : ∀ b, s.ownBlock = some b → ¬ S b) : Own w' t k enc s l := by
 refine ⟨h.1, ?_⟩;rcases h.2 with ⟨h1, h2⟩ | ⟨q, cap, cur, rfl, h2, h3, h4, h5, h6, h7⟩
 ·exact Or.inl ⟨h1, h2⟩
 ·exact Or.inr ⟨q, cap, cur, rfl, h2, (hf.block q (Array.getElem?_eq_some_iff.1 h3).1 (hs q rfl)).trans h3, h4, h5, h6, h7⟩
theorem Own.below {α : Type} {w w' : World} {t : TypeId} {k : Nat} {enc : α → List Value} {s : Value} {l : List α} (h : Own w t k enc s l) (hb : Below w.heap.size w w') : Own w' t k enc s l := h.kept (S := fun _ => False) (Fr.of_below hb) (fun _ _ h => h)
theorem Own.lt {α : Type} {w : World} {t : TypeId} {k : Nat} {enc : α → List Value} {s : Value} {l : List α} (h : Own w t k enc s l) {b : Nat} (hb : s.ownBlock = some b) : b < w.heap.size := (World.ownsRow.lt h b hb).2
theorem Own.cell {α : Type} {w : World} {t : TypeId} {k : Nat} {enc : α → List Value} (hk : ∀ x, (enc x).length = k) {q n cap : Nat} {l : List α} (h : Own w t k enc (.slice (some ⟨q, 0, none⟩) n cap) l) (i : Nat) (hi : i < l.length) (j : Nat) (hj : j < k) : w.cell? ⟨q, i * k + j, none⟩ = (enc l[i])[j]? := by
 have hn : n = l.length := by
  rcases h.cases with ⟨h, _⟩ | ⟨q', cap', e, _⟩
  ·cases h
  ·simp only [Value.slice.injEq] at e; exact e.2.1
 subst hn;rw [World.ownsRow.cellAt h (i * k + j) (by
  have : (i + 1) * k ≤ l.length * k := Nat.mul_le_mul_right k hi
  rw [Nat.succ_mul] at this; omega)]
 exact flatV_get hk l i hi j hj
theorem Own.pushed {α : Type} {w' : World} {t : TypeId} {k : Nat} {enc : α → List Value} {s : Value} {n : Nat} {l : List α} {x : α} (hn : l.length = n) (ho : w'.ownsRow 0 t k s (n + 1) (flatV enc l ++ enc x)) : Own w' t k enc s (l ++ [x]) := by
 unfold Own;rw [List.length_append, List.length_singleton, hn, flatV_snoc];exact ho
theorem Own.lit {α : Type} {w : World} {t : TypeId} {k : Nat} {enc : α → List Value} {l : List α} {cs : Array Value} {n : Nat} (hk : ∀ x, (enc x).length = k) (hm : n ≤ maxLen) (hn : l.length = n) (hc : cs.toList = flatV enc l) : Own (w.alloc (.cells cs t)) t k enc (.slice (some ⟨w.heap.size, 0, none⟩) n n) l := by
 have hs : cs.size = n * k := by rw [← hn, ← flatV_length hk, ← hc, Array.length_toList]
 have := World.ownsRow_lit (base := 0) (e := t) (size := k) w cs n (Nat.zero_le _) hm hs;unfold Own;rw [hn, ← hc];exact this
def strV (s : Bs) : List Value := [.string (ofL s)]
theorem strV_length (s : Bs) : (strV s).length = 1 := rfl
abbrev SO (w : World) (s : Value) (l : List Bs) : Prop := Own w 9 1 strV s l
theorem SO.cell {w : World} {q n cap : Nat} {l : List Bs} (h : SO w (.slice (some ⟨q, 0, none⟩) n cap) l) (i : Nat) (hi : i < l.length) : w.cell? ⟨q, i, none⟩ = some (.string (ofL l[i])) := by
 have := Own.cell strV_length h i hi 0 (by decide);rw [Nat.mul_one, Nat.add_zero] at this;rw [this]; rfl
theorem info_str : (Tryz.prog.info? 9).map (fun i => (i.zero, i.size, i.bytes)) = some (some (.string ByteArray.empty), 1, 16) := by kernel_rfl
end Go.Proofs.YtmnajomkfnkmeaaGreatDoor
namespace Go.Proofs.YtmnajomkfnkmeaaGreatDoor
open Go.RowKit Go.Conc
attribute [local go_sem] ofL_size
theorem compact_codes (m : Kp) : m.compact.1 = 0 ∨ m.compact.1 = 4 ∨ m.compact.1 = 9 := by
 unfold Kp.compact;split
 ·exact Or.inr (Or.inl rfl)
 split
 ·exact Or.inr (Or.inr rfl)
 simp only;split
 ·split
  ·exact Or.inl rfl
  ·exact Or.inr (Or.inl rfl)
 ·exact Or.inr (Or.inl rfl)
theorem compact_facts {m : Kp} (h : MOK m) (hu : m.down = false) :
  MOK m.compact.2 ∧ (∀ db jb sb, kepA db jb sb m.compact.2 = kepA db jb sb m) ∧ m.compact.2.st.T = m.st.T := by
 have hg := h.good hu;have ho := (compact_out hg).1;have key : m.compact.2.secret = m.secret ∧ m.compact.2.idle = m.idle ∧ m.compact.2.abs = m.abs ∧ m.compact.2.now = m.now ∧ m.compact.2.drawn = m.drawn ∧ m.compact.2.st.T = m.st.T ∧ (m.compact.1 = 4 → m.compact.2.down = true) := by
  unfold Kp.compact;rw [if_neg (by rw [hu]; decide)];split
  ·exact ⟨rfl, rfl, rfl, rfl, rfl, rfl, fun x => by cases x⟩
  ·simp only;generalize recB (m.st.gen + 1) 0 (snapB m.st.T) ++ zeros (halfN m.disk.length - ((snapB m.st.T).length + 10)) = t;cases hw : (m.writes (regAt m.disk.length (1 - m.st.reg)) t).1 with
   | false =>
    obtain ⟨qs, rs, e1, e2, e3⟩ := writes_no hu hg.way hw;rw [if_neg (by decide), e3];exact ⟨rfl, rfl, rfl, rfl, rfl, rfl, fun _ => rfl⟩
   | true =>
    rw [if_pos rfl];have ew := writes_yes hu hw;generalize (m.writes (regAt m.disk.length (1 - m.st.reg)) t).2 = m1 at *
    have hup1 : m1.down = false := by rw [ew]; exact hu
    have hway1 : m1.way = [] := by rw [ew]
    cases hw2 : (m1.writes (32 * (1 - m.st.slot)) (sectB (m.st.gen + 1) (1 - m.st.reg))).1 with
    | false =>
     obtain ⟨qs, rs, e1, e2, e3⟩ := writes_no hup1 hway1 hw2;rw [if_neg (by decide), e3, ew];exact ⟨rfl, rfl, rfl, rfl, rfl, rfl, fun _ => rfl⟩
    | true =>
     rw [if_pos rfl, writes_yes hup1 hw2, ew];exact ⟨rfl, rfl, rfl, rfl, rfl, rfl, fun x => by cases x⟩
 obtain ⟨k1, k2, k3, k4, k5, k6, k7⟩ := key;refine ⟨⟨fun hd => ?_, by rw [k6]; exact h.wf, by rw [k1]; exact h.secret, by rw [k2]; exact h.idle, by rw [k3]; exact h.abs, by rw [k4]; exact h.now, by rw [k5]; exact h.drawn⟩, fun db jb sb => ?_, k6⟩
 ·rcases ho with o | o
  ·rw [k7 o.1] at hd; cases hd
  ·exact o.2.1
 ·unfold kepA;rw [k1, k2, k3, k4, k5]
theorem kcompact_any (B kb : Nat) (F : Nat → Prop) (m : Kp) (G : Gl) (w : World) (h : KAt w B kb F m) (hG : Glob B G w) :
  Calls Tryz.prog 34 #[.pointer (some ⟨kb, 0, none⟩)] w fun e w' => e = .returned (.int .i64 m.compact.1) ∧ KTo w B kb F m.compact.2 w' := by
 obtain ⟨db, jb, sb, mb, f, D, sl, Fd, d, hp, hF⟩ := h;have HP : Hid (KeepP w B kb db jb sb mb f D sl Fd m d) := hp;have HF : Hid (∀ b, F b ↔ kfoot kb jb sb mb f sl Fd b) := hF;have HG : Hid (Glob B G w) := hG;have HDN : Hid (Calls Tryz.prog 54 #[.pointer (some ⟨db, 0, none⟩)] w fun e w'' => e = .returned (.bool m.down) ∧ w'' = w) := kdown_drv hp (Below.refl _ _);have k0 := Blk.cell hp.blk 0;have k1 := Blk.cell hp.blk 1;have k2 := Blk.cell hp.blk 2;simp only [kepA, gT, gZ, gS] at k0 k1 k2;by_cases hd : m.down = true
 ·have HE : Hid (m.compact = (4, m)) := by
   show _ = _;unfold Kp.compact;exact if_pos hd
  clear hp hF hG;go_enter Tryz.func34, Tryz.ntmps34;go_wp2_with fail;refine HDN.out.mono ?_;rintro e w' ⟨rfl, rfl⟩;rw [hd];clear hd HDN;go_wp2_with fail;go_ret;rw [HE.out];exact ⟨rfl, KTo.same ⟨db, jb, sb, mb, f, D, sl, Fd, d, HP.out, HF.out⟩⟩
 ·have hu : m.down = false := Bool.eq_false_iff.2 hd;have hFA := compact_facts hp.ok hu;obtain ⟨v, hv⟩ : ∃ v, v = jerrV G m.compact.1 := ⟨_, rfl⟩;have hpd : KeepP w.drew B kb db jb sb mb f D sl Fd m d := hp.kept ((Fr.refl (fun _ => False) w).drew) (fun _ _ h => h);have HPD : Hid (KeepP w.drew B kb db jb sb mb f D sl Fd m d) := hpd;have hGd : Glob B G w.drew := hG.drew;have HJC : Hid (Calls Tryz.prog 71 #[.pointer (some ⟨jb, 0, none⟩), .pointer (some ⟨sb, 0, none⟩)] w.drew fun e w' => e = .returned v ∧ DJTo w.drew B db jb Fd m.compact.2 w') := by
   rw [hv]; exact jcompact_any jb db sb mb B Fd f D sl d m G w.drew hpd.dj (hp.ok.good hu) hpd.tab hGd
  have HER : Hid (∀ w', DJTo w.drew B db jb Fd m.compact.2 w' → Calls Tryz.prog 70 #[v] w' fun x w'' => x = .returned (.int .i64 m.compact.1) ∧ w'' = w') := fun w' hd => by
   obtain ⟨Fd', d', hk2, hdj2, ht2, hkd2, hft2, hfr2, hn2⟩ := keep_wrote hpd hd hFA.2.1;have hg : Glob B G w' := hGd.fr hfr2 (fun b hb => (hpd.dj.foot hb).1);rw [hv]; exact errno_any B G _ w' hg (compact_codes m)
  have HFA : Hid (_ ∧ _ ∧ _) := hFA;clear hp hF hG hd hv hpd hGd hFA;generalize m.compact = C at *
  go_enter Tryz.func34, Tryz.ntmps34;go_wp2_with fail;refine HDN.out.mono ?_;rintro e w' ⟨rfl, rfl⟩;rw [hu];clear hu HDN;go_wp2_with fail
  go_region_with (first
   | (go_at_call 71; refine HJC.out.mono ?_; rintro e w1 ⟨rfl, hd1⟩)
   | (go_at_call 70; refine (HER.out _ (by assumption)).mono ?_; rintro e w3 ⟨rfl, hw3⟩; subst w3))
  all_goals
   obtain ⟨Fd', d', hk2, hdj2, ht2, hkd2, hft2, hfr2, hn2⟩ := keep_wrote HPD.out hd1 HFA.out.2.1;have HE : Hid (KTo w' B kb F C.2 w1) := by
    have hq : ∀ b, foot sb mb f sl b → ¬ Fd' b := fun b hb => (hft2 b hb).1;have ht3' : TabAt w1 sb C.2.st.T mb f D sl := by rw [HFA.out.2.2]; exact ht2
    exact keep_close HP.out HF.out HG.out.le hk2 hdj2 hq hkd2.1 (((Fr.refl _ w').drew).trans hfr2 (fun _ _ h => h)) hn2 ht3' (Fr.refl _ w1) (fun _ h => Or.inl h) HFA.out.1
   clear hd1 hk2 hdj2 ht2 hkd2 hft2 hfr2 hn2 k0 k1 k2 HJC;go_wp2_with fail;go_ret;exact ⟨rfl, HE.out⟩
end Go.Proofs.YtmnajomkfnkmeaaGreatDoor
namespace Go.Proofs.YtmnajomkfnkmeaaGreatDoor
open Go.RowKit Go.Conc
attribute [local go_sem] ofL_size
end Go.Proofs.YtmnajomkfnkmeaaGreatDoor
namespace Go.Proofs.YtmnajomkfnkmeaaGreatDoor
open Go.RowKit
attribute [local go_sem] ofL_size
theorem belowAt {B : Nat} {w w' : World} (h : Below B w w') {a : Addr} (ha : a.block < B) : w'.cell? a = w.cell? a := World.cell?_of_block (w := w) (h.block a.block ha)
theorem soShape {w : World} {sv : Value} {ps : List Bs} (h : SO w sv ps) : (sv = .slice none 0 0 ∧ ps.length = 0) ∨ ∃ q cap, sv = .slice (some ⟨q, 0, none⟩) ps.length cap := by
 rcases h.cases with ⟨h1, h2⟩ | ⟨q, cap, h1, _⟩
 ·exact Or.inl ⟨h1, by rw [h2]; rfl⟩
 ·exact Or.inr ⟨q, cap, h1⟩
theorem strPush {w : World} {sv : Value} {ps : List Bs} {n : Nat} (h : SO w sv ps) (hn : ps.length = n) (hle : n ≤ 1000) (q : Bs) :
  ∃ i0, Tryz.prog.info? 9 = some i0 ∧ i0.zero = some (.string ByteArray.empty) ∧ i0.size = 1 ∧ i0.bytes = 16 ∧ (w.alloc (.cells #[.string (ofL q)] 9)).ownsRow 0 9 1 sv n (flatV strV ps) ∧
   (∀ (j : Nat) (u : Value), [Value.string (ofL q)][j]? = some u → (w.alloc (.cells #[.string (ofL q)] 9)).cell? ((⟨w.heap.size, 0, none⟩ : Addr).add j) = some u) ∧ (∀ u ∈ [Value.string (ofL q)], u.oneCell' = true) ∧ n + 1 ≤ maxLen ∧ (n + 1) * 16 ≤ 140737488355328 := by
 obtain ⟨i0, hi, hzz⟩ := Option.map_eq_some_iff.1 info_str;simp only [Prod.mk.injEq] at hzz;obtain ⟨hz, hs0, hb⟩ := hzz;have ho : SO (w.alloc (.cells #[.string (ofL q)] 9)) sv ps := h.below (bA);unfold SO Own at ho;rw [hn] at ho;exact ⟨i0, hi, hz, hs0, hb, ho, World.news_of_block (Blk.new w _ _), fun u hu => by rw [List.mem_singleton.1 hu]; rfl, by unfold maxLen; omega, by omega⟩
theorem getDAt {α : Type} (l : List α) (i : Nat) (d : α) (h : i < l.length) : l.getD i d = l[i] := by
 rw [List.getD_eq_getElem?_getD, List.getElem?_eq_getElem h]; rfl
theorem emptyBs (q : Bs) : (ofL q).toList.isEmpty = q.isEmpty := by
 rw [toList_toL, toL_ofL]
def nilS : Value := .slice none 0 0
def rowV : Option Sess → Value × Value → List Value
 | none, _ => zeroSess
 | some x, f => [.bool true, .int .i64 x.user, .int .i64 x.created, .int .i64 x.used, f.1, f.2]
def nmsOf : Option Sess → List Bs
 | none => []
 | some x => x.vals.map (·.1)
def vlsOf : Option Sess → List Bs
 | none => []
 | some x => x.vals.map (·.2)
abbrev RF := Nat → Value × Value
structure RT (w : World) (tb : Nat) (T : Tab) (f : RF) : Prop where
 arr : ∃ arr, Blk w tb arr 194 ∧ ∀ i, i < 4096 → ∀ j, j < 6 → arr[i * 6 + j]? = (rowV (T i) (f i))[j]?
 nms : ∀ i, i < 4096 → SO w (f i).1 (nmsOf (T i))
 vls : ∀ i, i < 4096 → SO w (f i).2 (vlsOf (T i))
 dead : ∀ i, i < 4096 → T i = none → f i = (nilS, nilS)
 ne : ∀ i, i < 4096 → ∀ b, (f i).1.ownBlock = some b ∨ (f i).2.ownBlock = some b → b ≠ tb
def rfoot (tb : Nat) (f : RF) (b : Nat) : Prop := b = tb ∨ ∃ i, i < 4096 ∧ ((f i).1.ownBlock = some b ∨ (f i).2.ownBlock = some b)
theorem RT.lt {w : World} {tb : Nat} {T : Tab} {f : RF} (h : RT w tb T f) : tb < w.heap.size := by
 obtain ⟨arr, hb, _⟩ := h.arr;exact hb.lt
theorem RT.foot {w : World} {tb : Nat} {T : Tab} {f : RF} (h : RT w tb T f) {b : Nat} (hb : rfoot tb f b) : b < w.heap.size := by
 rcases hb with hb | ⟨i, hi, hb | hb⟩
 ·rw [hb]; exact h.lt
 ·exact (h.nms i hi).lt hb
 ·exact (h.vls i hi).lt hb
theorem RT.kept {S : Nat → Prop} {w w' : World} {tb : Nat} {T : Tab} {f : RF} (h : RT w tb T f) (hf : Fr S w w') (hn : ∀ b, rfoot tb f b → ¬ S b) : RT w' tb T f := by
 obtain ⟨arr, hb, ha⟩ := h.arr;exact ⟨⟨arr, hb.kept hf (hn tb (Or.inl rfl)), ha⟩, fun i hi => (h.nms i hi).kept hf (fun b hb => hn b (Or.inr ⟨i, hi, Or.inl hb⟩)), fun i hi => (h.vls i hi).kept hf (fun b hb => hn b (Or.inr ⟨i, hi, Or.inr hb⟩)), h.dead, h.ne⟩
theorem RT.below {w w' : World} {tb : Nat} {T : Tab} {f : RF} (h : RT w tb T f) (hb : Below w.heap.size w w') : RT w' tb T f := h.kept (S := fun _ => False) (Fr.of_below hb) (fun _ _ h => h)
theorem RT.cell {w : World} {tb : Nat} {T : Tab} {f : RF} (h : RT w tb T f) {i : Nat} (hi : i < 4096) (j : Nat) (hj : j < 6) : w.cell? ⟨tb, i * 6 + j, none⟩ = (rowV (T i) (f i))[j]? := by
 obtain ⟨arr, hb, ha⟩ := h.arr;rw [hb.cell, ha i hi j hj]
theorem RT.frozen {w : World} {tb : Nat} {T : Tab} {f : RF} (h : RT w tb T f) (k : Nat) : w.frozen? ⟨tb, k, none⟩ = false := by
 obtain ⟨arr, hb, ha⟩ := h.arr;exact hb.frozen k
theorem RT.live {w : World} {tb : Nat} {T : Tab} {f : RF} (h : RT w tb T f) {i : Nat} (hi : i < 4096) : w.cell? ⟨tb, i * 6, none⟩ = some (.bool (T i).isSome) := by
 have := h.cell hi 0 (by decide);rw [Nat.add_zero] at this;rw [this];cases T i <;> rfl
theorem RT.user {w : World} {tb : Nat} {T : Tab} {f : RF} (h : RT w tb T f) {i : Nat} (hi : i < 4096) : w.cell? ⟨tb, i * 6 + 1, none⟩ = some (.int .i64 (match T i with | some x => (x.user : Int) | none => 0)) := by
 rw [h.cell hi 1 (by decide)];cases T i <;> rfl
theorem rt_new {w : World} {tb : Nat} (h : Blk w tb table0 194) : RT w tb noTab (fun _ => (nilS, nilS)) :=
 ⟨⟨table0, h, fun i hi j hj => by rw [Nat.mul_comm]; exact table0_at i j hi hj⟩, fun i _ => Own.nil _ _ _ _, fun i _ => Own.nil _ _ _ _, fun _ _ _ => rfl, fun i _ b hb => by rcases hb with hb | hb <;> cases hb⟩
theorem countP_succ (p : Nat → Bool) (k : Nat) : (List.range (k + 1)).countP p = (List.range k).countP p + (if p k = true then 1 else 0) := by
 rw [List.range_succ, List.countP_append];simp [List.countP_cons]
theorem countP_le (p : Nat → Bool) (k : Nat) : (List.range k).countP p ≤ k := by
 have := List.countP_le_length (p := p) (l := List.range k)
 rwa [List.length_range] at this
theorem rlive_any (tb : Nat) (T : Tab) (f : RF) (w : World) (h : RT w tb T f) :
  Calls Tryz.prog 84 #[.slice (some ⟨tb, 0, none⟩) 4096 4096] w fun e w' => e = .returned (.int .i64 (T.live : Nat)) ∧ w' = w := by
 have H : Hid (RT w tb T f) := h;clear h;have HV : Hid ((List.range 4096).countP (fun i => (T i).isSome) = T.live) := rfl;have HS : Hid (∀ k, (List.range (k + 1)).countP (fun i => (T i).isSome) = (List.range k).countP (fun i => (T i).isSome) + (if (T k).isSome = true then 1 else 0)) := fun k => countP_succ _ k;have HL : Hid (∀ k, (List.range k).countP (fun i => (T i).isSome) ≤ k) := fun k => countP_le _ k;have H0 : Hid ((List.range 0).countP (fun i => (T i).isSome) = 0) := rfl;generalize T.live = V at *
 obtain ⟨c, hc⟩ : ∃ c : Nat → Nat, c = fun k => (List.range k).countP (fun i => (T i).isSome) := ⟨_, rfl⟩;have HV : Hid (c 4096 = V) := by rw [hc]; exact HV
 have HS : Hid (∀ k, c (k + 1) = c k + (if (T k).isSome = true then 1 else 0)) := by rw [hc]; exact HS
 have HL : Hid (∀ k, c k ≤ k) := by rw [hc]; exact HL
 have H0 : Hid (c 0 = 0) := by rw [hc]; exact H0
 clear hc;go_enter Tryz.func84, Tryz.ntmps84;go_wp2
 go_loop [3, 4] (fun m i => ∃ k : Nat, k ≤ 4096 ∧ i = .int .i64 k ∧ m = .int .i64 (c k : Nat)) (fun _ i => 4096 - (intOf i).toNat)
 case atStart => exact ⟨0, Nat.zero_le _, rfl, by rw [H0.out]; rfl⟩
 case round =>
  obtain ⟨k, hk, rfl, rfl⟩ := hrel;by_cases hlt : k < 4096
  ·have hcell := H.out.live hlt;have hs := HS.out k;have hl := HL.out k;cases ht : (T k).isSome with
   | true =>
    rw [ht] at hcell hs;rw [if_pos rfl] at hs;have HS1 : Hid (_ = _) := hs;clear ht hs;go_wp2
    go_round
    case rel => exact ⟨k + 1, hlt, by go_num, by rw [HS1.out]; go_num⟩
    case measure => simp [intOf]; omega
   | false =>
    rw [ht] at hcell hs;rw [if_neg (by decide)] at hs;have HS1 : Hid (_ = _) := hs;clear ht hs;go_wp2
    go_round
    case rel => exact ⟨k + 1, hlt, by go_num, by rw [HS1.out]; rfl⟩
    case measure => simp [intOf]; omega
  ·have hke : k = 4096 := by omega
   subst hke;go_wp2;go_ret;exact ⟨by rw [HV.out]; rfl, rfl⟩
theorem rofuser_any (tb : Nat) (T : Tab) (f : RF) (u : Nat) (w : World) (h : RT w tb T f) :
  Calls Tryz.prog 89 #[.slice (some ⟨tb, 0, none⟩) 4096 4096, .int .i64 (u : Int)] w fun e w' => e = .returned (.int .i64 (T.ofUser u : Nat)) ∧ w' = w := by
 have H : Hid (RT w tb T f) := h;clear h;obtain ⟨c, hc⟩ : ∃ c : Nat → Nat, c = fun k => (List.range k).countP (fun i => match T i with | some x => x.user == u | none => false) := ⟨_, rfl⟩;have HV : Hid (c 4096 = T.ofUser u) := by rw [hc]; exact rfl
 have HS : Hid (∀ k, c (k + 1) = c k + (if (match T k with | some x => x.user == u | none => false) = true then 1 else 0)) := by rw [hc]; exact fun k => countP_succ _ k
 have HL : Hid (∀ k, c k ≤ k) := by rw [hc]; exact fun k => countP_le _ k
 have H0 : Hid (c 0 = 0) := by rw [hc]; exact rfl
 clear hc;generalize T.ofUser u = V at *
 go_enter Tryz.func89, Tryz.ntmps89;go_wp2
 go_loop [5, 6] (fun m i => ∃ k : Nat, k ≤ 4096 ∧ i = .int .i64 k ∧ m = .int .i64 (c k : Nat)) (fun _ i => 4096 - (intOf i).toNat)
 case atStart => exact ⟨0, Nat.zero_le _, rfl, by rw [H0.out]; rfl⟩
 case round =>
  obtain ⟨k, hk, rfl, rfl⟩ := hrel;by_cases hlt : k < 4096
  ·have hcell := H.out.live hlt;have hcel2 := H.out.user hlt;have hs := HS.out k;have hl := HL.out k;cases ht : T k with
   | none =>
    rw [ht] at hcell hcel2 hs;change c (k + 1) = c k at hs;change w.cell? ⟨tb, k * 6, none⟩ = some (.bool false) at hcell;have HS1 : Hid (_ = _) := hs;clear ht hs;go_wp2
    go_round
    case rel => exact ⟨k + 1, hlt, by go_num, by rw [HS1.out]⟩
    case measure => simp [intOf]; omega
   | some x =>
    rw [ht] at hcell hcel2 hs;change w.cell? ⟨tb, k * 6, none⟩ = some (.bool true) at hcell;change w.cell? ⟨tb, k * 6 + 1, none⟩ = some (.int .i64 (x.user : Int)) at hcel2;change c (k + 1) = c k + (if (x.user == u) = true then 1 else 0) at hs;generalize x.user = xu at *
    by_cases hu : xu = u
    ·have hb : ((xu : Int) == (u : Int)) = true := by simp [hu]
     rw [if_pos (by simp [hu])] at hs;have HS1 : Hid (_ = _) := hs;clear ht hs hu;go_wp2
     go_round
     case rel => exact ⟨k + 1, hlt, by go_num, by rw [HS1.out]; go_num⟩
     case measure => simp [intOf]; omega
    ·have hb : ((xu : Int) == (u : Int)) = false := by rw [Bool.eq_false_iff]; intro e; rw [beq_iff_eq] at e; omega
     rw [if_neg (by rw [beq_iff_eq]; exact hu)] at hs;have HS1 : Hid (_ = _) := hs;clear ht hs;go_wp2
     go_round
     case rel => exact ⟨k + 1, hlt, by go_num, by rw [HS1.out]; rfl⟩
     case measure => simp [intOf]; omega
  ·have hke : k = 4096 := by omega
   subst hke;go_wp2;go_ret;exact ⟨by rw [HV.out]; rfl, rfl⟩
def posI (n : Bs) (l : List (Bs × Bs)) : Int := match l.findIdx? (fun y => decide (y.1 = n)) with | some i => i | none => -1
theorem posI_at {n : Bs} {l : List (Bs × Bs)} {k : Nat} (hk : k < l.length) (hn : l[k].1 = n) (hlow : ∀ j (hj : j < k), (l[j]'(by omega)).1 ≠ n) : posI n l = k := by
 unfold posI;have : l.findIdx? (fun y => decide (y.1 = n)) = some k := by
  rw [List.findIdx?_eq_some_iff_getElem];exact ⟨hk, by rw [decide_eq_true_iff]; exact hn, fun j hj => by simpa using hlow j hj⟩
 rw [this]
theorem posI_no {n : Bs} {l : List (Bs × Bs)} (h : ∀ j (hj : j < l.length), l[j].1 ≠ n) : posI n l = -1 := by
 unfold posI;have : l.findIdx? (fun y => decide (y.1 = n)) = none := by
  rw [List.findIdx?_eq_none_iff];intro x hx;obtain ⟨j, hj, rfl⟩ := List.getElem_of_mem hx;rw [decide_eq_false_iff_not];exact h j hj
 rw [this]
theorem posI_cases (n : Bs) (l : List (Bs × Bs)) : (posI n l = -1 ∧ valAt n l = none) ∨ ∃ k : Nat, ∃ h : k < l.length, posI n l = k ∧ valAt n l = some l[k].2 := by
 by_cases hex : ∃ k : Nat, ∃ h : k < l.length, l[k].1 = n
 ·obtain ⟨k, h, hn, hlow⟩ : ∃ k : Nat, ∃ h : k < l.length, l[k].1 = n ∧ ∀ j (hj : j < k), (l[j]'(by omega)).1 ≠ n := by
   have hf : (l.findIdx? (fun y => decide (y.1 = n))).isSome = true := by
    obtain ⟨k, h, hn⟩ := hex;rw [List.findIdx?_isSome, List.any_eq_true];exact ⟨l[k], List.getElem_mem h, by rw [decide_eq_true_iff]; exact hn⟩
   obtain ⟨k, hk⟩ := Option.isSome_iff_exists.1 hf;rw [List.findIdx?_eq_some_iff_getElem] at hk;obtain ⟨h1, h2, h3⟩ := hk;exact ⟨k, h1, by simpa using h2, fun j hj => by simpa using h3 j hj⟩
  exact Or.inr ⟨k, h, posI_at h hn hlow, rvalAt_get h hn hlow⟩
 ·have h : ∀ j (hj : j < l.length), l[j].1 ≠ n := fun j hj e => hex ⟨j, hj, e⟩;exact Or.inl ⟨posI_no h, rvalAt_out h⟩
theorem rfind_any (b : Bool) (x1 x2 x3 : Int) (nv vv : Value) (vals : List (Bs × Bs)) (n : Bs) (w : World) (h : SO w nv (vals.map (·.1))) (hl : vals.length ≤ 1000) :
  Calls Tryz.prog 138 #[.agg #[.bool b, .int .i64 x1, .int .i64 x2, .int .i64 x3, nv, vv], .string (ofL n)] w fun e w' => e = .returned (.int .i64 (posI n vals)) ∧ Below w.heap.size w w' := by
 have H : Hid (SO w nv (vals.map (·.1))) := h;obtain ⟨V, hV⟩ : ∃ V, V = posI n vals := ⟨_, rfl⟩;have HV : Hid (V = posI n vals) := hV;rw [← hV];clear h hV;obtain ⟨L, hL⟩ : ∃ L, L = vals.length := ⟨_, rfl⟩;have HL : Hid (L = vals.length) := hL;have hsh : nv = .slice none 0 0 ∧ L = 0 ∨ ∃ q cap, nv = .slice (some ⟨q, 0, none⟩) L cap := by
  rcases soShape H.out with ⟨h1, h2⟩ | ⟨q, cap, h1⟩
  ·exact Or.inl ⟨h1, by rw [hL]; simpa using h2⟩
  ·exact Or.inr ⟨q, cap, by rw [h1, hL]; simp⟩
 rw [← hL] at hl;clear hL;rcases hsh with ⟨rfl, hl0⟩ | ⟨q, cap, rfl⟩
 ·have HN : Hid (V = -1) := by rw [HV.out]; exact posI_no (fun j hj => by have := HL.out; omega)
  go_enter Tryz.func138, Tryz.ntmps138;go_wp2_with fail
  go_loopw [5] (fun i wx => i = .int .i64 0 ∧ Hid (Below w.heap.size w wx) ∧ wx.cell? ⟨w.heap.size, 4, none⟩ = some (.slice none 0 0)) (fun _ _ => 0)
  case atStart => exact ⟨rfl, bA, by rw [(Blk.new w _ _).cell 4]; rfl⟩
  case round =>
   obtain ⟨rfl, HB, hc⟩ := hrel;go_wp2_with fail;go_ret;exact ⟨by rw [HN.out]; rfl, HB.out⟩
 ·have hq : q < w.heap.size := H.out.lt rfl;go_enter Tryz.func138, Tryz.ntmps138;go_wp2_with fail
  go_loopw [5] (fun i wx => ∃ k : Nat, k ≤ L ∧ i = .int .i64 k ∧ Hid (∀ j (hj : j < vals.length), j < k → vals[j].1 ≠ n) ∧ Hid (Below w.heap.size w wx) ∧ wx.cell? ⟨w.heap.size, 4, none⟩ = some (.slice (some ⟨q, 0, none⟩) L cap)) (fun i _ => L - (intOf i).toNat)
  case atStart => exact ⟨0, Nat.zero_le _, rfl, fun j hj h0 => absurd h0 (Nat.not_lt_zero _), bA, by rw [(Blk.new w _ _).cell 4]; rfl⟩
  case round =>
   obtain ⟨k, hk, rfl, HO, HB, hc⟩ := hrel;by_cases hlt : k < L
   ·have hlt2 : k < vals.length := by rw [← HL.out]; exact hlt
    obtain ⟨y, hy⟩ : ∃ y, y = vals[k].1 := ⟨_, rfl⟩;have hcell : wr.cell? ⟨q, k, none⟩ = some (.string (ofL y)) := by
     rw [belowAt HB.out hq, H.out.cell k (by rw [List.length_map]; exact hlt2), hy, List.getElem_map]
    have hs := seqL y n;have HAT : Hid (y = n → V = k) := fun e => by
     rw [HV.out];exact posI_at hlt2 (hy ▸ e) (fun j hj => HO.out j (by omega) hj)
    have HNX : Hid (y ≠ n → ∀ j (hj : j < vals.length), j < k + 1 → vals[j].1 ≠ n) := fun e j hj hjk => by
     by_cases hjk2 : j = k
     ·subst hjk2; rw [← hy]; exact e
     ·exact HO.out j hj (by omega)
    clear hy hlt2;by_cases hyn : y = n
    ·have HV2 : Hid (V = k) := HAT.out hyn;rw [decide_eq_true hyn] at hs;clear hyn;go_wp2_with fail;go_ret;exact ⟨by rw [HV2.out]; rfl, HB.out⟩
    ·have HNX2 : Hid (∀ j (hj : j < vals.length), j < k + 1 → vals[j].1 ≠ n) := HNX.out hyn;rw [decide_eq_false hyn] at hs;clear hyn;go_wp2_with fail;go_roundw
     case rel => exact ⟨k + 1, hlt, by go_num, HNX2, HB, hc⟩
     case measure => simp [intOf]; omega
   ·have HN : Hid (V = -1) := by rw [HV.out]; exact posI_no (fun j hj => HO.out j hj (by have := HL.out; omega))
    go_wp2_with fail;go_ret;exact ⟨by rw [HN.out]; rfl, HB.out⟩
end Go.Proofs.YtmnajomkfnkmeaaGreatDoor
