import Derived.Test.YtmnajomkfnkmeaaGreatDoorRefO
import Derived.Test.YtmnajomkfnkmeaaGreatDoorRefG
namespace Go.Proofs.YtmnajomkfnkmeaaGreatDoor
open Go.RowKit
attribute [local go_sem] ofL_size
/-! A PAIR: the program's keeper beside the document's, both of the same plain keeper -/
structure PairP (w : World) (B pb kb rb : Nat) (sv : Value) (Fk Fq : Nat → Prop) (m : Kp) (ps : List Bs) : Prop where
  blk : Blk w pb #[.pointer (some ⟨kb, 0, none⟩), .pointer (some ⟨rb, 0, none⟩), sv] 74
  k : KAt w B kb Fk m
  r : DK w rb Fq m
  ps : SO w sv ps
  fit : WayFits m
  kr : ∀ b, Fk b → ¬ Fq b
  kp : ¬ Fk pb
  rp : ¬ Fq pb
  sk : ∀ b, sv.ownBlock = some b → ¬ Fk b ∧ ¬ Fq b ∧ b ≠ pb
  ge : B ≤ pb ∧ (∀ b, Fq b → B ≤ b) ∧ ∀ b, sv.ownBlock = some b → B ≤ b
def pfoot (pb : Nat) (sv : Value) (Fk Fq : Nat → Prop) (b : Nat) : Prop := b = pb ∨ Fk b ∨ Fq b ∨ sv.ownBlock = some b
def PAt (w : World) (B pb : Nat) (P : Nat → Prop) (m : Kp) (ps : List Bs) : Prop := ∃ kb rb sv Fk Fq, PairP w B pb kb rb sv Fk Fq m ps ∧ ∀ b, P b ↔ pfoot pb sv Fk Fq b
theorem PairP.kept {S : Nat → Prop} {w w' : World} {B pb kb rb : Nat} {sv : Value} {Fk Fq : Nat → Prop} {m : Kp} {ps : List Bs} (h : PairP w B pb kb rb sv Fk Fq m ps) (hf : Fr S w w') (hn : ∀ b, pfoot pb sv Fk Fq b → ¬ S b) : PairP w' B pb kb rb sv Fk Fq m ps :=
  ⟨h.blk.kept hf (hn pb (Or.inl rfl)), h.k.kept hf (fun b hb => hn b (Or.inr (Or.inl hb))), h.r.kept hf (fun b hb => hn b (Or.inr (Or.inr (Or.inl hb)))), h.ps.kept hf (fun b hb => hn b (Or.inr (Or.inr (Or.inr hb)))), h.fit, h.kr, h.kp, h.rp, h.sk, h.ge⟩
theorem PAt.kept {S : Nat → Prop} {w w' : World} {B pb : Nat} {P : Nat → Prop} {m : Kp} {ps : List Bs} (h : PAt w B pb P m ps) (hf : Fr S w w') (hn : ∀ b, P b → ¬ S b) : PAt w' B pb P m ps := by
  obtain ⟨kb, rb, sv, Fk, Fq, hp, hP⟩ := h
  exact ⟨kb, rb, sv, Fk, Fq, hp.kept hf (fun b hb => hn b ((hP b).2 hb)), hP⟩
theorem openK_shape (d : Bs) (c : Cfg) : openK d c = (2, none) ∨ openK d c = (3, none) ∨ ∃ m, openK d c = (0, some m) ∧ m.way = [] := by
  unfold openK
  split
  · exact Or.inl rfl
  · split
    · exact Or.inr (Or.inl rfl)
    · cases readD d with
      | none => exact Or.inr (Or.inl rfl)
      | some st => exact Or.inr (Or.inr ⟨_, rfl, rfl⟩)
/-- what open leaves -/
def poTo (w : World) (B : Nat) (o : Option Kp) (e : Ending) (w' : World) : Prop :=
  match o with
  | none => e = .returned (.tuple #[.pointer none, .bool true]) ∧ Fr (fun _ => False) w w'
  | some m => ∃ pb P, e = .returned (.tuple #[.pointer (some ⟨pb, 0, none⟩), .bool true]) ∧ PAt w' B pb P m [] ∧ (∀ b, P b → w.heap.size ≤ b) ∧ Fr (fun _ => False) w w'
set_option linter.unusedSimpArgs false in
set_option maxRecDepth 100000 in
set_option maxHeartbeats 8000000 in
theorem popen_any (d : Bs) (c : Cfg) (B : Nat) (G : Gl) (w : World) (hd : d.length ≤ 9223372036854775807) (hs : c.secret.length ≤ 9223372036854775000) (hG : Glob B G w) :
    Calls Tryz.prog 12 #[.string (ofL d), cfgV c] w (poTo w B (openK d c).2) := by
  have HG : Hid (Glob B G w) := hG
  obtain ⟨O, hO⟩ : ∃ O, O = openK d c := ⟨_, rfl⟩
  have HOP : Hid (∀ w', Glob B G w' → Calls Tryz.prog 38 #[.string (ofL d), cfgV c] w' (oTo w' B O)) := fun w' h => by rw [hO]; exact Open_any d c B G w' hd hs h
  have HRO : Hid (∀ w', Calls Tryz.prog 39 #[.string (ofL d), cfgV c] w' (roTo w' O)) := fun w' => by rw [hO]; exact ropen_any c d w' hs hd
  have hsh := openK_shape d c
  rw [← hO] at hsh ⊢
  have hb0 : ∀ o, Below w.heap.size w (w.alloc o) := fun o => (Below.refl _ _).alloc (Nat.le_refl _) o
  have HB0 : Hid (∀ o, Below w.heap.size w (w.alloc o)) := hb0
  clear hO hG hb0
  unfold cfgV at HOP HRO ⊢
  go_enter Tryz.func12, Tryz.ntmps12
  go_wp2_with fail
  refine (HOP.out _ (DigitsBelow HG.out (HB0.out _))).mono ?_
  intro e w1 h1
  have HQ0 : Hid (Blk _ w.heap.size _ 23) := Blk.new w #[.string (ofL c.secret), .int .i64 c.seed, .int .i64 c.idle, .int .i64 c.abs, .int .i64 c.now] 23
  obtain ⟨w0, hw0⟩ : ∃ w0, w0 = w.alloc (.cells #[.string (ofL c.secret), .int .i64 c.seed, .int .i64 c.idle, .int .i64 c.abs, .int .i64 c.now] 23) := ⟨_, rfl⟩
  have HB1 : Hid (Below w.heap.size w w0) := by rw [hw0]; exact HB0.out _
  have hz0 : w.heap.size ≤ w0.heap.size := HB1.out.size
  have HGE : Hid (B ≤ w.heap.size) := HG.out.le
  rw [← hw0] at HQ0 h1
  clear HB0 hw0 HOP
  rcases hsh with rfl | rfl | ⟨m, rfl, hway⟩
  · obtain ⟨rfl, hb1⟩ : e = _ ∧ Below w0.heap.size w0 w1 := h1
    have hq := HQ0.out.below hb1
    have q0 := hq.cell 0
    have q1 := hq.cell 1
    have q2 := hq.cell 2
    have q3 := hq.cell 3
    have q4 := hq.cell 4
    simp only [List.getElem?_toArray, List.getElem?_cons_zero, List.getElem?_cons_succ] at q0 q1 q2 q3 q4
    have HBB : Hid (Below w.heap.size w w1) := bstep HB1.out hb1
    clear hq hb1
    go_wp2_with fail
    refine (HRO.out w1).mono ?_
    rintro e w2 ⟨rfl, hf2⟩
    have HF2 : Hid (Fr (fun _ => False) w w2) := (Fr.of_below HBB.out).trans hf2 (fun _ _ h => h)
    clear hf2 q0 q1 q2 q3 q4 HRO
    go_wp2_with fail
    go_ret2
    exact ⟨rfl, HF2.out⟩
  · obtain ⟨rfl, hb1⟩ : e = _ ∧ Below w0.heap.size w0 w1 := h1
    have hq := HQ0.out.below hb1
    have q0 := hq.cell 0
    have q1 := hq.cell 1
    have q2 := hq.cell 2
    have q3 := hq.cell 3
    have q4 := hq.cell 4
    simp only [List.getElem?_toArray, List.getElem?_cons_zero, List.getElem?_cons_succ] at q0 q1 q2 q3 q4
    have HBB : Hid (Below w.heap.size w w1) := bstep HB1.out hb1
    clear hq hb1
    go_wp2_with fail
    refine (HRO.out w1).mono ?_
    rintro e w2 ⟨rfl, hf2⟩
    have HF2 : Hid (Fr (fun _ => False) w w2) := (Fr.of_below HBB.out).trans hf2 (fun _ _ h => h)
    clear hf2 q0 q1 q2 q3 q4 HRO
    go_wp2_with fail
    go_ret2
    exact ⟨rfl, HF2.out⟩
  · obtain ⟨-, kb, Fk, rfl, hk1, hb1, hge1⟩ : (0 : Nat) = 0 ∧ ∃ kb Fk, e = _ ∧ KAt w1 B kb Fk m ∧ Below w0.heap.size w0 w1 ∧ ∀ b, Fk b → w0.heap.size ≤ b := h1
    have hq := HQ0.out.below hb1
    have q0 := hq.cell 0
    have q1 := hq.cell 1
    have q2 := hq.cell 2
    have q3 := hq.cell 3
    have q4 := hq.cell 4
    simp only [List.getElem?_toArray, List.getElem?_cons_zero, List.getElem?_cons_succ] at q0 q1 q2 q3 q4
    have HBB : Hid (Below w.heap.size w w1) := bstep HB1.out hb1
    have HK1 : Hid (KAt w1 B kb Fk m ∧ ∀ b, Fk b → w0.heap.size ≤ b) := ⟨hk1, hge1⟩
    have hz1 := hb1.size
    clear hq hb1 hk1 hge1
    go_wp2_with fail
    refine (HRO.out w1).mono ?_
    rintro e w2 ⟨rb, Fq, rfl, hr2, hge2, hf2⟩
    have HF2 : Hid (Fr (fun _ => False) w w2) := (Fr.of_below HBB.out).trans hf2 (fun _ _ h => h)
    have HK2 : Hid (KAt w2 B kb Fk m) := HK1.out.1.kept hf2 (fun _ _ h => h)
    have HR2 : Hid (DK w2 rb Fq m ∧ ∀ b, Fq b → w1.heap.size ≤ b) := ⟨hr2, hge2⟩
    have hz2 := hf2.size
    clear hf2 hr2 hge2 q0 q1 q2 q3 q4 HRO
    go_wp2_with fail
    go_ret2
    have hba : Below w2.heap.size w2 (w2.alloc (.cells #[.pointer (some ⟨kb, 0, none⟩), .pointer (some ⟨rb, 0, none⟩), .slice none 0 0] 74)) := (Below.refl _ _).alloc (Nat.le_refl _) _
    have hge := HGE.out
    have hfk : ∀ b, Fk b → b < w1.heap.size := fun b hb => (HK1.out.1.foot hb).2
    have hfq : ∀ b, Fq b → b < w2.heap.size := fun b hb => HR2.out.1.foot hb
    refine ⟨w2.heap.size, pfoot w2.heap.size (.slice none 0 0) Fk Fq, rfl, ⟨kb, rb, .slice none 0 0, Fk, Fq, ⟨Blk.new w2 _ _, HK2.out.below hba, HR2.out.1.below hba, Own.nil _ _ _ _, (fun x hx => by rw [hway] at hx; cases hx), fun b h1 h2 => ?_, fun h => ?_, fun h => ?_, (fun b hb => by cases hb), ?_, fun b h => ?_, fun b hb => by cases hb⟩, fun _ => Iff.rfl⟩, fun b hb => ?_, HF2.out.trans (Fr.of_below (S := fun _ => False) hba) (fun _ _ h => h)⟩
    · have := hfk b h1
      have := HR2.out.2 b h2
      omega
    · have := hfk _ h; omega
    · have := hfq _ h; omega
    · omega
    · have := HR2.out.2 b h; omega
    · rcases hb with e | e | e | e
      · omega
      · have := HK1.out.2 b e; omega
      · have := HR2.out.2 b e; omega
      · cases e
end Go.Proofs.YtmnajomkfnkmeaaGreatDoor
namespace Go.Proofs.YtmnajomkfnkmeaaGreatDoor
open Go.RowKit
attribute [local go_sem] ofL_size
/-! Opened: every Open, its keeper's number of live sessions, what it leaves -/
theorem pstep {w w1 w2 : World} {pb ob i : Nat} {v a b c : Value} (h : w1.cell? ⟨pb, i, none⟩ = some v ∧ w1.cell? ⟨ob, 3, none⟩ = some a ∧ w1.cell? ⟨ob, 4, none⟩ = some b ∧ w1.cell? ⟨ob, 5, none⟩ = some c ∧ pb < w1.heap.size ∧ ob < w1.heap.size ∧ Below w.heap.size w w1) (hb : Below w1.heap.size w1 w2) :
    w2.cell? ⟨pb, i, none⟩ = some v ∧ w2.cell? ⟨ob, 3, none⟩ = some a ∧ w2.cell? ⟨ob, 4, none⟩ = some b ∧ w2.cell? ⟨ob, 5, none⟩ = some c ∧ pb < w2.heap.size ∧ ob < w2.heap.size ∧ Below w.heap.size w w2 := by
  obtain ⟨h1, h2, h3, h4, h5, h6, h7⟩ := h
  exact ⟨(hb.cell (p := ⟨pb, i, none⟩) h5).trans h1, (hb.cell (p := ⟨ob, 3, none⟩) h6).trans h2, (hb.cell (p := ⟨ob, 4, none⟩) h6).trans h3, (hb.cell (p := ⟨ob, 5, none⟩) h6).trans h4, Nat.lt_of_lt_of_le h5 hb.size, Nat.lt_of_lt_of_le h6 hb.size, bstep h7 hb⟩
def opA (k : Int) : Value := .agg #[.int .i64 k, .int .i64 0, .int .i64 0, .int .i64 0, .int .i64 0, .int .i64 0, .string ⟨#[]⟩, .string ⟨#[]⟩, .string ⟨#[]⟩, .string ⟨#[]⟩, .int .i64 0, .int .i64 0, .int .i64 0, .int .i64 0]
set_option linter.unusedSimpArgs false in
set_option maxRecDepth 100000 in
set_option maxHeartbeats 8000000 in
theorem plive_any (B pb : Nat) (P : Nat → Prop) (m : Kp) (ps : List Bs) (w : World) (h : PAt w B pb P m ps) :
    Calls Tryz.prog 13 #[.pointer (some ⟨pb, 0, none⟩), opA 11] w fun e w' => e = .returned (.bool true) ∧ Below w.heap.size w w' := by
  obtain ⟨kb, rb, sv, Fk, Fq, hp, hP⟩ := h
  have HP : Hid (PairP w B pb kb rb sv Fk Fq m ps) := hp
  have HBA : Hid (∀ o, Below w.heap.size w (w.alloc o)) := fun o => (Below.refl _ _).alloc (Nat.le_refl _) o
  have HLK : Hid (∀ w', Below w.heap.size w w' → Calls Tryz.prog 25 #[.pointer (some ⟨kb, 0, none⟩)] w' fun e w'' => e = .returned (.tuple #[.int .i64 m.live.1, .int .i64 m.live.2]) ∧ w'' = w') := fun w' hb => klive_any B kb Fk m w' (HP.out.k.below hb)
  have HLR : Hid (∀ w', Below w.heap.size w w' → Calls Tryz.prog 44 #[.pointer (some ⟨rb, 0, none⟩)] w' fun e w'' => e = .returned (.tuple #[.int .i64 m.live.1, .int .i64 m.live.2]) ∧ w'' = w') := fun w' hb => dklive_any rb Fq m w' (HP.out.r.below hb)
  have HPB : Hid (∀ w', Below w.heap.size w w' → Blk w' pb #[.pointer (some ⟨kb, 0, none⟩), .pointer (some ⟨rb, 0, none⟩), sv] 74) := fun w' hb => HP.out.blk.below hb
  generalize m.live = lv at *
  clear hp hP
  unfold opA
  go_enter Tryz.func13, Tryz.ntmps13
  have c0 := Blk.cell (HPB.out _ (HBA.out (.cells #[.int .i64 11, .int .i64 0, .int .i64 0, .int .i64 0, .int .i64 0, .int .i64 0, .string ⟨#[]⟩, .string ⟨#[]⟩, .string ⟨#[]⟩, .string ⟨#[]⟩, .int .i64 0, .int .i64 0, .int .i64 0, .int .i64 0] 29))) 0
  have c1 := Blk.cell (HPB.out _ (HBA.out (.cells #[.int .i64 11, .int .i64 0, .int .i64 0, .int .i64 0, .int .i64 0, .int .i64 0, .string ⟨#[]⟩, .string ⟨#[]⟩, .string ⟨#[]⟩, .string ⟨#[]⟩, .int .i64 0, .int .i64 0, .int .i64 0, .int .i64 0] 29))) 1
  simp only [List.getElem?_toArray, List.getElem?_cons_zero, List.getElem?_cons_succ] at c0 c1
  go_wp2_with fail
  refine (HLK.out _ (HBA.out _)).mono ?_
  rintro e w' ⟨rfl, hw'⟩
  subst w'
  go_wp2_with fail
  refine (HLR.out _ (HBA.out _)).mono ?_
  rintro e w' ⟨rfl, hw'⟩
  subst w'
  go_wp2_with fail
  go_ret
  exact ⟨rfl, HBA.out _⟩
set_option linter.unusedSimpArgs false in
set_option maxRecDepth 100000 in
set_option maxHeartbeats 8000000 in
theorem pleft_any (B pb : Nat) (P : Nat → Prop) (m : Kp) (ps : List Bs) (w : World) (h : PAt w B pb P m ps) :
    Calls Tryz.prog 13 #[.pointer (some ⟨pb, 0, none⟩), opA 14] w fun e w' => e = .returned (.bool true) ∧ Below w.heap.size w w' := by
  obtain ⟨kb, rb, sv, Fk, Fq, hp, hP⟩ := h
  have HP : Hid (PairP w B pb kb rb sv Fk Fq m ps) := hp
  have HBA : Hid (∀ o, Below w.heap.size w (w.alloc o)) := fun o => (Below.refl _ _).alloc (Nat.le_refl _) o
  have HLK : Hid (∀ w', Below w.heap.size w w' → Calls Tryz.prog 23 #[.pointer (some ⟨kb, 0, none⟩), .int .i64 0, .int .i64 0, .int .i64 0] w' fun e w'' => e = .returned (.string (ofL (m.left 0 0 0))) ∧ Below w'.heap.size w' w'') := fun w' hb => kleft_any B kb Fk m 0 0 0 w' (HP.out.k.below hb) (by decide) (by decide)
  have HLR : Hid (∀ w', Below w.heap.size w w' → Calls Tryz.prog 47 #[.pointer (some ⟨rb, 0, none⟩), .int .i64 0, .int .i64 0, .int .i64 0] w' fun e w'' => e = .returned (.string (ofL (m.left 0 0 0))) ∧ Below w'.heap.size w' w'') := fun w' hb => dkleft_any rb Fq m 0 0 0 w' (HP.out.r.below hb) HP.out.fit (by decide) (by decide)
  have HPB : Hid (∀ w', Below w.heap.size w w' → Blk w' pb #[.pointer (some ⟨kb, 0, none⟩), .pointer (some ⟨rb, 0, none⟩), sv] 74) := fun w' hb => HP.out.blk.below hb
  generalize m.left 0 0 0 = lv at *
  clear hp hP
  unfold opA
  go_enter Tryz.func13, Tryz.ntmps13
  obtain ⟨w0, hw0⟩ : ∃ w0, w0 = w.alloc (.cells #[.int .i64 14, .int .i64 0, .int .i64 0, .int .i64 0, .int .i64 0, .int .i64 0, .string ⟨#[]⟩, .string ⟨#[]⟩, .string ⟨#[]⟩, .string ⟨#[]⟩, .int .i64 0, .int .i64 0, .int .i64 0, .int .i64 0] 29) := ⟨_, rfl⟩
  have HB0 : Hid (Below w.heap.size w w0) := by rw [hw0]; exact HBA.out _
  have HO0 : Hid (Blk w0 w.heap.size #[.int .i64 14, .int .i64 0, .int .i64 0, .int .i64 0, .int .i64 0, .int .i64 0, .string ⟨#[]⟩, .string ⟨#[]⟩, .string ⟨#[]⟩, .string ⟨#[]⟩, .int .i64 0, .int .i64 0, .int .i64 0, .int .i64 0] 29) := by rw [hw0]; exact Blk.new w _ _
  go_upto_region 1 with fail
  rw [← hw0]
  clear hw0
  have o0 := HO0.out.cell 0
  have o3 := HO0.out.cell 3
  have o4 := HO0.out.cell 4
  have o5 := HO0.out.cell 5
  have c0 := Blk.cell (HPB.out _ HB0.out) 0
  simp only [List.getElem?_toArray, List.getElem?_cons_zero, List.getElem?_cons_succ] at o0 o3 o4 o5 c0
  have hbo := HO0.out.lt
  have hbp := (HPB.out _ HB0.out).lt
  go_upto_region 26 with fail
  go_region_held3 (fun w' => w'.cell? ⟨pb, 0, none⟩ = some (.pointer (some ⟨kb, 0, none⟩)) ∧ w'.cell? ⟨w.heap.size, 3, none⟩ = some (.int .i64 0) ∧ w'.cell? ⟨w.heap.size, 4, none⟩ = some (.int .i64 0) ∧ w'.cell? ⟨w.heap.size, 5, none⟩ = some (.int .i64 0) ∧ pb < w'.heap.size ∧ w.heap.size < w'.heap.size ∧ Below w.heap.size w w')
    (first
      | exact pstep (by assumption) (by assumption)
      | assumption
      | exact ⟨c0, o3, o4, o5, hbp, hbo, HB0.out.drew⟩)
    (first
      | (go_at_call 23; refine (HLK.out _ HB0.out.drew).mono ?_; rintro e w' ⟨rfl, hbN⟩))
  rename_i hHeld
  obtain ⟨w1, hw1⟩ : ∃ w1, w1 = w' := ⟨_, rfl⟩
  subst hw1
  have HB1 : Hid (Below w.heap.size w w1) := hHeld.2.2.2.2.2.2
  have HO1 : Hid (Blk w1 w.heap.size _ 29) := HO0.out.below (bstep ((Below.refl _ _).drew) hbN)
  clear hHeld hbN o0 o3 o4 o5 c0 hbo hbp
  have o3 := HO1.out.cell 3
  have o4 := HO1.out.cell 4
  have o5 := HO1.out.cell 5
  have c1 := Blk.cell (HPB.out _ HB1.out) 1
  simp only [List.getElem?_toArray, List.getElem?_cons_zero, List.getElem?_cons_succ] at o3 o4 o5 c1
  have hbo := HO1.out.lt
  have hbp := (HPB.out _ HB1.out).lt
  go_upto_region 27 with fail
  go_region_held3 (fun w' => w'.cell? ⟨pb, 1, none⟩ = some (.pointer (some ⟨rb, 0, none⟩)) ∧ w'.cell? ⟨w.heap.size, 3, none⟩ = some (.int .i64 0) ∧ w'.cell? ⟨w.heap.size, 4, none⟩ = some (.int .i64 0) ∧ w'.cell? ⟨w.heap.size, 5, none⟩ = some (.int .i64 0) ∧ pb < w'.heap.size ∧ w.heap.size < w'.heap.size ∧ Below w.heap.size w w')
    (first
      | exact pstep (by assumption) (by assumption)
      | assumption
      | exact ⟨c1, o3, o4, o5, hbp, hbo, HB1.out.drew⟩)
    (first
      | (go_at_call 47; refine (HLR.out _ HB1.out.drew).mono ?_; rintro e w' ⟨rfl, hbN⟩))
  rename_i hHeld
  have HB2 : Hid (Below w.heap.size w w') := hHeld.2.2.2.2.2.2
  clear hHeld hbN
  go_wp2_with fail
  go_ret
  exact ⟨by simp, HB2.out⟩
set_option linter.unusedSimpArgs false in
set_option maxRecDepth 100000 in
set_option maxHeartbeats 8000000 in
theorem opened_any2 (d : Bs) (c : Cfg) (B : Nat) (G : Gl) (w : World) (hd : d.length ≤ 9223372036854775807) (hs : c.secret.length ≤ 9223372036854775000) (hG : Glob B G w) :
    Calls Tryz.prog 3 #[.string (ofL d), cfgV c] w fun e w' => e = .returned (.bool true) ∧ Fr (fun _ => False) w w' := by
  have HG : Hid (Glob B G w) := hG
  obtain ⟨O, hO⟩ : ∃ O, O = (openK d c).2 := ⟨_, rfl⟩
  have HOP : Hid (∀ w', Glob B G w' → Calls Tryz.prog 12 #[.string (ofL d), cfgV c] w' (poTo w' B O)) := fun w' h => by rw [hO]; exact popen_any d c B G w' hd hs h
  have hb0 : ∀ o, Below w.heap.size w (w.alloc o) := fun o => (Below.refl _ _).alloc (Nat.le_refl _) o
  have HB0 : Hid (∀ o, Below w.heap.size w (w.alloc o)) := hb0
  clear hO hG hb0
  unfold cfgV at HOP ⊢
  go_enter Tryz.func3, Tryz.ntmps3
  go_wp2_with fail
  refine (HOP.out _ (DigitsBelow HG.out (HB0.out _))).mono ?_
  intro e w1 h1
  cases O with
  | none =>
    obtain ⟨rfl, hf1⟩ : e = _ ∧ Fr (fun _ => False) _ w1 := h1
    have HF1 : Hid (Fr (fun _ => False) w w1) := (Fr.of_below (HB0.out _)).trans hf1 (fun _ _ h => h)
    clear hf1 HOP
    go_wp2_with fail
    go_ret
    exact ⟨rfl, HF1.out⟩
  | some m =>
    obtain ⟨pb, P, rfl, hp1, _, hf1⟩ : ∃ pb P, e = _ ∧ PAt w1 B pb P m [] ∧ _ ∧ Fr (fun _ => False) _ w1 := h1
    have HF1 : Hid (Fr (fun _ => False) w w1) := (Fr.of_below (HB0.out _)).trans hf1 (fun _ _ h => h)
    have HP1 : Hid (PAt w1 B pb P m []) := hp1
    have HL : Hid (Calls _ _ _ _ _) := plive_any B pb P m [] w1 hp1
    have HE : Hid (∀ w', Below w1.heap.size w1 w' → Calls Tryz.prog 13 #[.pointer (some ⟨pb, 0, none⟩), opA 14] w' fun e w'' => e = .returned (.bool true) ∧ Below w'.heap.size w' w'') := fun w' hb => pleft_any B pb P m [] w' (HP1.out.kept (Fr.of_below (S := fun _ => False) hb) (fun _ _ h => h))
    unfold opA at HL HE
    clear hf1 HOP hp1
    go_wp2_with fail
    refine HL.out.mono ?_
    rintro e w2 ⟨rfl, hb2⟩
    have HB2 : Hid (Below w1.heap.size w1 w2) := hb2
    clear hb2 HL
    go_wp2_with fail
    refine (HE.out _ HB2.out).mono ?_
    rintro e w3 ⟨rfl, hb3⟩
    have HF3 : Hid (Fr (fun _ => False) w w3) := HF1.out.trans (Fr.of_below (S := fun _ => False) (bstep HB2.out hb3)) (fun _ _ h => h)
    clear hb3 HE
    go_wp2_with fail
    go_ret
    exact ⟨rfl, HF3.out⟩
end Go.Proofs.YtmnajomkfnkmeaaGreatDoor
