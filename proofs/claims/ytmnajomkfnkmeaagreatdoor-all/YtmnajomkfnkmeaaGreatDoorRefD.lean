import Derived.Test.YtmnajomkfnkmeaaGreatDoorRefM
import Derived.Deep.DeepCutAuto
import Derived.BigQuiet
set_option maxRecDepth 100000
set_option maxHeartbeats 8000000
namespace Go.Proofs.YtmnajomkfnkmeaaGreatDoor
open Go.RowKit
attribute [local go_sem] ofL_size
def put6 (w : World) (tb o : Nat) (a0 a1 a2 a3 a4 a5 : Value) : World :=
 (((((w.setCell ⟨tb, o, none⟩ a0).setCell ⟨tb, o + 1, none⟩ a1).setCell ⟨tb, o + 2, none⟩ a2).setCell ⟨tb, o + 3, none⟩ a3).setCell ⟨tb, o + 4, none⟩ a4).setCell ⟨tb, o + 5, none⟩ a5
theorem put6_fr (w : World) (tb o : Nat) (a0 a1 a2 a3 a4 a5 : Value) : Fr (fun b => b = tb) w (put6 w tb o a0 a1 a2 a3 a4 a5) :=
 ((((((Fr.refl (fun b => b = tb) w).setCell ⟨tb, o, none⟩ (fun _ => rfl) a0).setCell ⟨tb, o + 1, none⟩ (fun _ => rfl) a1).setCell ⟨tb, o + 2, none⟩ (fun _ => rfl) a2).setCell ⟨tb, o + 3, none⟩ (fun _ => rfl) a3).setCell ⟨tb, o + 4, none⟩ (fun _ => rfl) a4).setCell ⟨tb, o + 5, none⟩ (fun _ => rfl) a5
theorem put6_blk {w : World} {tb : Nat} {arr : Array Value} {T : TypeId} (h : Blk w tb arr T) (o : Nat) (a0 a1 a2 a3 a4 a5 : Value) :
  Blk (put6 w tb o a0 a1 a2 a3 a4 a5) tb ((((((arr.setIfInBounds o a0).setIfInBounds (o + 1) a1).setIfInBounds (o + 2) a2).setIfInBounds (o + 3) a3).setIfInBounds (o + 4) a4).setIfInBounds (o + 5) a5) T :=
 (((((h.set o a0).set (o + 1) a1).set (o + 2) a2).set (o + 3) a3).set (o + 4) a4).set (o + 5) a5
def upF (f : RF) (id : Nat) (g : Value × Value) : RF := fun i => if i = id then g else f i
theorem RT.put {w : World} {tb : Nat} {T : Tab} {f : RF} (h : RT w tb T f) {id : Nat} (hid : id < 4096) (x : Option Sess) (g : Value × Value) (hx : x = none → g = (nilS, nilS)) (hN : SO w g.1 (nmsOf x)) (hV : SO w g.2 (vlsOf x)) (hne : ∀ b, g.1.ownBlock = some b ∨ g.2.ownBlock = some b → b ≠ tb)
  (a0 a1 a2 a3 a4 a5 : Value) (hrow : rowV x g = [a0, a1, a2, a3, a4, a5]) : RT (put6 w tb (id * 6) a0 a1 a2 a3 a4 a5) tb (T.set id x) (upF f id g) := by
 obtain ⟨arr, hb, ha⟩ := h.arr;have hfr := put6_fr w tb (id * 6) a0 a1 a2 a3 a4 a5;have hsz : id * 6 + 5 < arr.size := by
  have := ha id hid 5 (by decide);cases hq : arr[id * 6 + 5]? with
  | none => rw [hq] at this; cases hT : T id <;> rw [hT] at this <;> cases this
  | some v => exact (Array.getElem?_eq_some_iff.1 hq).1
 have hkeep : ∀ (s : Value) (l : List Bs), SO w s l → (∀ b, s.ownBlock = some b → b ≠ tb) → SO (put6 w tb (id * 6) a0 a1 a2 a3 a4 a5) s l := fun s l hs hn => hs.kept hfr (fun b hb e => hn b hb e);refine ⟨⟨_, put6_blk hb (id * 6) a0 a1 a2 a3 a4 a5, fun i hi j hj => ?_⟩, fun i hi => ?_, fun i hi => ?_, fun i hi ht => ?_, fun i hi b hb => ?_⟩
 ·simp only [Array.getElem?_setIfInBounds, Array.size_setIfInBounds];by_cases e : i = id
  ·subst e;have e1 : (T.set i x) i = x := by unfold Tab.set; rw [if_pos rfl]
   have e2 : upF f i g i = g := by unfold upF; rw [if_pos rfl]
   rw [e1, e2, hrow];obtain rfl | rfl | rfl | rfl | rfl | rfl : j = 0 ∨ j = 1 ∨ j = 2 ∨ j = 3 ∨ j = 4 ∨ j = 5 := by omega
   ·rw [if_neg (by omega), if_neg (by omega), if_neg (by omega), if_neg (by omega), if_neg (by omega), if_pos (by omega), if_pos (by omega)]; rfl
   ·rw [if_neg (by omega), if_neg (by omega), if_neg (by omega), if_neg (by omega), if_pos (by omega), if_pos (by omega)]; rfl
   ·rw [if_neg (by omega), if_neg (by omega), if_neg (by omega), if_pos (by omega), if_pos (by omega)]; rfl
   ·rw [if_neg (by omega), if_neg (by omega), if_pos (by omega), if_pos (by omega)]; rfl
   ·rw [if_neg (by omega), if_pos (by omega), if_pos (by omega)]; rfl
   ·rw [if_pos (by omega), if_pos (by omega)]; rfl
  ·have e1 : (T.set id x) i = T i := by unfold Tab.set; rw [if_neg e]
   have e2 : upF f id g i = f i := by unfold upF; rw [if_neg e]
   rw [e1, e2, if_neg (by omega), if_neg (by omega), if_neg (by omega), if_neg (by omega), if_neg (by omega), if_neg (by omega)];exact ha i hi j hj
 ·unfold upF Tab.set;by_cases e : i = id
  ·rw [if_pos e, if_pos e]; exact hkeep _ _ hN (fun b hb => hne b (Or.inl hb))
  ·rw [if_neg e, if_neg e]; exact hkeep _ _ (h.nms i hi) (fun b hb => h.ne i hi b (Or.inl hb))
 ·unfold upF Tab.set;by_cases e : i = id
  ·rw [if_pos e, if_pos e]; exact hkeep _ _ hV (fun b hb => hne b (Or.inr hb))
  ·rw [if_neg e, if_neg e]; exact hkeep _ _ (h.vls i hi) (fun b hb => h.ne i hi b (Or.inr hb))
 ·unfold upF;unfold Tab.set at ht;by_cases e : i = id
  ·rw [if_pos e] at ht ⊢; exact hx ht
  ·rw [if_neg e] at ht ⊢; exact h.dead i hi ht
 ·unfold upF at hb;by_cases e : i = id
  ·rw [if_pos e] at hb; exact hne b hb
  ·rw [if_neg e] at hb; exact h.ne i hi b hb
def RTTo (w : World) (tb : Nat) (f : RF) (T' : Tab) (w' : World) : Prop := ∃ f', RT w' tb T' f' ∧ Fr (fun b => b = tb) w w' ∧ ∀ b, rfoot tb f' b → rfoot tb f b ∨ w.heap.size ≤ b
theorem upF_foot {tb id : Nat} {f : RF} {g : Value × Value} {b : Nat} (h : rfoot tb (upF f id g) b) : rfoot tb f b ∨ g.1.ownBlock = some b ∨ g.2.ownBlock = some b := by
 rcases h with h | ⟨i, hi, h⟩
 ·exact Or.inl (Or.inl h)
 ·unfold upF at h;by_cases e : i = id
  ·rw [if_pos e] at h; exact Or.inr h
  ·rw [if_neg e] at h; exact Or.inl (Or.inr ⟨i, hi, h⟩)
theorem RT.kill {w : World} {tb : Nat} {T : Tab} {f : RF} (h : RT w tb T f) {id : Nat} (hid : id < 4096) : RT (put6 w tb (id * 6) (.bool false) (.int .i64 0) (.int .i64 0) (.int .i64 0) (.slice none 0 0) (.slice none 0 0)) tb (T.set id none) (upF f id (nilS, nilS)) :=
 h.put hid none (nilS, nilS) (fun _ => rfl) (Own.nil _ _ _ _) (Own.nil _ _ _ _) (fun b hb => by rcases hb with hb | hb <;> cases hb) _ _ _ _ _ _ rfl
def killK (T : Tab) (u k : Nat) : Tab := fun i => if i < k then T.does (.U u) i else T i
theorem killK_zero (T : Tab) (u : Nat) : killK T u 0 = T := by funext i; unfold killK; rw [if_neg (Nat.not_lt_zero _)]
theorem killK_same {T : Tab} {u k : Nat} (h : T.does (.U u) k = T k) : killK T u (k + 1) = killK T u k := by
 funext i
 unfold killK;by_cases h1 : i < k
 ·rw [if_pos h1, if_pos (by omega)]
 ·by_cases h2 : i = k
  ·subst h2; rw [if_pos (by omega), if_neg h1, h]
  ·rw [if_neg h1, if_neg (by omega)]
theorem killK_dead {T : Tab} {u k : Nat} (h : T.does (.U u) k = none) : killK T u (k + 1) = (killK T u k).set k none := by
 funext i
 show (if i < k + 1 then T.does (.U u) i else T i) = (if i = k then none else (if i < k then T.does (.U u) i else T i));by_cases h2 : i = k
 ·subst h2; rw [if_pos (by omega), if_pos rfl, h]
 ·by_cases h1 : i < k
  ·rw [if_pos (by omega), if_neg h2, if_pos h1]
  ·rw [if_neg (by omega), if_neg h2, if_neg h1]
theorem killK_all {T : Tab} {u : Nat} (h : ∀ i x, T i = some x → i < 4096) : killK T u 4096 = T.does (.U u) := by
 funext i
 unfold killK;by_cases h1 : i < 4096
 ·rw [if_pos h1]
 ·rw [if_neg h1];cases ht : T i with
  | none => show none = (match T i with | some x => if x.user = u then none else some x | none => none); rw [ht]
  | some x => exact absurd (h i x ht) h1
theorem RT.all6 {w : World} {tb : Nat} {T : Tab} {f : RF} (h : RT w tb T f) {i : Nat} (hi : i < 4096) :
  ∃ v0 v1 v2 v3 v4 v5, w.cell? ⟨tb, i * 6, none⟩ = some v0 ∧ w.cell? ⟨tb, i * 6 + 1, none⟩ = some v1 ∧ w.cell? ⟨tb, i * 6 + 2, none⟩ = some v2 ∧ w.cell? ⟨tb, i * 6 + 3, none⟩ = some v3 ∧ w.cell? ⟨tb, i * 6 + 4, none⟩ = some v4 ∧ w.cell? ⟨tb, i * 6 + 5, none⟩ = some v5 := by
 cases ht : T i with
 | none => obtain ⟨c0, c1, c2, c3, c4, c5⟩ := h.zero hi ht; exact ⟨_, _, _, _, _, _, c0, c1, c2, c3, c4, c5⟩
 | some x => obtain ⟨c0, c1, c2, c3, c4, c5⟩ := h.six hi ht; exact ⟨_, _, _, _, _, _, c0, c1, c2, c3, c4, c5⟩
def fitU (T : Tab) (q : Sp) (u : Nat) : Bool := !q.bad && (decide (q.pos = q.s.length) && decide (T.ofUser u ≠ 0))
theorem rall_any (tb : Nat) (T : Tab) (f : RF) (sb : Nat) (p : Sp) (w : World) (h : RT w tb T f) (hs : SpotAt w sb p) (hp : p.pos ≤ p.s.length) (hl : p.s.length ≤ 1000000) (hne : ¬ rfoot tb f sb) (hT : ∀ i x, T i = some x → i < 4096) :
  Calls Tryz.prog 137 #[.slice (some ⟨tb, 0, none⟩) 4096 4096, .pointer (some ⟨sb, 0, none⟩)] w fun e w' => e = .returned (.bool (fitU T (spN 1 1 99 p).2 (spN 1 1 99 p).1)) ∧
   ∃ f', RT w' tb (if fitU T (spN 1 1 99 p).2 (spN 1 1 99 p).1 = true then T.does (.U (spN 1 1 99 p).1) else T) f' ∧ Fr (fun b => b = tb ∨ b = sb) w w' ∧ ∀ b, rfoot tb f' b → rfoot tb f b := by
 have H : Hid (RT w tb T f) := h;have HNE : Hid (¬ rfoot tb f sb) := hne;have HT : Hid (∀ i x, T i = some x → i < 4096) := hT;have HSP : Hid (Calls _ _ _ _ _) := spnI sb p 1 1 99 1 1 99 w hs hp hl (by decide) rfl rfl rfl;have hu1 := (spN_le (w := 1) (lo := 1) (hi := 99) (p := p) (by decide)).2;have hu2 := (spN_le (w := 1) (lo := 1) (hi := 99) (p := p) (by decide)).1;have hq1 := spN_pos (w := 1) (lo := 1) (hi := 99) hp;have hq2 := spN_s 1 1 99 p;rw [← hq2] at hl;generalize (spN 1 1 99 p).1 = u at *
 generalize (spN 1 1 99 p).2 = q at *
 clear h hs hp hne hT hq1 hq2;obtain ⟨A, hA⟩ : ∃ A, A = fitU T q u := ⟨_, rfl⟩;have HA : Hid (A = (!q.bad && (decide (q.pos = q.s.length) && decide (T.ofUser u ≠ 0)))) := hA;rw [← hA];clear hA;go_enter Tryz.func137, Tryz.ntmps137;go_wp2_with fail;refine HSP.out.mono ?_;rintro e w1 ⟨rfl, hsp1, hf1⟩;have HF1 : Hid (Fr (fun b => b = sb) w w1) := hf1;have H1 : Hid (RT w1 tb T f) := H.out.kept hf1 (fun b hb e => HNE.out (e ▸ hb));have HS1 : Hid (SpotAt w1 sb q) := hsp1;have HOF : Hid (Calls _ _ _ _ _) := rofuser_any tb T f u w1 H1.out;clear hsp1 hf1 HSP;generalize hofu : T.ofUser u = ou at *
 clear hofu;go_wp2_with fail;refine HOF.out.mono ?_;rintro e w' ⟨rfl, hw'⟩;subst w';clear HOF;go_upto_region 3 with fail
 go_cut [32] (fun cv wx => cv = .bool (!A) ∧ Hid (Below w1.heap.size w1 wx))
 case first =>
  have c0 := Blk.cell HS1.out 0;have c1 := Blk.cell HS1.out 1;have c2 := Blk.cell HS1.out 2;simp only [gT, gZ, gS] at c0 c1 c2;have ha := HA.out;clear HA;cases hb : q.bad with
  | true =>
   rw [hb] at c2 ha;change A = false at ha;subst ha;clear hb
   go_quiet (fail)
   go_wp2_with fail;go_meet
   case rel => exact ⟨rfl, below_drewN (Below.refl _ _) _⟩
  | false =>
   rw [hb] at c2 ha;by_cases hpl : q.pos = q.s.length
   ·rw [decide_eq_true hpl] at ha;rw [hpl] at c1;by_cases ho : ou = 0
    ·rw [decide_eq_false (by simpa using ho)] at ha;change A = false at ha;subst ha;subst ho;clear hb hpl
     go_quiet (fail)
     go_wp2_with fail;go_meet
     case rel => exact ⟨rfl, below_drewN (Below.refl _ _) _⟩
    ·rw [decide_eq_true ho] at ha;change A = true at ha;subst ha;have ho2 : ((ou : Int) == 0) = false := by rw [Bool.eq_false_iff]; intro e; rw [beq_iff_eq] at e; omega
     clear hb hpl ho
     go_quiet (fail)
     go_wp2_with fail;go_meet
     case rel => exact ⟨rfl, below_drewN (Below.refl _ _) _⟩
   ·rw [decide_eq_false hpl] at ha;change A = false at ha;subst ha;have hp2 : ((q.pos : Int) != (q.s.length : Int)) = true := by rw [bne_iff_ne]; intro e; omega
    clear hb hpl
    go_quiet (fail)
    go_wp2_with fail;go_meet
    case rel => exact ⟨rfl, below_drewN (Below.refl _ _) _⟩
 case rest =>
 obtain ⟨rfl, HB2⟩ := hcut;have H2 : Hid (RT wc tb T f) := H1.out.below HB2.out;have HF2 : Hid (Fr (fun b => b = tb ∨ b = sb) w wc) := (HF1.out.mono (fun b _ e => Or.inr e)).trans (Fr.of_below (S := fun _ => False) HB2.out) (fun _ _ h => h.elim);clear HA;cases A with
 | false =>
  go_wp2_with fail;go_ret;exact ⟨rfl, f, H2.out, HF2.out, fun b hb => hb⟩
 | true =>
  go_wp2_with fail
  go_loopw [7] (fun iv wx => ∃ (k : Nat) (fk : RF), k ≤ 4096 ∧ iv = .int .i64 k ∧ Hid (RT wx tb (killK T u k) fk) ∧ Hid (Fr (fun b => b = tb ∨ b = sb) w wx) ∧ Hid (∀ b, rfoot tb fk b → rfoot tb f b)) (fun iv _ => 4096 - (intOf iv).toNat)
  case atStart => exact ⟨0, f, by omega, rfl, by rw [killK_zero]; exact H2.out, HF2.out, fun b hb => hb⟩
  case round =>
   obtain ⟨k, fk, hk, rfl, HR, HF, HFT⟩ := hrel;by_cases hlt : k < 4096
   ·have hus := HR.out.user hlt;obtain ⟨v0, v1, v2, v3, v4, v5, c0, c1, c2, c3, c4, c5⟩ := HR.out.all6 hlt;have f0 := HR.out.frozen (k * 6);have f1 := HR.out.frozen (k * 6 + 1);have f2 := HR.out.frozen (k * 6 + 2);have f3 := HR.out.frozen (k * 6 + 3);have f4 := HR.out.frozen (k * 6 + 4);have f5 := HR.out.frozen (k * 6 + 5);have hkk : killK T u k k = T k := by unfold killK; rw [if_neg (by omega)]
    rw [hkk] at hus;have HKI : Hid (RT (put6 wr tb (k * 6) (.bool false) (.int .i64 0) (.int .i64 0) (.int .i64 0) (.slice none 0 0) (.slice none 0 0)) tb ((killK T u k).set k none) (upF fk k (nilS, nilS))) := HR.out.kill hlt;have HKF : Hid (Fr (fun b => b = tb ∨ b = sb) w (put6 wr tb (k * 6) (.bool false) (.int .i64 0) (.int .i64 0) (.int .i64 0) (.slice none 0 0) (.slice none 0 0))) := HF.out.trans (put6_fr _ _ _ _ _ _ _ _ _) (fun b _ e => Or.inl e);have HKT : Hid (∀ b, rfoot tb (upF fk k (nilS, nilS)) b → rfoot tb f b) := fun b hb => by
     rcases upF_foot hb with h | h | h
     ·exact HFT.out b h
     ·cases h
     ·cases h
    by_cases hx : ∃ x, T k = some x ∧ x.user = u
    ·obtain ⟨x, hx1, hx2⟩ := hx;have HD : Hid (T.does (.U u) k = none) := by show (match T k with | some x => if x.user = u then none else some x | none => none) = none; rw [hx1]; exact if_pos hx2
     rw [hx1] at hus;change wr.cell? ⟨tb, k * 6 + 1, none⟩ = some (.int .i64 (x.user : Int)) at hus;rw [hx2] at hus;rw [hus] at c1;injection c1 with c1
     subst c1;clear hkk hx1 hx2;go_wp2_with fail;go_roundw
     case rel => exact ⟨k + 1, _, hlt, by go_num, by rw [killK_dead HD.out]; exact HKI.out, HKF.out, HKT.out⟩
     case measure => simp [intOf]; omega
    ·have HD : Hid (T.does (.U u) k = T k) := by
      show (match T k with | some x => if x.user = u then none else some x | none => none) = T k;cases ht : T k with
      | none => rfl
      | some x => exact if_neg (fun e => hx ⟨x, ht, e⟩)
     have hub : ∃ z : Int, wr.cell? ⟨tb, k * 6 + 1, none⟩ = some (.int .i64 z) ∧ (z == (u : Int)) = false := by
      cases ht : T k with
      | none =>
       rw [ht] at hus;exact ⟨0, hus, by rw [Bool.eq_false_iff]; intro e; rw [beq_iff_eq] at e; omega⟩
      | some x =>
       rw [ht] at hus;exact ⟨x.user, hus, by rw [Bool.eq_false_iff]; intro e; rw [beq_iff_eq] at e; exact hx ⟨x, ht, by omega⟩⟩
     obtain ⟨z, hz1, hz2⟩ := hub;clear hus c1 hx hkk;go_wp2_with fail;go_roundw
     case rel => exact ⟨k + 1, fk, hlt, by go_num, by rw [killK_same HD.out]; exact HR.out, HF.out, HFT.out⟩
     case measure => simp [intOf]; omega
   ·have hke : k = 4096 := by omega
    subst hke;go_wp2_with fail;go_ret;refine ⟨rfl, fk, ?_, HF.out, HFT.out⟩;have hr := HR.out;rw [killK_all HT.out] at hr;exact hr
end Go.Proofs.YtmnajomkfnkmeaaGreatDoor
namespace Go.Proofs.YtmnajomkfnkmeaaGreatDoor
open Go.RowKit
def sp0 (p : Bs) : Sp := ⟨p, 0, false⟩
def rkind (p : Bs) : Bs := (spTake 1 (sp0 p)).1
def rid (p : Bs) : Nat × Sp := spN 2 0 4095 (spTake 1 (sp0 p)).2
def midOf (T : Tab) (kd : Bs) (id : Nat) (q : Sp) : Option (Sp × Nat × Option Sess) :=
 if kd = [76] then if 12 ≤ T.live then none else some ((spN 4 0 maxT (spN 1 1 99 q).2).2, id, some ⟨(spN 1 1 99 q).1, (spN 4 0 maxT (spN 1 1 99 q).2).1, (spN 4 0 maxT (spN 1 1 99 q).2).1, []⟩)
 else if kd = [84] then some ((spN 4 0 maxT q).2, id, (T id).map fun x => { x with used := (spN 4 0 maxT q).1 })
 else if kd = [82] then
  if (spN 4 0 maxT (spN 2 0 4095 q).2).2.bad = true ∨ (T (spN 2 0 4095 q).1).isSome = true then none
  else some ((spN 4 0 maxT (spN 2 0 4095 q).2).2, (spN 2 0 4095 q).1, (T id).map fun x => { x with used := (spN 4 0 maxT (spN 2 0 4095 q).2).1 })
 else if kd = [83] then
  if ((T id).map fun x => x.room (spX 1 8 q).1) = some false then none
  else some ((spN 4 0 maxT (spX 0 8 (spX 1 8 q).2).2).2, id, (T id).map fun x => { x with vals := setVal (spX 1 8 q).1 (spX 0 8 (spX 1 8 q).2).1 x.vals, used := (spN 4 0 maxT (spX 0 8 (spX 1 8 q).2).2).1 })
 else if kd = [88] then some (q, id, none)
 else none
theorem mid76 (T : Tab) (id : Nat) (q : Sp) : midOf T [76] id q = if 12 ≤ T.live then none else some ((spN 4 0 maxT (spN 1 1 99 q).2).2, id, some ⟨(spN 1 1 99 q).1, (spN 4 0 maxT (spN 1 1 99 q).2).1, (spN 4 0 maxT (spN 1 1 99 q).2).1, []⟩) := if_pos rfl
theorem mid84 (T : Tab) (id : Nat) (q : Sp) : midOf T [84] id q = some ((spN 4 0 maxT q).2, id, (T id).map fun x => { x with used := (spN 4 0 maxT q).1 }) := by
 unfold midOf; rw [if_neg (by decide), if_pos rfl]
theorem mid82 (T : Tab) (id : Nat) (q : Sp) : midOf T [82] id q = if (spN 4 0 maxT (spN 2 0 4095 q).2).2.bad = true ∨ (T (spN 2 0 4095 q).1).isSome = true then none
  else some ((spN 4 0 maxT (spN 2 0 4095 q).2).2, (spN 2 0 4095 q).1, (T id).map fun x => { x with used := (spN 4 0 maxT (spN 2 0 4095 q).2).1 }) := by
 unfold midOf; rw [if_neg (by decide), if_neg (by decide), if_pos rfl]
theorem mid83 (T : Tab) (id : Nat) (q : Sp) : midOf T [83] id q = if ((T id).map fun x => x.room (spX 1 8 q).1) = some false then none
  else some ((spN 4 0 maxT (spX 0 8 (spX 1 8 q).2).2).2, id, (T id).map fun x => { x with vals := setVal (spX 1 8 q).1 (spX 0 8 (spX 1 8 q).2).1 x.vals, used := (spN 4 0 maxT (spX 0 8 (spX 1 8 q).2).2).1 }) := by
 unfold midOf; rw [if_neg (by decide), if_neg (by decide), if_neg (by decide), if_pos rfl]
theorem mid88 (T : Tab) (id : Nat) (q : Sp) : midOf T [88] id q = some (q, id, none) := by
 unfold midOf; rw [if_neg (by decide), if_neg (by decide), if_neg (by decide), if_neg (by decide), if_pos rfl]
theorem mid_else (T : Tab) (k : UInt8) (id : Nat) (q : Sp) (h1 : k ≠ 76) (h2 : k ≠ 84) (h3 : k ≠ 82) (h4 : k ≠ 83) (h5 : k ≠ 88) : midOf T [k] id q = none := by
 unfold midOf;rw [if_neg (fun h => h1 (List.cons.inj h).1), if_neg (fun h => h2 (List.cons.inj h).1), if_neg (fun h => h3 (List.cons.inj h).1), if_neg (fun h => h4 (List.cons.inj h).1), if_neg (fun h => h5 (List.cons.inj h).1)]
theorem take_cons (k : UInt8) (l : Bs) : spTake 1 (sp0 (k :: l)) = ([k], ⟨k :: l, 1, false⟩) := by
 unfold spTake sp0;rw [if_neg (by simp)];rfl
theorem at_cons (k : UInt8) (l : Bs) : (⟨k :: l, 1, false⟩ : Sp).at l := ⟨rfl, by simp, rfl⟩
theorem set_set (T : Tab) (id : Nat) (x : Option Sess) : (T.set id none).set id x = T.set id x := by
 funext i
 unfold Tab.set;by_cases e : i = id
 ·rw [if_pos e, if_pos e]
 ·rw [if_neg e, if_neg e, if_neg e]
def endOf (T : Tab) (id n : Nat) : Option (Sp × Nat × Option Sess) → Option Tab
 | none => none
 | some (q, d, x) => if q.bad = false ∧ q.pos = n then some ((T.set id none).set d x) else none
def refDo (T : Tab) (p : Bs) : Option Tab :=
 if rkind p = [85] then if fitU T (spN 1 1 99 (spTake 1 (sp0 p)).2).2 (spN 1 1 99 (spTake 1 (sp0 p)).2).1 = true then some (T.does (.U (spN 1 1 99 (spTake 1 (sp0 p)).2).1)) else none
 else if (rid p).2.bad = true ∨ (T (rid p).1).isSome ≠ decide (rkind p ≠ [76]) then none
 else endOf T (rid p).1 p.length (midOf T (rkind p) (rid p).1 (rid p).2)
theorem end_reads {T : Tab} {p : Bs} {q : Sp} {c : Chg} {id d : Nat} {x : Option Sess} (h : Reads (parseChg p) q p.length c) (ha : T.allows c = true) (hd : T.does c = (T.set id none).set d x) : T.takes p = endOf T id p.length (some (q, d, x)) := by
 unfold endOf;rcases h with ⟨hf, e⟩ | ⟨hf, e⟩
 ·show _ = if q.bad = false ∧ q.pos = p.length then _ else _
  rw [if_pos (show q.bad = false ∧ q.pos = p.length from hf), takes_yes e ha, hd]
 ·show _ = if q.bad = false ∧ q.pos = p.length then _ else _
  rw [if_neg (show ¬ (q.bad = false ∧ q.pos = p.length) from hf), takes_no e]
theorem not_reads {T : Tab} {p : Bs} {q : Sp} {c : Chg} (h : Reads (parseChg p) q p.length c) (ha : q.bad = true ∨ T.allows c = false) : T.takes p = none := by
 rcases takes_reads (T := T) h with ⟨hf, h1, _⟩ | ⟨_, h2⟩
 ·rcases ha with ha | ha
  ·rw [hf.1] at ha; cases ha
  ·rw [h1] at ha; cases ha
 ·exact h2
theorem refDo_eq (T : Tab) (p : Bs) : refDo T p = T.takes p := by
 cases p with
 | nil =>
  have h0 : T.takes [] = none := takes_no rfl;have hk : rkind [] = [0] := by unfold rkind spTake sp0; rw [if_pos (by simp)]; rfl
  have hb : (rid []).2.bad = true := by unfold rid; exact spN_bad (by unfold spTake sp0; rw [if_pos (by simp)])
  unfold refDo;rw [hk, if_neg (by decide), if_pos (Or.inl hb), h0]
 | cons k l =>
  have hk : rkind (k :: l) = [k] := by unfold rkind; rw [take_cons]
  have hi : rid (k :: l) = spN 2 0 4095 ⟨k :: l, 1, false⟩ := by unfold rid; rw [take_cons]
  have hat := at_cons k l;obtain ⟨P, hP⟩ : ∃ P : Sp, P = ⟨k :: l, 1, false⟩ := ⟨_, rfl⟩;have hs : P.s.length = (k :: l).length := by rw [hP]
  rw [← hP] at hat;unfold refDo;rw [hk, hi, take_cons, ← hP];by_cases k85 : k = 85
  ·subst k85;have hr := dU_eq hat hs;have hr : Reads (parseChg (85 :: l)) _ _ _ := hr;have hss : (spN 1 1 99 P).2.s.length = (85 :: l).length := by rw [spN_s, hs]
   rw [if_pos rfl];unfold fitU;rcases takes_reads (T := T) hr with ⟨hf, h1, h2⟩ | ⟨h1, h2⟩
   ·simp only [Tab.allows, decide_eq_true_eq] at h1;rw [h2, if_pos];simp only [Bool.and_eq_true, Bool.not_eq_true', decide_eq_true_eq];exact ⟨hf.1, by rw [hf.2, hss], by omega⟩
   ·rw [h2, if_neg];intro hh;simp only [Bool.and_eq_true, Bool.not_eq_true', decide_eq_true_eq] at hh;rcases h1 with h1 | h1
    ·exact h1 ⟨hh.1, by rw [hh.2.1, hss]⟩
    ·simp only [Tab.allows, decide_eq_false_iff_not] at h1;omega
  ·rw [if_neg (fun h => k85 (List.cons.inj h).1)];by_cases k76 : k = 76
   ·subst k76;have hr := dL_eq hat hs;have hr : Reads (parseChg (76 :: l)) _ _ _ := hr;generalize spN 2 0 4095 P = A at *
    by_cases hbad : A.2.bad = true ∨ (T A.1).isSome ≠ decide ([(76 : UInt8)] ≠ [76])
    ·rw [if_pos hbad];refine (not_reads hr ?_).symm;rcases hbad with hb | hb
     ·exact Or.inl (spN_bad (spN_bad hb))
     ·right;show ((T A.1).isNone && decide (T.live < 12)) = false;cases ht : T A.1 with
      | none => rw [ht] at hb; exact absurd rfl hb
      | some x => rfl
    ·rw [if_neg hbad];have ht : (T A.1).isNone = true := by
      cases ht : T A.1 with
      | none => rfl
      | some x => exact absurd (Or.inr (by rw [ht]; exact fun h => by cases h)) hbad
     rw [mid76];by_cases hl : 12 ≤ T.live
     ·rw [if_pos hl];refine (not_reads hr (Or.inr ?_)).symm;show ((T A.1).isNone && decide (T.live < 12)) = false;rw [decide_eq_false (by omega), Bool.and_false]
     ·rw [if_neg hl];refine (end_reads hr ?_ (set_set T A.1 _).symm).symm;show ((T A.1).isNone && decide (T.live < 12)) = true;rw [ht, decide_eq_true (by omega)]; rfl
   ·have hk76 : decide ([k] ≠ [(76 : UInt8)]) = true := decide_eq_true (fun h => k76 (List.cons.inj h).1);rw [hk76];have hmm : ∀ (b : Bool) (o : Option Sess), ¬ (b = true ∨ o.isSome ≠ true) → ∃ x, o = some x := by
     intro b o h;cases o with
     | none => exact absurd (Or.inr (by simp)) h
     | some x => exact ⟨x, rfl⟩
    by_cases k84 : k = 84
    ·subst k84;have hr := dT_eq hat hs;have hr : Reads (parseChg (84 :: l)) _ _ _ := hr;generalize spN 2 0 4095 P = A at *
     rw [mid84];by_cases hbad : A.2.bad = true ∨ (T A.1).isSome ≠ true
     ·rw [if_pos hbad];refine (not_reads hr ?_).symm;rcases hbad with hb | hb
      ·exact Or.inl (spN_bad hb)
      ·exact Or.inr (by show (T A.1).isSome = false; simpa using hb)
     ·rw [if_neg hbad];obtain ⟨x, hx⟩ := hmm _ _ hbad;exact (end_reads hr (by show (T A.1).isSome = true; rw [hx]; rfl) (set_set T A.1 _).symm).symm
    ·by_cases k82 : k = 82
     ·subst k82;have hr := dR_eq hat hs;have hr : Reads (parseChg (82 :: l)) _ _ _ := hr;generalize spN 2 0 4095 P = A at *
      rw [mid82];by_cases hbad : A.2.bad = true ∨ (T A.1).isSome ≠ true
      ·rw [if_pos hbad];refine (not_reads hr ?_).symm;rcases hbad with hb | hb
       ·exact Or.inl (spN_bad (spN_bad hb))
       ·exact Or.inr (by show ((T A.1).isSome && _) = false; rw [show (T A.1).isSome = false by simpa using hb]; rfl)
      ·rw [if_neg hbad];obtain ⟨x, hx⟩ := hmm _ _ hbad;by_cases hb2 : (spN 4 0 maxT (spN 2 0 4095 A.2).2).2.bad = true ∨ (T (spN 2 0 4095 A.2).1).isSome = true
       ·rw [if_pos hb2];refine (not_reads hr ?_).symm;rcases hb2 with hb | hb
        ·exact Or.inl hb
        ·refine Or.inr ?_;show ((T A.1).isSome && (T (spN 2 0 4095 A.2).1).isNone) = false;cases ht : T (spN 2 0 4095 A.2).1 with
         | none => rw [ht] at hb; cases hb
         | some y => exact Bool.and_false _
       ·rw [if_neg hb2];refine (end_reads hr ?_ rfl).symm;show ((T A.1).isSome && (T (spN 2 0 4095 A.2).1).isNone) = true;cases ht : T (spN 2 0 4095 A.2).1 with
        | none => rw [hx]; rfl
        | some y => exact absurd (Or.inr (by rw [ht]; rfl)) hb2
     ·by_cases k83 : k = 83
      ·subst k83;have hr := dS_eq hat hs;have hr : Reads (parseChg (83 :: l)) _ _ _ := hr;generalize spN 2 0 4095 P = A at *
       rw [mid83];by_cases hbad : A.2.bad = true ∨ (T A.1).isSome ≠ true
       ·rw [if_pos hbad];refine (not_reads hr ?_).symm;rcases hbad with hb | hb
        ·exact Or.inl (spN_bad (spX_bad (spX_bad hb)))
        ·refine Or.inr ?_;show (match T A.1 with | some x => x.room _ | none => false) = false;cases ht : T A.1 with
         | none => rfl
         | some y => rw [ht] at hb; exact absurd rfl hb
       ·rw [if_neg hbad];obtain ⟨x, hx⟩ := hmm _ _ hbad;by_cases hb2 : ((T A.1).map fun x => x.room (spX 1 8 A.2).1) = some false
        ·rw [if_pos hb2];refine (not_reads hr (Or.inr ?_)).symm;show (match T A.1 with | some x => x.room (spX 1 8 A.2).1 | none => false) = false;rw [hx] at hb2 ⊢;injection hb2
        ·rw [if_neg hb2];refine (end_reads hr ?_ (set_set T A.1 _).symm).symm;show (match T A.1 with | some x => x.room (spX 1 8 A.2).1 | none => false) = true;rw [hx] at hb2 ⊢;cases hrm : x.room (spX 1 8 A.2).1 with
         | true => exact hrm
         | false => exact absurd (by show some (x.room _) = some false; rw [hrm]) hb2
      ·by_cases k88 : k = 88
       ·subst k88;have hr := dX_eq hat hs;have hr : Reads (parseChg (88 :: l)) _ _ _ := hr;generalize spN 2 0 4095 P = A at *
        rw [mid88];by_cases hbad : A.2.bad = true ∨ (T A.1).isSome ≠ true
        ·rw [if_pos hbad];refine (not_reads hr ?_).symm;rcases hbad with hb | hb
         ·exact Or.inl hb
         ·exact Or.inr (by show (T A.1).isSome = false; simpa using hb)
        ·rw [if_neg hbad];obtain ⟨x, hx⟩ := hmm _ _ hbad;exact (end_reads hr (by show (T A.1).isSome = true; rw [hx]; rfl) (set_set T A.1 _).symm).symm
       ·have h0 : T.takes (k :: l) = none := takes_no (by
         show atEnd (parseKind k l) = none
         unfold parseKind
         rw [if_neg k76, if_neg k84, if_neg k82, if_neg k83, if_neg k88, if_neg k85]; rfl)
        rw [h0, mid_else T k _ _ k76 k84 k82 k83 k88];show (if _ then none else none) = none;split <;> rfl
end Go.Proofs.YtmnajomkfnkmeaaGreatDoor
