import Derived.Test.YtmnajomkfnkmeaaGreatDoorRefM
import Derived.Deep.DeepCutAuto
import Derived.BigQuiet
namespace Go.Proofs.YtmnajomkfnkmeaaGreatDoor
open Go.RowKit
attribute [local go_sem] ofL_size
/-! THE DOCUMENT's OWN TABLE: what a change does -/
def put6 (w : World) (tb o : Nat) (a0 a1 a2 a3 a4 a5 : Value) : World :=
  (((((w.setCell ⟨tb, o, none⟩ a0).setCell ⟨tb, o + 1, none⟩ a1).setCell ⟨tb, o + 2, none⟩ a2).setCell ⟨tb, o + 3, none⟩ a3).setCell ⟨tb, o + 4, none⟩ a4).setCell ⟨tb, o + 5, none⟩ a5
theorem put6_fr (w : World) (tb o : Nat) (a0 a1 a2 a3 a4 a5 : Value) : Fr (fun b => b = tb) w (put6 w tb o a0 a1 a2 a3 a4 a5) :=
  ((((((Fr.refl (fun b => b = tb) w).setCell ⟨tb, o, none⟩ (fun _ => rfl) a0).setCell ⟨tb, o + 1, none⟩ (fun _ => rfl) a1).setCell ⟨tb, o + 2, none⟩ (fun _ => rfl) a2).setCell ⟨tb, o + 3, none⟩ (fun _ => rfl) a3).setCell ⟨tb, o + 4, none⟩ (fun _ => rfl) a4).setCell ⟨tb, o + 5, none⟩ (fun _ => rfl) a5
theorem put6_blk {w : World} {tb : Nat} {arr : Array Value} {T : TypeId} (h : Blk w tb arr T) (o : Nat) (a0 a1 a2 a3 a4 a5 : Value) :
    Blk (put6 w tb o a0 a1 a2 a3 a4 a5) tb ((((((arr.setIfInBounds o a0).setIfInBounds (o + 1) a1).setIfInBounds (o + 2) a2).setIfInBounds (o + 3) a3).setIfInBounds (o + 4) a4).setIfInBounds (o + 5) a5) T :=
  (((((h.set o a0).set (o + 1) a1).set (o + 2) a2).set (o + 3) a3).set (o + 4) a4).set (o + 5) a5
def upF (f : RF) (id : Nat) (g : Value × Value) : RF := fun i => if i = id then g else f i
theorem RT.put {w : World} {tb : Nat} {T : Tab} {f : RF} (h : RT w tb T f) {id : Nat} (hid : id < 4096) (x : Option Sess) (g : Value × Value) (hx : x = none → g = (nilS, nilS)) (hN : SO w g.1 (nmsOf x)) (hV : SO w g.2 (vlsOf x)) (hne : ∀ b, g.1.ownBlock = some b ∨ g.2.ownBlock = some b → b ≠ tb)
    (a0 a1 a2 a3 a4 a5 : Value) (hrow : rowV x g = [a0, a1, a2, a3, a4, a5]) : RT (put6 w tb (id * 6) a0 a1 a2 a3 a4 a5) tb (T.set id x) (upF f id g) := by
  obtain ⟨arr, hb, ha⟩ := h.arr
  have hfr := put6_fr w tb (id * 6) a0 a1 a2 a3 a4 a5
  have hsz : id * 6 + 5 < arr.size := by
    have := ha id hid 5 (by decide)
    cases hq : arr[id * 6 + 5]? with
    | none => rw [hq] at this; cases hT : T id <;> rw [hT] at this <;> cases this
    | some v => exact (Array.getElem?_eq_some_iff.1 hq).1
  have hkeep : ∀ (s : Value) (l : List Bs), SO w s l → (∀ b, s.ownBlock = some b → b ≠ tb) → SO (put6 w tb (id * 6) a0 a1 a2 a3 a4 a5) s l := fun s l hs hn => hs.kept hfr (fun b hb e => hn b hb e)
  refine ⟨⟨_, put6_blk hb (id * 6) a0 a1 a2 a3 a4 a5, fun i hi j hj => ?_⟩, fun i hi => ?_, fun i hi => ?_, fun i hi ht => ?_, fun i hi b hb => ?_⟩
  · simp only [Array.getElem?_setIfInBounds, Array.size_setIfInBounds]
    by_cases e : i = id
    · subst e
      have e1 : (T.set i x) i = x := by unfold Tab.set; rw [if_pos rfl]
      have e2 : upF f i g i = g := by unfold upF; rw [if_pos rfl]
      rw [e1, e2, hrow]
      obtain rfl | rfl | rfl | rfl | rfl | rfl : j = 0 ∨ j = 1 ∨ j = 2 ∨ j = 3 ∨ j = 4 ∨ j = 5 := by omega
      · rw [if_neg (by omega), if_neg (by omega), if_neg (by omega), if_neg (by omega), if_neg (by omega), if_pos (by omega), if_pos (by omega)]; rfl
      · rw [if_neg (by omega), if_neg (by omega), if_neg (by omega), if_neg (by omega), if_pos (by omega), if_pos (by omega)]; rfl
      · rw [if_neg (by omega), if_neg (by omega), if_neg (by omega), if_pos (by omega), if_pos (by omega)]; rfl
      · rw [if_neg (by omega), if_neg (by omega), if_pos (by omega), if_pos (by omega)]; rfl
      · rw [if_neg (by omega), if_pos (by omega), if_pos (by omega)]; rfl
      · rw [if_pos (by omega), if_pos (by omega)]; rfl
    · have e1 : (T.set id x) i = T i := by unfold Tab.set; rw [if_neg e]
      have e2 : upF f id g i = f i := by unfold upF; rw [if_neg e]
      rw [e1, e2, if_neg (by omega), if_neg (by omega), if_neg (by omega), if_neg (by omega), if_neg (by omega), if_neg (by omega)]
      exact ha i hi j hj
  · unfold upF Tab.set
    by_cases e : i = id
    · rw [if_pos e, if_pos e]; exact hkeep _ _ hN (fun b hb => hne b (Or.inl hb))
    · rw [if_neg e, if_neg e]; exact hkeep _ _ (h.nms i hi) (fun b hb => h.ne i hi b (Or.inl hb))
  · unfold upF Tab.set
    by_cases e : i = id
    · rw [if_pos e, if_pos e]; exact hkeep _ _ hV (fun b hb => hne b (Or.inr hb))
    · rw [if_neg e, if_neg e]; exact hkeep _ _ (h.vls i hi) (fun b hb => h.ne i hi b (Or.inr hb))
  · unfold upF
    unfold Tab.set at ht
    by_cases e : i = id
    · rw [if_pos e] at ht ⊢; exact hx ht
    · rw [if_neg e] at ht ⊢; exact h.dead i hi ht
  · unfold upF at hb
    by_cases e : i = id
    · rw [if_pos e] at hb; exact hne b hb
    · rw [if_neg e] at hb; exact h.ne i hi b hb
/-- what a change leaves -/
def RTTo (w : World) (tb : Nat) (f : RF) (T' : Tab) (w' : World) : Prop := ∃ f', RT w' tb T' f' ∧ Fr (fun b => b = tb) w w' ∧ ∀ b, rfoot tb f' b → rfoot tb f b ∨ w.heap.size ≤ b
theorem upF_foot {tb id : Nat} {f : RF} {g : Value × Value} {b : Nat} (h : rfoot tb (upF f id g) b) : rfoot tb f b ∨ g.1.ownBlock = some b ∨ g.2.ownBlock = some b := by
  rcases h with h | ⟨i, hi, h⟩
  · exact Or.inl (Or.inl h)
  · unfold upF at h
    by_cases e : i = id
    · rw [if_pos e] at h; exact Or.inr h
    · rw [if_neg e] at h; exact Or.inl (Or.inr ⟨i, hi, h⟩)
/-- one session goes -/
theorem RT.kill {w : World} {tb : Nat} {T : Tab} {f : RF} (h : RT w tb T f) {id : Nat} (hid : id < 4096) : RT (put6 w tb (id * 6) (.bool false) (.int .i64 0) (.int .i64 0) (.int .i64 0) (.slice none 0 0) (.slice none 0 0)) tb (T.set id none) (upF f id (nilS, nilS)) :=
  h.put hid none (nilS, nilS) (fun _ => rfl) (Own.nil _ _ _ _) (Own.nil _ _ _ _) (fun b hb => by rcases hb with hb | hb <;> cases hb) _ _ _ _ _ _ rfl
def killK (T : Tab) (u k : Nat) : Tab := fun i => if i < k then T.does (.U u) i else T i
theorem killK_zero (T : Tab) (u : Nat) : killK T u 0 = T := by funext i; unfold killK; rw [if_neg (Nat.not_lt_zero _)]
theorem killK_same {T : Tab} {u k : Nat} (h : T.does (.U u) k = T k) : killK T u (k + 1) = killK T u k := by
  funext i
  unfold killK
  by_cases h1 : i < k
  · rw [if_pos h1, if_pos (by omega)]
  · by_cases h2 : i = k
    · subst h2; rw [if_pos (by omega), if_neg h1, h]
    · rw [if_neg h1, if_neg (by omega)]
theorem killK_dead {T : Tab} {u k : Nat} (h : T.does (.U u) k = none) : killK T u (k + 1) = (killK T u k).set k none := by
  funext i
  show (if i < k + 1 then T.does (.U u) i else T i) = (if i = k then none else (if i < k then T.does (.U u) i else T i))
  by_cases h2 : i = k
  · subst h2; rw [if_pos (by omega), if_pos rfl, h]
  · by_cases h1 : i < k
    · rw [if_pos (by omega), if_neg h2, if_pos h1]
    · rw [if_neg (by omega), if_neg h2, if_neg h1]
theorem killK_all {T : Tab} {u : Nat} (h : ∀ i x, T i = some x → i < 4096) : killK T u 4096 = T.does (.U u) := by
  funext i
  unfold killK
  by_cases h1 : i < 4096
  · rw [if_pos h1]
  · rw [if_neg h1]
    cases ht : T i with
    | none => show none = (match T i with | some x => if x.user = u then none else some x | none => none); rw [ht]
    | some x => exact absurd (h i x ht) h1
theorem RT.all6 {w : World} {tb : Nat} {T : Tab} {f : RF} (h : RT w tb T f) {i : Nat} (hi : i < 4096) :
    ∃ v0 v1 v2 v3 v4 v5, w.cell? ⟨tb, i * 6, none⟩ = some v0 ∧ w.cell? ⟨tb, i * 6 + 1, none⟩ = some v1 ∧ w.cell? ⟨tb, i * 6 + 2, none⟩ = some v2 ∧ w.cell? ⟨tb, i * 6 + 3, none⟩ = some v3 ∧ w.cell? ⟨tb, i * 6 + 4, none⟩ = some v4 ∧ w.cell? ⟨tb, i * 6 + 5, none⟩ = some v5 := by
  cases ht : T i with
  | none => obtain ⟨c0, c1, c2, c3, c4, c5⟩ := h.zero hi ht; exact ⟨_, _, _, _, _, _, c0, c1, c2, c3, c4, c5⟩
  | some x => obtain ⟨c0, c1, c2, c3, c4, c5⟩ := h.six hi ht; exact ⟨_, _, _, _, _, _, c0, c1, c2, c3, c4, c5⟩
/-- whether the change U is fit -/
def fitU (T : Tab) (q : Sp) (u : Nat) : Bool := !q.bad && (decide (q.pos = q.s.length) && decide (T.ofUser u ≠ 0))
set_option maxRecDepth 100000 in
set_option maxHeartbeats 8000000 in
theorem rall_any (tb : Nat) (T : Tab) (f : RF) (sb : Nat) (p : Sp) (w : World) (h : RT w tb T f) (hs : SpotAt w sb p) (hp : p.pos ≤ p.s.length) (hl : p.s.length ≤ 1000000) (hne : ¬ rfoot tb f sb) (hT : ∀ i x, T i = some x → i < 4096) :
    Calls Tryz.prog 137 #[.slice (some ⟨tb, 0, none⟩) 4096 4096, .pointer (some ⟨sb, 0, none⟩)] w fun e w' => e = .returned (.bool (fitU T (spN 1 1 99 p).2 (spN 1 1 99 p).1)) ∧
      ∃ f', RT w' tb (if fitU T (spN 1 1 99 p).2 (spN 1 1 99 p).1 = true then T.does (.U (spN 1 1 99 p).1) else T) f' ∧ Fr (fun b => b = tb ∨ b = sb) w w' ∧ ∀ b, rfoot tb f' b → rfoot tb f b := by
  have H : Hid (RT w tb T f) := h
  have HNE : Hid (¬ rfoot tb f sb) := hne
  have HT : Hid (∀ i x, T i = some x → i < 4096) := hT
  have HSP : Hid (Calls _ _ _ _ _) := spnI sb p 1 1 99 1 1 99 w hs hp hl (by decide) rfl rfl rfl
  have hu1 := (spN_le (w := 1) (lo := 1) (hi := 99) (p := p) (by decide)).2
  have hu2 := (spN_le (w := 1) (lo := 1) (hi := 99) (p := p) (by decide)).1
  have hq1 := spN_pos (w := 1) (lo := 1) (hi := 99) hp
  have hq2 := spN_s 1 1 99 p
  rw [← hq2] at hl
  generalize (spN 1 1 99 p).1 = u at *
  generalize (spN 1 1 99 p).2 = q at *
  clear h hs hp hne hT hq1 hq2
  obtain ⟨A, hA⟩ : ∃ A, A = fitU T q u := ⟨_, rfl⟩
  have HA : Hid (A = (!q.bad && (decide (q.pos = q.s.length) && decide (T.ofUser u ≠ 0)))) := hA
  rw [← hA]
  clear hA
  go_enter Tryz.func137, Tryz.ntmps137
  go_wp2_with fail
  refine HSP.out.mono ?_
  rintro e w1 ⟨rfl, hsp1, hf1⟩
  have HF1 : Hid (Fr (fun b => b = sb) w w1) := hf1
  have H1 : Hid (RT w1 tb T f) := H.out.kept hf1 (fun b hb e => HNE.out (e ▸ hb))
  have HS1 : Hid (SpotAt w1 sb q) := hsp1
  have HOF : Hid (Calls _ _ _ _ _) := rofuser_any tb T f u w1 H1.out
  clear hsp1 hf1 HSP
  generalize hofu : T.ofUser u = ou at *
  clear hofu
  go_wp2_with fail
  refine HOF.out.mono ?_
  rintro e w' ⟨rfl, hw'⟩
  subst w'
  clear HOF
  go_upto_region 3 with fail
  go_cut [32] (fun cv wx => cv = .bool (!A) ∧ Hid (Below w1.heap.size w1 wx))
  case first =>
    have c0 := Blk.cell HS1.out 0
    have c1 := Blk.cell HS1.out 1
    have c2 := Blk.cell HS1.out 2
    simp only [List.getElem?_toArray, List.getElem?_cons_zero, List.getElem?_cons_succ] at c0 c1 c2
    have ha := HA.out
    clear HA
    cases hb : q.bad with
    | true =>
      rw [hb] at c2 ha
      change A = false at ha
      subst ha
      clear hb
      go_quiet (fail)
      go_wp2_with fail
      go_meet
      case rel => exact ⟨rfl, below_drewN (Below.refl _ _) _⟩
    | false =>
      rw [hb] at c2 ha
      by_cases hpl : q.pos = q.s.length
      · rw [decide_eq_true hpl] at ha
        rw [hpl] at c1
        by_cases ho : ou = 0
        · rw [decide_eq_false (by simpa using ho)] at ha
          change A = false at ha
          subst ha
          subst ho
          clear hb hpl
          go_quiet (fail)
          go_wp2_with fail
          go_meet
          case rel => exact ⟨rfl, below_drewN (Below.refl _ _) _⟩
        · rw [decide_eq_true ho] at ha
          change A = true at ha
          subst ha
          have ho2 : ((ou : Int) == 0) = false := by rw [Bool.eq_false_iff]; intro e; rw [beq_iff_eq] at e; omega
          clear hb hpl ho
          go_quiet (fail)
          go_wp2_with fail
          go_meet
          case rel => exact ⟨rfl, below_drewN (Below.refl _ _) _⟩
      · rw [decide_eq_false hpl] at ha
        change A = false at ha
        subst ha
        have hp2 : ((q.pos : Int) != (q.s.length : Int)) = true := by rw [bne_iff_ne]; intro e; omega
        clear hb hpl
        go_quiet (fail)
        go_wp2_with fail
        go_meet
        case rel => exact ⟨rfl, below_drewN (Below.refl _ _) _⟩
  case rest =>
  obtain ⟨rfl, HB2⟩ := hcut
  have H2 : Hid (RT wc tb T f) := H1.out.below HB2.out
  have HF2 : Hid (Fr (fun b => b = tb ∨ b = sb) w wc) := (HF1.out.mono (fun b _ e => Or.inr e)).trans (Fr.of_below (S := fun _ => False) HB2.out) (fun _ _ h => h.elim)
  clear HA
  cases A with
  | false =>
    go_wp2_with fail
    go_ret
    exact ⟨rfl, f, H2.out, HF2.out, fun b hb => hb⟩
  | true =>
    go_wp2_with fail
    go_loopw [7] (fun iv wx => ∃ (k : Nat) (fk : RF), k ≤ 4096 ∧ iv = .int .i64 k ∧ Hid (RT wx tb (killK T u k) fk) ∧ Hid (Fr (fun b => b = tb ∨ b = sb) w wx) ∧ Hid (∀ b, rfoot tb fk b → rfoot tb f b)) (fun iv _ => 4096 - (intOf iv).toNat)
    case atStart => exact ⟨0, f, by omega, rfl, by rw [killK_zero]; exact H2.out, HF2.out, fun b hb => hb⟩
    case round =>
      obtain ⟨k, fk, hk, rfl, HR, HF, HFT⟩ := hrel
      by_cases hlt : k < 4096
      · have hus := HR.out.user hlt
        obtain ⟨v0, v1, v2, v3, v4, v5, c0, c1, c2, c3, c4, c5⟩ := HR.out.all6 hlt
        have f0 := HR.out.frozen (k * 6)
        have f1 := HR.out.frozen (k * 6 + 1)
        have f2 := HR.out.frozen (k * 6 + 2)
        have f3 := HR.out.frozen (k * 6 + 3)
        have f4 := HR.out.frozen (k * 6 + 4)
        have f5 := HR.out.frozen (k * 6 + 5)
        have hkk : killK T u k k = T k := by unfold killK; rw [if_neg (by omega)]
        rw [hkk] at hus
        have HKI : Hid (RT (put6 wr tb (k * 6) (.bool false) (.int .i64 0) (.int .i64 0) (.int .i64 0) (.slice none 0 0) (.slice none 0 0)) tb ((killK T u k).set k none) (upF fk k (nilS, nilS))) := HR.out.kill hlt
        have HKF : Hid (Fr (fun b => b = tb ∨ b = sb) w (put6 wr tb (k * 6) (.bool false) (.int .i64 0) (.int .i64 0) (.int .i64 0) (.slice none 0 0) (.slice none 0 0))) := HF.out.trans (put6_fr _ _ _ _ _ _ _ _ _) (fun b _ e => Or.inl e)
        have HKT : Hid (∀ b, rfoot tb (upF fk k (nilS, nilS)) b → rfoot tb f b) := fun b hb => by
          rcases upF_foot hb with h | h | h
          · exact HFT.out b h
          · cases h
          · cases h
        by_cases hx : ∃ x, T k = some x ∧ x.user = u
        · obtain ⟨x, hx1, hx2⟩ := hx
          have HD : Hid (T.does (.U u) k = none) := by show (match T k with | some x => if x.user = u then none else some x | none => none) = none; rw [hx1]; exact if_pos hx2
          rw [hx1] at hus
          change wr.cell? ⟨tb, k * 6 + 1, none⟩ = some (.int .i64 (x.user : Int)) at hus
          rw [hx2] at hus
          rw [hus] at c1
          injection c1 with c1
          subst c1
          clear hkk hx1 hx2
          go_wp2_with fail
          go_roundw
          case rel => exact ⟨k + 1, _, hlt, by go_num, by rw [killK_dead HD.out]; exact HKI.out, HKF.out, HKT.out⟩
          case measure => simp [intOf]; omega
        · have HD : Hid (T.does (.U u) k = T k) := by
            show (match T k with | some x => if x.user = u then none else some x | none => none) = T k
            cases ht : T k with
            | none => rfl
            | some x => exact if_neg (fun e => hx ⟨x, ht, e⟩)
          have hub : ∃ z : Int, wr.cell? ⟨tb, k * 6 + 1, none⟩ = some (.int .i64 z) ∧ (z == (u : Int)) = false := by
            cases ht : T k with
            | none =>
              rw [ht] at hus
              exact ⟨0, hus, by rw [Bool.eq_false_iff]; intro e; rw [beq_iff_eq] at e; omega⟩
            | some x =>
              rw [ht] at hus
              exact ⟨x.user, hus, by rw [Bool.eq_false_iff]; intro e; rw [beq_iff_eq] at e; exact hx ⟨x, ht, by omega⟩⟩
          obtain ⟨z, hz1, hz2⟩ := hub
          clear hus c1 hx hkk
          go_wp2_with fail
          go_roundw
          case rel => exact ⟨k + 1, fk, hlt, by go_num, by rw [killK_same HD.out]; exact HR.out, HF.out, HFT.out⟩
          case measure => simp [intOf]; omega
      · have hke : k = 4096 := by omega
        subst hke
        go_wp2_with fail
        go_ret
        refine ⟨rfl, fk, ?_, HF.out, HFT.out⟩
        have hr := HR.out
        rw [killK_all HT.out] at hr
        exact hr
end Go.Proofs.YtmnajomkfnkmeaaGreatDoor
