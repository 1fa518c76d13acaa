import Derived.Test.YtmnajomkfnkmeaaGreatDoorRefD
namespace Go.Proofs.YtmnajomkfnkmeaaGreatDoor
open Go.RowKit
/-! THE DOCUMENT's OWN TABLE: what Do says of a payload, in its own order of reading -/
def sp0 (p : Bs) : Sp := ⟨p, 0, false⟩
def rkind (p : Bs) : Bs := (spTake 1 (sp0 p)).1
def rid (p : Bs) : Nat × Sp := spN 2 0 4095 (spTake 1 (sp0 p)).2
/-- behind the kind's own arm: the spot, where the session goes, what it is -/
def midOf (T : Tab) (kd : Bs) (id : Nat) (q : Sp) : Option (Sp × Nat × Option Sess) :=
  if kd = [76] then if 12 ≤ T.live then none else some ((spN 4 0 maxT (spN 1 1 99 q).2).2, id, some ⟨(spN 1 1 99 q).1, (spN 4 0 maxT (spN 1 1 99 q).2).1, (spN 4 0 maxT (spN 1 1 99 q).2).1, []⟩)
  else if kd = [84] then some ((spN 4 0 maxT q).2, id, (T id).map fun x => { x with used := (spN 4 0 maxT q).1 })
  else if kd = [82] then
    if (spN 4 0 maxT (spN 2 0 4095 q).2).2.bad = true ∨ (T (spN 2 0 4095 q).1).isSome = true then none
    else some ((spN 4 0 maxT (spN 2 0 4095 q).2).2, (spN 2 0 4095 q).1, (T id).map fun x => { x with used := (spN 4 0 maxT (spN 2 0 4095 q).2).1 })
  else if kd = [83] then
    if ((T id).map fun x => x.room (spX 1 8 q).1) = some false then none
    else some ((spN 4 0 maxT (spX 0 8 (spX 1 8 q).2).2).2, id, (T id).map fun x => { x with vals := setVal (spX 1 8 q).1 (spX 0 8 (spX 1 8 q).2).1 x.vals, used := (spN 4 0 maxT (spX 0 8 (spX 1 8 q).2).2).1 })
  else if kd = [88] then some (q, id, none)
  else none
theorem mid76 (T : Tab) (id : Nat) (q : Sp) : midOf T [76] id q = if 12 ≤ T.live then none else some ((spN 4 0 maxT (spN 1 1 99 q).2).2, id, some ⟨(spN 1 1 99 q).1, (spN 4 0 maxT (spN 1 1 99 q).2).1, (spN 4 0 maxT (spN 1 1 99 q).2).1, []⟩) := if_pos rfl
theorem mid84 (T : Tab) (id : Nat) (q : Sp) : midOf T [84] id q = some ((spN 4 0 maxT q).2, id, (T id).map fun x => { x with used := (spN 4 0 maxT q).1 }) := by
  unfold midOf; rw [if_neg (by decide), if_pos rfl]
theorem mid82 (T : Tab) (id : Nat) (q : Sp) : midOf T [82] id q = if (spN 4 0 maxT (spN 2 0 4095 q).2).2.bad = true ∨ (T (spN 2 0 4095 q).1).isSome = true then none
    else some ((spN 4 0 maxT (spN 2 0 4095 q).2).2, (spN 2 0 4095 q).1, (T id).map fun x => { x with used := (spN 4 0 maxT (spN 2 0 4095 q).2).1 }) := by
  unfold midOf; rw [if_neg (by decide), if_neg (by decide), if_pos rfl]
theorem mid83 (T : Tab) (id : Nat) (q : Sp) : midOf T [83] id q = if ((T id).map fun x => x.room (spX 1 8 q).1) = some false then none
    else some ((spN 4 0 maxT (spX 0 8 (spX 1 8 q).2).2).2, id, (T id).map fun x => { x with vals := setVal (spX 1 8 q).1 (spX 0 8 (spX 1 8 q).2).1 x.vals, used := (spN 4 0 maxT (spX 0 8 (spX 1 8 q).2).2).1 }) := by
  unfold midOf; rw [if_neg (by decide), if_neg (by decide), if_neg (by decide), if_pos rfl]
theorem mid88 (T : Tab) (id : Nat) (q : Sp) : midOf T [88] id q = some (q, id, none) := by
  unfold midOf; rw [if_neg (by decide), if_neg (by decide), if_neg (by decide), if_neg (by decide), if_pos rfl]
theorem mid_else (T : Tab) (k : UInt8) (id : Nat) (q : Sp) (h1 : k ≠ 76) (h2 : k ≠ 84) (h3 : k ≠ 82) (h4 : k ≠ 83) (h5 : k ≠ 88) : midOf T [k] id q = none := by
  unfold midOf
  rw [if_neg (fun h => h1 (List.cons.inj h).1), if_neg (fun h => h2 (List.cons.inj h).1), if_neg (fun h => h3 (List.cons.inj h).1), if_neg (fun h => h4 (List.cons.inj h).1), if_neg (fun h => h5 (List.cons.inj h).1)]
theorem take_cons (k : UInt8) (l : Bs) : spTake 1 (sp0 (k :: l)) = ([k], ⟨k :: l, 1, false⟩) := by
  unfold spTake sp0
  rw [if_neg (by simp)]
  rfl
theorem at_cons (k : UInt8) (l : Bs) : (⟨k :: l, 1, false⟩ : Sp).at l := ⟨rfl, by simp, rfl⟩
theorem set_set (T : Tab) (id : Nat) (x : Option Sess) : (T.set id none).set id x = T.set id x := by
  funext i
  unfold Tab.set
  by_cases e : i = id
  · rw [if_pos e, if_pos e]
  · rw [if_neg e, if_neg e, if_neg e]
/-- what Do answers behind its arms -/
def endOf (T : Tab) (id n : Nat) : Option (Sp × Nat × Option Sess) → Option Tab
  | none => none
  | some (q, d, x) => if q.bad = false ∧ q.pos = n then some ((T.set id none).set d x) else none
/-- what Do leaves of a table -/
def refDo (T : Tab) (p : Bs) : Option Tab :=
  if rkind p = [85] then if fitU T (spN 1 1 99 (spTake 1 (sp0 p)).2).2 (spN 1 1 99 (spTake 1 (sp0 p)).2).1 = true then some (T.does (.U (spN 1 1 99 (spTake 1 (sp0 p)).2).1)) else none
  else if (rid p).2.bad = true ∨ (T (rid p).1).isSome ≠ decide (rkind p ≠ [76]) then none
  else endOf T (rid p).1 p.length (midOf T (rkind p) (rid p).1 (rid p).2)
/-- an arm that was read to its end -/
theorem end_reads {T : Tab} {p : Bs} {q : Sp} {c : Chg} {id d : Nat} {x : Option Sess} (h : Reads (parseChg p) q p.length c) (ha : T.allows c = true) (hd : T.does c = (T.set id none).set d x) : T.takes p = endOf T id p.length (some (q, d, x)) := by
  unfold endOf
  rcases h with ⟨hf, e⟩ | ⟨hf, e⟩
  · show _ = if q.bad = false ∧ q.pos = p.length then _ else _
    rw [if_pos (show q.bad = false ∧ q.pos = p.length from hf), takes_yes e ha, hd]
  · show _ = if q.bad = false ∧ q.pos = p.length then _ else _
    rw [if_neg (show ¬ (q.bad = false ∧ q.pos = p.length) from hf), takes_no e]
theorem not_reads {T : Tab} {p : Bs} {q : Sp} {c : Chg} (h : Reads (parseChg p) q p.length c) (ha : q.bad = true ∨ T.allows c = false) : T.takes p = none := by
  rcases takes_reads (T := T) h with ⟨hf, h1, _⟩ | ⟨_, h2⟩
  · rcases ha with ha | ha
    · rw [hf.1] at ha; cases ha
    · rw [h1] at ha; cases ha
  · exact h2
theorem refDo_eq (T : Tab) (p : Bs) : refDo T p = T.takes p := by
  cases p with
  | nil =>
    have h0 : T.takes [] = none := takes_no rfl
    have hk : rkind [] = [0] := by unfold rkind spTake sp0; rw [if_pos (by simp)]; rfl
    have hb : (rid []).2.bad = true := by unfold rid; exact spN_bad (by unfold spTake sp0; rw [if_pos (by simp)])
    unfold refDo
    rw [hk, if_neg (by decide), if_pos (Or.inl hb), h0]
  | cons k l =>
    have hk : rkind (k :: l) = [k] := by unfold rkind; rw [take_cons]
    have hi : rid (k :: l) = spN 2 0 4095 ⟨k :: l, 1, false⟩ := by unfold rid; rw [take_cons]
    have hat := at_cons k l
    obtain ⟨P, hP⟩ : ∃ P : Sp, P = ⟨k :: l, 1, false⟩ := ⟨_, rfl⟩
    have hs : P.s.length = (k :: l).length := by rw [hP]
    rw [← hP] at hat
    unfold refDo
    rw [hk, hi, take_cons, ← hP]
    by_cases k85 : k = 85
    · subst k85
      have hr := dU_eq hat hs
      have hr : Reads (parseChg (85 :: l)) _ _ _ := hr
      have hss : (spN 1 1 99 P).2.s.length = (85 :: l).length := by rw [spN_s, hs]
      rw [if_pos rfl]
      unfold fitU
      rcases takes_reads (T := T) hr with ⟨hf, h1, h2⟩ | ⟨h1, h2⟩
      · simp only [Tab.allows, decide_eq_true_eq] at h1
        rw [h2, if_pos]
        simp only [Bool.and_eq_true, Bool.not_eq_true', decide_eq_true_eq]
        exact ⟨hf.1, by rw [hf.2, hss], by omega⟩
      · rw [h2, if_neg]
        intro hh
        simp only [Bool.and_eq_true, Bool.not_eq_true', decide_eq_true_eq] at hh
        rcases h1 with h1 | h1
        · exact h1 ⟨hh.1, by rw [hh.2.1, hss]⟩
        · simp only [Tab.allows, decide_eq_false_iff_not] at h1
          omega
    · rw [if_neg (fun h => k85 (List.cons.inj h).1)]
      by_cases k76 : k = 76
      · subst k76
        have hr := dL_eq hat hs
        have hr : Reads (parseChg (76 :: l)) _ _ _ := hr
        generalize spN 2 0 4095 P = A at *
        by_cases hbad : A.2.bad = true ∨ (T A.1).isSome ≠ decide ([(76 : UInt8)] ≠ [76])
        · rw [if_pos hbad]
          refine (not_reads hr ?_).symm
          rcases hbad with hb | hb
          · exact Or.inl (spN_bad (spN_bad hb))
          · right
            show ((T A.1).isNone && decide (T.live < 12)) = false
            cases ht : T A.1 with
            | none => rw [ht] at hb; exact absurd rfl hb
            | some x => rfl
        · rw [if_neg hbad]
          have ht : (T A.1).isNone = true := by
            cases ht : T A.1 with
            | none => rfl
            | some x => exact absurd (Or.inr (by rw [ht]; exact fun h => by cases h)) hbad
          rw [mid76]
          by_cases hl : 12 ≤ T.live
          · rw [if_pos hl]
            refine (not_reads hr (Or.inr ?_)).symm
            show ((T A.1).isNone && decide (T.live < 12)) = false
            rw [decide_eq_false (by omega), Bool.and_false]
          · rw [if_neg hl]
            refine (end_reads hr ?_ (set_set T A.1 _).symm).symm
            show ((T A.1).isNone && decide (T.live < 12)) = true
            rw [ht, decide_eq_true (by omega)]; rfl
      · have hk76 : decide ([k] ≠ [(76 : UInt8)]) = true := decide_eq_true (fun h => k76 (List.cons.inj h).1)
        rw [hk76]
        have hmm : ∀ (b : Bool) (o : Option Sess), ¬ (b = true ∨ o.isSome ≠ true) → ∃ x, o = some x := by
          intro b o h
          cases o with
          | none => exact absurd (Or.inr (by simp)) h
          | some x => exact ⟨x, rfl⟩
        by_cases k84 : k = 84
        · subst k84
          have hr := dT_eq hat hs
          have hr : Reads (parseChg (84 :: l)) _ _ _ := hr
          generalize spN 2 0 4095 P = A at *
          rw [mid84]
          by_cases hbad : A.2.bad = true ∨ (T A.1).isSome ≠ true
          · rw [if_pos hbad]
            refine (not_reads hr ?_).symm
            rcases hbad with hb | hb
            · exact Or.inl (spN_bad hb)
            · exact Or.inr (by show (T A.1).isSome = false; simpa using hb)
          · rw [if_neg hbad]
            obtain ⟨x, hx⟩ := hmm _ _ hbad
            exact (end_reads hr (by show (T A.1).isSome = true; rw [hx]; rfl) (set_set T A.1 _).symm).symm
        · by_cases k82 : k = 82
          · subst k82
            have hr := dR_eq hat hs
            have hr : Reads (parseChg (82 :: l)) _ _ _ := hr
            generalize spN 2 0 4095 P = A at *
            rw [mid82]
            by_cases hbad : A.2.bad = true ∨ (T A.1).isSome ≠ true
            · rw [if_pos hbad]
              refine (not_reads hr ?_).symm
              rcases hbad with hb | hb
              · exact Or.inl (spN_bad (spN_bad hb))
              · exact Or.inr (by show ((T A.1).isSome && _) = false; rw [show (T A.1).isSome = false by simpa using hb]; rfl)
            · rw [if_neg hbad]
              obtain ⟨x, hx⟩ := hmm _ _ hbad
              by_cases hb2 : (spN 4 0 maxT (spN 2 0 4095 A.2).2).2.bad = true ∨ (T (spN 2 0 4095 A.2).1).isSome = true
              · rw [if_pos hb2]
                refine (not_reads hr ?_).symm
                rcases hb2 with hb | hb
                · exact Or.inl hb
                · refine Or.inr ?_
                  show ((T A.1).isSome && (T (spN 2 0 4095 A.2).1).isNone) = false
                  cases ht : T (spN 2 0 4095 A.2).1 with
                  | none => rw [ht] at hb; cases hb
                  | some y => exact Bool.and_false _
              · rw [if_neg hb2]
                refine (end_reads hr ?_ rfl).symm
                show ((T A.1).isSome && (T (spN 2 0 4095 A.2).1).isNone) = true
                cases ht : T (spN 2 0 4095 A.2).1 with
                | none => rw [hx]; rfl
                | some y => exact absurd (Or.inr (by rw [ht]; rfl)) hb2
          · by_cases k83 : k = 83
            · subst k83
              have hr := dS_eq hat hs
              have hr : Reads (parseChg (83 :: l)) _ _ _ := hr
              generalize spN 2 0 4095 P = A at *
              rw [mid83]
              by_cases hbad : A.2.bad = true ∨ (T A.1).isSome ≠ true
              · rw [if_pos hbad]
                refine (not_reads hr ?_).symm
                rcases hbad with hb | hb
                · exact Or.inl (spN_bad (spX_bad (spX_bad hb)))
                · refine Or.inr ?_
                  show (match T A.1 with | some x => x.room _ | none => false) = false
                  cases ht : T A.1 with
                  | none => rfl
                  | some y => rw [ht] at hb; exact absurd rfl hb
              · rw [if_neg hbad]
                obtain ⟨x, hx⟩ := hmm _ _ hbad
                by_cases hb2 : ((T A.1).map fun x => x.room (spX 1 8 A.2).1) = some false
                · rw [if_pos hb2]
                  refine (not_reads hr (Or.inr ?_)).symm
                  show (match T A.1 with | some x => x.room (spX 1 8 A.2).1 | none => false) = false
                  rw [hx] at hb2 ⊢
                  injection hb2
                · rw [if_neg hb2]
                  refine (end_reads hr ?_ (set_set T A.1 _).symm).symm
                  show (match T A.1 with | some x => x.room (spX 1 8 A.2).1 | none => false) = true
                  rw [hx] at hb2 ⊢
                  cases hrm : x.room (spX 1 8 A.2).1 with
                  | true => exact hrm
                  | false => exact absurd (by show some (x.room _) = some false; rw [hrm]) hb2
            · by_cases k88 : k = 88
              · subst k88
                have hr := dX_eq hat hs
                have hr : Reads (parseChg (88 :: l)) _ _ _ := hr
                generalize spN 2 0 4095 P = A at *
                rw [mid88]
                by_cases hbad : A.2.bad = true ∨ (T A.1).isSome ≠ true
                · rw [if_pos hbad]
                  refine (not_reads hr ?_).symm
                  rcases hbad with hb | hb
                  · exact Or.inl hb
                  · exact Or.inr (by show (T A.1).isSome = false; simpa using hb)
                · rw [if_neg hbad]
                  obtain ⟨x, hx⟩ := hmm _ _ hbad
                  exact (end_reads hr (by show (T A.1).isSome = true; rw [hx]; rfl) (set_set T A.1 _).symm).symm
              · have h0 : T.takes (k :: l) = none := takes_no (by
                  show atEnd (parseKind k l) = none
                  unfold parseKind
                  rw [if_neg k76, if_neg k84, if_neg k82, if_neg k83, if_neg k88, if_neg k85]; rfl)
                rw [h0, mid_else T k _ _ k76 k84 k82 k83 k88]
                show (if _ then none else none) = none
                split <;> rfl
end Go.Proofs.YtmnajomkfnkmeaaGreatDoor
