import Derived.Test.YtmnajomkfnkmeaaGreatDoorRefA
import Derived.Test.YtmnajomkfnkmeaaGreatDoorKa
namespace Go.Proofs.YtmnajomkfnkmeaaGreatDoor
open Go.RowKit
attribute [local go_sem] ofL_size
theorem belowAt {B : Nat} {w w' : World} (h : Below B w w') {a : Addr} (ha : a.block < B) : w'.cell? a = w.cell? a := World.cell?_of_block (w := w) (h.block a.block ha)
theorem soShape {w : World} {sv : Value} {ps : List Bs} (h : SO w sv ps) : (sv = .slice none 0 0 ∧ ps.length = 0) ∨ ∃ q cap, sv = .slice (some ⟨q, 0, none⟩) ps.length cap := by
  rcases h.cases with ⟨h1, h2⟩ | ⟨q, cap, h1, _⟩
  · exact Or.inl ⟨h1, by rw [h2]; rfl⟩
  · exact Or.inr ⟨q, cap, h1⟩
theorem strPush {w : World} {sv : Value} {ps : List Bs} {n : Nat} (h : SO w sv ps) (hn : ps.length = n) (hle : n ≤ 1000) (q : Bs) :
    ∃ i0, Tryz.prog.info? 9 = some i0 ∧ i0.zero = some (.string ByteArray.empty) ∧ i0.size = 1 ∧ i0.bytes = 16 ∧ (w.alloc (.cells #[.string (ofL q)] 9)).ownsRow 0 9 1 sv n (flatV strV ps) ∧
      (∀ (j : Nat) (u : Value), [Value.string (ofL q)][j]? = some u → (w.alloc (.cells #[.string (ofL q)] 9)).cell? ((⟨w.heap.size, 0, none⟩ : Addr).add j) = some u) ∧ (∀ u ∈ [Value.string (ofL q)], u.oneCell' = true) ∧ n + 1 ≤ maxLen ∧ (n + 1) * 16 ≤ 140737488355328 := by
  obtain ⟨i0, hi, hzz⟩ := Option.map_eq_some_iff.1 info_str
  simp only [Prod.mk.injEq] at hzz
  obtain ⟨hz, hs0, hb⟩ := hzz
  have ho : SO (w.alloc (.cells #[.string (ofL q)] 9)) sv ps := h.below ((Below.refl _ _).alloc (Nat.le_refl _) _)
  unfold SO Own at ho
  rw [hn] at ho
  exact ⟨i0, hi, hz, hs0, hb, ho, World.news_of_block (Blk.new w _ _), fun u hu => by rw [List.mem_singleton.1 hu]; rfl, by unfold maxLen; omega, by omega⟩
theorem getDAt {α : Type} (l : List α) (i : Nat) (d : α) (h : i < l.length) : l.getD i d = l[i] := by
  rw [List.getD_eq_getElem?_getD, List.getElem?_eq_getElem h]; rfl
/-! THE DOCUMENT's OWN TABLE: of all numbers, a block of cells; the names and values of a session in slices of their own -/
def nilS : Value := .slice none 0 0
def rowV : Option Sess → Value × Value → List Value
  | none, _ => zeroSess
  | some x, f => [.bool true, .int .i64 x.user, .int .i64 x.created, .int .i64 x.used, f.1, f.2]
def nmsOf : Option Sess → List Bs
  | none => []
  | some x => x.vals.map (·.1)
def vlsOf : Option Sess → List Bs
  | none => []
  | some x => x.vals.map (·.2)
abbrev RF := Nat → Value × Value
structure RT (w : World) (tb : Nat) (T : Tab) (f : RF) : Prop where
  arr : ∃ arr, Blk w tb arr 194 ∧ ∀ i, i < 4096 → ∀ j, j < 6 → arr[i * 6 + j]? = (rowV (T i) (f i))[j]?
  nms : ∀ i, i < 4096 → SO w (f i).1 (nmsOf (T i))
  vls : ∀ i, i < 4096 → SO w (f i).2 (vlsOf (T i))
  dead : ∀ i, i < 4096 → T i = none → f i = (nilS, nilS)
  ne : ∀ i, i < 4096 → ∀ b, (f i).1.ownBlock = some b ∨ (f i).2.ownBlock = some b → b ≠ tb
def rfoot (tb : Nat) (f : RF) (b : Nat) : Prop := b = tb ∨ ∃ i, i < 4096 ∧ ((f i).1.ownBlock = some b ∨ (f i).2.ownBlock = some b)
theorem RT.lt {w : World} {tb : Nat} {T : Tab} {f : RF} (h : RT w tb T f) : tb < w.heap.size := by
  obtain ⟨arr, hb, _⟩ := h.arr
  exact hb.lt
theorem RT.foot {w : World} {tb : Nat} {T : Tab} {f : RF} (h : RT w tb T f) {b : Nat} (hb : rfoot tb f b) : b < w.heap.size := by
  rcases hb with hb | ⟨i, hi, hb | hb⟩
  · rw [hb]; exact h.lt
  · exact (h.nms i hi).lt hb
  · exact (h.vls i hi).lt hb
theorem RT.kept {S : Nat → Prop} {w w' : World} {tb : Nat} {T : Tab} {f : RF} (h : RT w tb T f) (hf : Fr S w w') (hn : ∀ b, rfoot tb f b → ¬ S b) : RT w' tb T f := by
  obtain ⟨arr, hb, ha⟩ := h.arr
  exact ⟨⟨arr, hb.kept hf (hn tb (Or.inl rfl)), ha⟩, fun i hi => (h.nms i hi).kept hf (fun b hb => hn b (Or.inr ⟨i, hi, Or.inl hb⟩)), fun i hi => (h.vls i hi).kept hf (fun b hb => hn b (Or.inr ⟨i, hi, Or.inr hb⟩)), h.dead, h.ne⟩
theorem RT.below {w w' : World} {tb : Nat} {T : Tab} {f : RF} (h : RT w tb T f) (hb : Below w.heap.size w w') : RT w' tb T f := h.kept (S := fun _ => False) (Fr.of_below hb) (fun _ _ h => h)
theorem RT.cell {w : World} {tb : Nat} {T : Tab} {f : RF} (h : RT w tb T f) {i : Nat} (hi : i < 4096) (j : Nat) (hj : j < 6) : w.cell? ⟨tb, i * 6 + j, none⟩ = (rowV (T i) (f i))[j]? := by
  obtain ⟨arr, hb, ha⟩ := h.arr
  rw [hb.cell, ha i hi j hj]
theorem RT.frozen {w : World} {tb : Nat} {T : Tab} {f : RF} (h : RT w tb T f) (k : Nat) : w.frozen? ⟨tb, k, none⟩ = false := by
  obtain ⟨arr, hb, ha⟩ := h.arr
  exact hb.frozen k
theorem RT.live {w : World} {tb : Nat} {T : Tab} {f : RF} (h : RT w tb T f) {i : Nat} (hi : i < 4096) : w.cell? ⟨tb, i * 6, none⟩ = some (.bool (T i).isSome) := by
  have := h.cell hi 0 (by decide)
  rw [Nat.add_zero] at this
  rw [this]
  cases T i <;> rfl
theorem RT.user {w : World} {tb : Nat} {T : Tab} {f : RF} (h : RT w tb T f) {i : Nat} (hi : i < 4096) : w.cell? ⟨tb, i * 6 + 1, none⟩ = some (.int .i64 (match T i with | some x => (x.user : Int) | none => 0)) := by
  rw [h.cell hi 1 (by decide)]
  cases T i <;> rfl
theorem rt_new {w : World} {tb : Nat} (h : Blk w tb table0 194) : RT w tb noTab (fun _ => (nilS, nilS)) :=
  ⟨⟨table0, h, fun i hi j hj => by rw [Nat.mul_comm]; exact table0_at i j hi hj⟩, fun i _ => Own.nil _ _ _ _, fun i _ => Own.nil _ _ _ _, fun _ _ _ => rfl, fun i _ b hb => by rcases hb with hb | hb <;> cases hb⟩
theorem countP_succ (p : Nat → Bool) (k : Nat) : (List.range (k + 1)).countP p = (List.range k).countP p + (if p k = true then 1 else 0) := by
  rw [List.range_succ, List.countP_append]
  simp [List.countP_cons]
theorem countP_le (p : Nat → Bool) (k : Nat) : (List.range k).countP p ≤ k := by
  have := List.countP_le_length (p := p) (l := List.range k)
  rwa [List.length_range] at this
set_option maxRecDepth 20000 in
set_option maxHeartbeats 1000000 in
theorem rlive_any (tb : Nat) (T : Tab) (f : RF) (w : World) (h : RT w tb T f) :
    Calls Tryz.prog 84 #[.slice (some ⟨tb, 0, none⟩) 4096 4096] w fun e w' => e = .returned (.int .i64 (T.live : Nat)) ∧ w' = w := by
  have H : Hid (RT w tb T f) := h
  clear h
  have HV : Hid ((List.range 4096).countP (fun i => (T i).isSome) = T.live) := rfl
  have HS : Hid (∀ k, (List.range (k + 1)).countP (fun i => (T i).isSome) = (List.range k).countP (fun i => (T i).isSome) + (if (T k).isSome = true then 1 else 0)) := fun k => countP_succ _ k
  have HL : Hid (∀ k, (List.range k).countP (fun i => (T i).isSome) ≤ k) := fun k => countP_le _ k
  have H0 : Hid ((List.range 0).countP (fun i => (T i).isSome) = 0) := rfl
  generalize T.live = V at *
  obtain ⟨c, hc⟩ : ∃ c : Nat → Nat, c = fun k => (List.range k).countP (fun i => (T i).isSome) := ⟨_, rfl⟩
  have HV : Hid (c 4096 = V) := by rw [hc]; exact HV
  have HS : Hid (∀ k, c (k + 1) = c k + (if (T k).isSome = true then 1 else 0)) := by rw [hc]; exact HS
  have HL : Hid (∀ k, c k ≤ k) := by rw [hc]; exact HL
  have H0 : Hid (c 0 = 0) := by rw [hc]; exact H0
  clear hc
  go_enter Tryz.func84, Tryz.ntmps84
  go_wp2
  go_loop [3, 4] (fun m i => ∃ k : Nat, k ≤ 4096 ∧ i = .int .i64 k ∧ m = .int .i64 (c k : Nat)) (fun _ i => 4096 - (intOf i).toNat)
  case atStart => exact ⟨0, Nat.zero_le _, rfl, by rw [H0.out]; rfl⟩
  case round =>
    obtain ⟨k, hk, rfl, rfl⟩ := hrel
    by_cases hlt : k < 4096
    · have hcell := H.out.live hlt
      have hs := HS.out k
      have hl := HL.out k
      cases ht : (T k).isSome with
      | true =>
        rw [ht] at hcell hs
        rw [if_pos rfl] at hs
        have HS1 : Hid (_ = _) := hs
        clear ht hs
        go_wp2
        go_round
        case rel => exact ⟨k + 1, hlt, by go_num, by rw [HS1.out]; go_num⟩
        case measure => simp [intOf]; omega
      | false =>
        rw [ht] at hcell hs
        rw [if_neg (by decide)] at hs
        have HS1 : Hid (_ = _) := hs
        clear ht hs
        go_wp2
        go_round
        case rel => exact ⟨k + 1, hlt, by go_num, by rw [HS1.out]; rfl⟩
        case measure => simp [intOf]; omega
    · have hke : k = 4096 := by omega
      subst hke
      go_wp2
      go_ret
      exact ⟨by rw [HV.out]; rfl, rfl⟩
set_option maxRecDepth 20000 in
set_option maxHeartbeats 1000000 in
theorem rofuser_any (tb : Nat) (T : Tab) (f : RF) (u : Nat) (w : World) (h : RT w tb T f) :
    Calls Tryz.prog 89 #[.slice (some ⟨tb, 0, none⟩) 4096 4096, .int .i64 (u : Int)] w fun e w' => e = .returned (.int .i64 (T.ofUser u : Nat)) ∧ w' = w := by
  have H : Hid (RT w tb T f) := h
  clear h
  obtain ⟨c, hc⟩ : ∃ c : Nat → Nat, c = fun k => (List.range k).countP (fun i => match T i with | some x => x.user == u | none => false) := ⟨_, rfl⟩
  have HV : Hid (c 4096 = T.ofUser u) := by rw [hc]; exact rfl
  have HS : Hid (∀ k, c (k + 1) = c k + (if (match T k with | some x => x.user == u | none => false) = true then 1 else 0)) := by rw [hc]; exact fun k => countP_succ _ k
  have HL : Hid (∀ k, c k ≤ k) := by rw [hc]; exact fun k => countP_le _ k
  have H0 : Hid (c 0 = 0) := by rw [hc]; exact rfl
  clear hc
  generalize T.ofUser u = V at *
  go_enter Tryz.func89, Tryz.ntmps89
  go_wp2
  go_loop [5, 6] (fun m i => ∃ k : Nat, k ≤ 4096 ∧ i = .int .i64 k ∧ m = .int .i64 (c k : Nat)) (fun _ i => 4096 - (intOf i).toNat)
  case atStart => exact ⟨0, Nat.zero_le _, rfl, by rw [H0.out]; rfl⟩
  case round =>
    obtain ⟨k, hk, rfl, rfl⟩ := hrel
    by_cases hlt : k < 4096
    · have hcell := H.out.live hlt
      have hcel2 := H.out.user hlt
      have hs := HS.out k
      have hl := HL.out k
      cases ht : T k with
      | none =>
        rw [ht] at hcell hcel2 hs
        change c (k + 1) = c k at hs
        change w.cell? ⟨tb, k * 6, none⟩ = some (.bool false) at hcell
        have HS1 : Hid (_ = _) := hs
        clear ht hs
        go_wp2
        go_round
        case rel => exact ⟨k + 1, hlt, by go_num, by rw [HS1.out]⟩
        case measure => simp [intOf]; omega
      | some x =>
        rw [ht] at hcell hcel2 hs
        change w.cell? ⟨tb, k * 6, none⟩ = some (.bool true) at hcell
        change w.cell? ⟨tb, k * 6 + 1, none⟩ = some (.int .i64 (x.user : Int)) at hcel2
        change c (k + 1) = c k + (if (x.user == u) = true then 1 else 0) at hs
        generalize x.user = xu at *
        by_cases hu : xu = u
        · have hb : ((xu : Int) == (u : Int)) = true := by simp [hu]
          rw [if_pos (by simp [hu])] at hs
          have HS1 : Hid (_ = _) := hs
          clear ht hs hu
          go_wp2
          go_round
          case rel => exact ⟨k + 1, hlt, by go_num, by rw [HS1.out]; go_num⟩
          case measure => simp [intOf]; omega
        · have hb : ((xu : Int) == (u : Int)) = false := by rw [Bool.eq_false_iff]; intro e; rw [beq_iff_eq] at e; omega
          rw [if_neg (by rw [beq_iff_eq]; exact hu)] at hs
          have HS1 : Hid (_ = _) := hs
          clear ht hs
          go_wp2
          go_round
          case rel => exact ⟨k + 1, hlt, by go_num, by rw [HS1.out]; rfl⟩
          case measure => simp [intOf]; omega
    · have hke : k = 4096 := by omega
      subst hke
      go_wp2
      go_ret
      exact ⟨by rw [HV.out]; rfl, rfl⟩
/-- where a name stands -/
def posI (n : Bs) (l : List (Bs × Bs)) : Int := match l.findIdx? (fun y => decide (y.1 = n)) with | some i => i | none => -1
theorem posI_at {n : Bs} {l : List (Bs × Bs)} {k : Nat} (hk : k < l.length) (hn : l[k].1 = n) (hlow : ∀ j (hj : j < k), (l[j]'(by omega)).1 ≠ n) : posI n l = k := by
  unfold posI
  have : l.findIdx? (fun y => decide (y.1 = n)) = some k := by
    rw [List.findIdx?_eq_some_iff_getElem]
    exact ⟨hk, by rw [decide_eq_true_iff]; exact hn, fun j hj => by simpa using hlow j hj⟩
  rw [this]
theorem posI_no {n : Bs} {l : List (Bs × Bs)} (h : ∀ j (hj : j < l.length), l[j].1 ≠ n) : posI n l = -1 := by
  unfold posI
  have : l.findIdx? (fun y => decide (y.1 = n)) = none := by
    rw [List.findIdx?_eq_none_iff]
    intro x hx
    obtain ⟨j, hj, rfl⟩ := List.getElem_of_mem hx
    rw [decide_eq_false_iff_not]
    exact h j hj
  rw [this]
theorem posI_cases (n : Bs) (l : List (Bs × Bs)) : (posI n l = -1 ∧ valAt n l = none) ∨ ∃ k : Nat, ∃ h : k < l.length, posI n l = k ∧ valAt n l = some l[k].2 := by
  by_cases hex : ∃ k : Nat, ∃ h : k < l.length, l[k].1 = n
  · obtain ⟨k, h, hn, hlow⟩ : ∃ k : Nat, ∃ h : k < l.length, l[k].1 = n ∧ ∀ j (hj : j < k), (l[j]'(by omega)).1 ≠ n := by
      have hf : (l.findIdx? (fun y => decide (y.1 = n))).isSome = true := by
        obtain ⟨k, h, hn⟩ := hex
        rw [List.findIdx?_isSome, List.any_eq_true]
        exact ⟨l[k], List.getElem_mem h, by rw [decide_eq_true_iff]; exact hn⟩
      obtain ⟨k, hk⟩ := Option.isSome_iff_exists.1 hf
      rw [List.findIdx?_eq_some_iff_getElem] at hk
      obtain ⟨h1, h2, h3⟩ := hk
      exact ⟨k, h1, by simpa using h2, fun j hj => by simpa using h3 j hj⟩
    exact Or.inr ⟨k, h, posI_at h hn hlow, rvalAt_get h hn hlow⟩
  · have h : ∀ j (hj : j < l.length), l[j].1 ≠ n := fun j hj e => hex ⟨j, hj, e⟩
    exact Or.inl ⟨posI_no h, rvalAt_out h⟩
set_option maxRecDepth 20000 in
set_option maxHeartbeats 1000000 in
theorem rfind_any (b : Bool) (x1 x2 x3 : Int) (nv vv : Value) (vals : List (Bs × Bs)) (n : Bs) (w : World) (h : SO w nv (vals.map (·.1))) (hl : vals.length ≤ 1000) :
    Calls Tryz.prog 138 #[.agg #[.bool b, .int .i64 x1, .int .i64 x2, .int .i64 x3, nv, vv], .string (ofL n)] w fun e w' => e = .returned (.int .i64 (posI n vals)) ∧ Below w.heap.size w w' := by
  have H : Hid (SO w nv (vals.map (·.1))) := h
  obtain ⟨V, hV⟩ : ∃ V, V = posI n vals := ⟨_, rfl⟩
  have HV : Hid (V = posI n vals) := hV
  rw [← hV]
  clear h hV
  obtain ⟨L, hL⟩ : ∃ L, L = vals.length := ⟨_, rfl⟩
  have HL : Hid (L = vals.length) := hL
  have hsh : nv = .slice none 0 0 ∧ L = 0 ∨ ∃ q cap, nv = .slice (some ⟨q, 0, none⟩) L cap := by
    rcases soShape H.out with ⟨h1, h2⟩ | ⟨q, cap, h1⟩
    · exact Or.inl ⟨h1, by rw [hL]; simpa using h2⟩
    · exact Or.inr ⟨q, cap, by rw [h1, hL]; simp⟩
  rw [← hL] at hl
  clear hL
  rcases hsh with ⟨rfl, hl0⟩ | ⟨q, cap, rfl⟩
  · have HN : Hid (V = -1) := by rw [HV.out]; exact posI_no (fun j hj => by have := HL.out; omega)
    go_enter Tryz.func138, Tryz.ntmps138
    go_wp2_with fail
    go_loopw [5] (fun i wx => i = .int .i64 0 ∧ Hid (Below w.heap.size w wx) ∧ wx.cell? ⟨w.heap.size, 4, none⟩ = some (.slice none 0 0)) (fun _ _ => 0)
    case atStart => exact ⟨rfl, (Below.refl _ _).alloc (Nat.le_refl _) _, by rw [(Blk.new w _ _).cell 4]; rfl⟩
    case round =>
      obtain ⟨rfl, HB, hc⟩ := hrel
      go_wp2_with fail
      go_ret
      exact ⟨by rw [HN.out]; rfl, HB.out⟩
  · have hq : q < w.heap.size := H.out.lt rfl
    go_enter Tryz.func138, Tryz.ntmps138
    go_wp2_with fail
    go_loopw [5] (fun i wx => ∃ k : Nat, k ≤ L ∧ i = .int .i64 k ∧ Hid (∀ j (hj : j < vals.length), j < k → vals[j].1 ≠ n) ∧ Hid (Below w.heap.size w wx) ∧ wx.cell? ⟨w.heap.size, 4, none⟩ = some (.slice (some ⟨q, 0, none⟩) L cap)) (fun i _ => L - (intOf i).toNat)
    case atStart => exact ⟨0, Nat.zero_le _, rfl, fun j hj h0 => absurd h0 (Nat.not_lt_zero _), (Below.refl _ _).alloc (Nat.le_refl _) _, by rw [(Blk.new w _ _).cell 4]; rfl⟩
    case round =>
      obtain ⟨k, hk, rfl, HO, HB, hc⟩ := hrel
      by_cases hlt : k < L
      · have hlt2 : k < vals.length := by rw [← HL.out]; exact hlt
        obtain ⟨y, hy⟩ : ∃ y, y = vals[k].1 := ⟨_, rfl⟩
        have hcell : wr.cell? ⟨q, k, none⟩ = some (.string (ofL y)) := by
          rw [belowAt HB.out hq, H.out.cell k (by rw [List.length_map]; exact hlt2), hy, List.getElem_map]
        have hs := seqL y n
        have HAT : Hid (y = n → V = k) := fun e => by
          rw [HV.out]
          exact posI_at hlt2 (hy ▸ e) (fun j hj => HO.out j (by omega) hj)
        have HNX : Hid (y ≠ n → ∀ j (hj : j < vals.length), j < k + 1 → vals[j].1 ≠ n) := fun e j hj hjk => by
          by_cases hjk2 : j = k
          · subst hjk2; rw [← hy]; exact e
          · exact HO.out j hj (by omega)
        clear hy hlt2
        by_cases hyn : y = n
        · have HV2 : Hid (V = k) := HAT.out hyn
          rw [decide_eq_true hyn] at hs
          clear hyn
          go_wp2_with fail
          go_ret
          exact ⟨by rw [HV2.out]; rfl, HB.out⟩
        · have HNX2 : Hid (∀ j (hj : j < vals.length), j < k + 1 → vals[j].1 ≠ n) := HNX.out hyn
          rw [decide_eq_false hyn] at hs
          clear hyn
          go_wp2_with fail
          go_roundw
          case rel => exact ⟨k + 1, hlt, by go_num, HNX2, HB, hc⟩
          case measure => simp [intOf]; omega
      · have HN : Hid (V = -1) := by rw [HV.out]; exact posI_no (fun j hj => HO.out j hj (by have := HL.out; omega))
        go_wp2_with fail
        go_ret
        exact ⟨by rw [HN.out]; rfl, HB.out⟩
end Go.Proofs.YtmnajomkfnkmeaaGreatDoor
