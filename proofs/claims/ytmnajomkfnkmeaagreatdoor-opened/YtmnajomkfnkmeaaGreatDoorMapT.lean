import Derived.Test.YtmnajomkfnkmeaaGreatDoorRSess
import Derived.Maps.OwnSet
import Derived.Maps.RangeWalk
namespace Go.Proofs.YtmnajomkfnkmeaaGreatDoor
open Go.RowKit
open Go.Maps (Keyed Tidy IsMap)

/-! A MAP OF NUMBERS TO SESSIONS, as a function -/
def ptrR : Value → Option (DataW Unit × List MemPlace)
  | .pointer none => some (.nil, [])
  | .pointer (some ⟨p, 0, none⟩) => some (.lit (.int .i64 p), [])
  | _ => none
theorem ptrR_inv {v : Value} {p : Nat} {ps : List MemPlace} (h : ptrR v = some (.lit (.int .i64 p), ps)) : v = .pointer (some ⟨p, 0, none⟩) := by
  unfold ptrR at h
  split at h
  · cases h
  · simp only [Option.some.injEq, Prod.mk.injEq, DataW.lit.injEq, Lit.int.injEq, true_and] at h
    have := h.1
    rw [show _ = p from Int.ofNat.inj this]
  · cases h
theorem ptrR_nil {v : Value} {ps : List MemPlace} (h : ptrR v = some (.nil, ps)) : v = .pointer none := by
  unfold ptrR at h
  split at h
  · rfl
  · simp at h
  · cases h
theorem law : Keyed Tryz.prog 3 := Maps.int_keyed Tryz.underlying3
def kl (i : Nat) : Lit := .int .i64 i
theorem key_mk (i : Nat) (h : i < 65536) : keyOf Tryz.prog 3 (.int .i64 i) = some (kl i) := Maps.keyOf_int_mk Tryz.underlying3 (WalkArith.wf_i64 (by omega))
theorem zero_ptr (w : World) : (zeroValue 171).run Tryz.prog w = .ok (.pointer none) w := by kernel_rfl
theorem kl_inj {i j : Nat} (h : kl i = kl j) : i = j := by
  have : (i : Int) = j := by simpa [kl] using h
  omega
theorem kl_key (i : Nat) : WideAt.IsKeyLit (kl i) := trivial
abbrev Fn := Nat → Option Nat
def Fn.set (f : Fn) (i : Nat) (v : Option Nat) : Fn := fun j => if j = i then v else f j
def Fn.card (f : Fn) : Nat := (List.range 65536).countP fun i => (f i).isSome
theorem count_set (f : Fn) (i : Nat) (v : Option Nat) (n : Nat) : (List.range n).countP (fun j => ((f.set i v) j).isSome) + (if i < n ∧ (f i).isSome then 1 else 0) = (List.range n).countP (fun j => (f j).isSome) + (if i < n ∧ v.isSome then 1 else 0) := by
  induction n with
  | zero => simp
  | succ n ih =>
    rw [List.range_succ, List.countP_append, List.countP_append]
    simp only [List.countP_cons, List.countP_nil, Nat.zero_add]
    rcases Nat.lt_trichotomy i n with h | h | h
    · have e : (f.set i v) n = f n := by unfold Fn.set; rw [if_neg (by omega)]
      rw [e]
      have h2 : i < n + 1 := by omega
      simp only [h, h2, true_and] at ih ⊢
      omega
    · subst h
      have e : (f.set i v) i = v := by unfold Fn.set; rw [if_pos rfl]
      rw [e]
      simp only [Nat.lt_irrefl, false_and, if_false, Nat.add_zero] at ih
      simp only [Nat.lt_succ_self, true_and]
      rw [ih]
      omega
    · have e : (f.set i v) n = f n := by unfold Fn.set; rw [if_neg (by omega)]
      rw [e]
      have h1 : ¬ i < n := by omega
      have h2 : ¬ i < n + 1 := by omega
      simp only [h1, h2, false_and, if_false, Nat.add_zero] at ih ⊢
      omega
theorem card_set (f : Fn) (i : Nat) (v : Option Nat) (hi : i < 65536) : (f.set i v).card + (if (f i).isSome then 1 else 0) = f.card + (if v.isSome then 1 else 0) := by
  have := count_set f i v 65536
  simp only [hi, true_and] at this
  exact this

theorem Fn.card_le (f : Fn) : f.card ≤ 65536 := by
  have := List.countP_le_length (p := fun i => (f i).isSome) (l := List.range 65536)
  rw [List.length_range] at this
  exact this
structure MapIs (w : World) (mb : Nat) (f : Fn) (D : DataW Unit) : Prop where
  own : w.ownsMap Tryz.prog 3 ptrR mb f.card D
  keys : ∀ k, Maps.has D k = true → ∃ i p, k = kl i ∧ f i = some p
  vals : ∀ i p, f i = some p → i < 65536 ∧ Maps.has D (kl i) = true ∧ ∀ z, D.atKey (kl i) z = .lit (.int .i64 p)
  size : Maps.size D = f.card
theorem MapIs.not {w : World} {mb : Nat} {f : Fn} {D : DataW Unit} (h : MapIs w mb f D) {i : Nat} (hi : f i = none) : Maps.has D (kl i) = false := by
  cases hx : Maps.has D (kl i) with
  | false => rfl
  | true =>
    obtain ⟨j, p, hk, hj⟩ := h.keys _ hx
    rw [kl_inj hk, hj] at hi; cases hi
theorem MapIs.has_eq {w : World} {mb : Nat} {f : Fn} {D : DataW Unit} (h : MapIs w mb f D) (i : Nat) : Maps.has D (kl i) = (f i).isSome := by
  cases hi : f i with
  | none => exact h.not hi
  | some p => exact (h.vals i p hi).2.1
theorem MapIs.lt {w : World} {mb : Nat} {f : Fn} {D : DataW Unit} (h : MapIs w mb f D) : mb < w.heap.size := h.own.lt
theorem MapIs.kept {S : Nat → Prop} {w w' : World} {mb : Nat} {f : Fn} {D : DataW Unit} (h : MapIs w mb f D) (hf : Fr S w w') (hn : ¬ S mb) : MapIs w' mb f D := by
  refine ⟨?_, h.keys, h.vals, h.size⟩
  obtain ⟨es, clock, hb, r⟩ := h.own
  exact ⟨es, clock, (hf.block mb h.lt hn).trans hb, r⟩
theorem card_none : Fn.card (fun _ => none) = 0 := by
  unfold Fn.card
  rw [List.countP_eq_zero]
  intro a _ h
  cases h
theorem MapIs.made (w : World) : MapIs (w.alloc (.map #[] 0)) w.heap.size (fun _ => none) (.map []) := by
  refine ⟨by rw [card_none]; exact World.ownsMap_made _ _ _ _, fun k h => ?_, (fun i p h => by cases h), by rw [card_none]; rfl⟩
  simp [Maps.has] at h
/-- 'v, ok := m[k]' -/
theorem MapIs.look {w : World} {mb : Nat} {f : Fn} {D : DataW Unit} (h : MapIs w mb f D) (i : Nat) (hi : i < 65536) :
    (Instr.lookup 156 (.map (some mb)) (.int .i64 i) true).run Tryz.prog w = .ok (.tuple #[match f i with | some p => .pointer (some ⟨p, 0, none⟩) | none => .pointer none, .bool (f i).isSome]) w := by
  obtain ⟨v, ps, hrun, hv⟩ := h.own.look_ok law Tryz.underlying156 (zero_ptr w) (zd := .nil) (zp := []) rfl (key_mk i hi)
  rw [hrun, show Maps.has D (kl i) = (f i).isSome from h.has_eq i]
  cases hf : f i with
  | none =>
    rw [Maps.atKey_of_not_has (show Maps.has D (kl i) = false from h.not hf)] at hv
    rw [ptrR_nil hv]
  | some p =>
    have := (h.vals i p hf).2.2 .nil
    rw [show D.atKey (kl i) .nil = _ from this] at hv
    rw [ptrR_inv hv]
theorem MapIs.look1 {w : World} {mb : Nat} {f : Fn} {D : DataW Unit} (h : MapIs w mb f D) (i : Nat) (hi : i < 65536) :
    (Instr.lookup 156 (.map (some mb)) (.int .i64 i) false).run Tryz.prog w = .ok (match f i with | some p => .pointer (some ⟨p, 0, none⟩) | none => .pointer none) w := by
  obtain ⟨v, ps, hrun, hv⟩ := h.own.lookup law Tryz.underlying156 (zero_ptr w) (zd := .nil) (zp := []) rfl (key_mk i hi)
  rw [hrun]
  cases hf : f i with
  | none =>
    rw [Maps.atKey_of_not_has (show Maps.has D (kl i) = false from h.not hf)] at hv
    rw [ptrR_nil hv]
  | some p =>
    have := (h.vals i p hf).2.2 .nil
    rw [show D.atKey (kl i) .nil = _ from this] at hv
    rw [ptrR_inv hv]
theorem own_tight {w : World} {mb n : Nat} {D : DataW Unit} (h : w.ownsMap Tryz.prog 3 ptrR mb n D) : w.ownsMap Tryz.prog 3 ptrR mb (Maps.size D) D := by
  obtain ⟨es, clock, hb, F, _, rfl⟩ := h
  exact ⟨es, clock, hb, F, by rw [show Maps.size (DataW.map ((es.toList.map (WideElems.rg Tryz.prog 3 ptrR)).foldr DataW.insert [])) = es.size by simp [Maps.size, length_sorted]]; exact Nat.le_refl _, rfl⟩
theorem Fr.turned {w w' : World} {mb : Nat} (h : w.mapTurned w' mb) : Fr (· = mb) w w' :=
  have g := h.grown
  ⟨g.os, g.tape, g.output, g.size, fun k hk hn => g.block k hk (fun e => hn (Option.some.inj e))⟩
/-- 'm[k] = v' -/
theorem MapIs.store {w : World} {mb : Nat} {f : Fn} {D : DataW Unit} (h : MapIs w mb f D) (i p : Nat) (hi : i < 65536) :
    ∃ w' D', (Instr.mapUpdate 156 (.map (some mb)) (.int .i64 i) (.pointer (some ⟨p, 0, none⟩))).run Tryz.prog w = .ok () w' ∧ MapIs w' mb (f.set i (some p)) D' ∧ w.mapTurned w' mb := by
  obtain ⟨w', hrun, hown, hturn⟩ := h.own.store law Tryz.underlying156 (Nat.lt_of_le_of_lt f.card_le (by decide)) (key_mk i hi) (val := .pointer (some ⟨p, 0, none⟩)) (d := .lit (.int .i64 p)) (ps := []) rfl
  have hsz : Maps.size (D.put (kl i) (.lit (.int .i64 p))) = (f.set i (some p)).card := by
    rw [Maps.size_put (h.own.tidy law)]
    have := card_set f i (some p) hi
    rw [show Maps.has D (kl i) = (f i).isSome from h.has_eq i, h.size]
    cases hfi : (f i).isSome <;> simp [hfi] at this ⊢ <;> omega
  refine ⟨w', _, hrun, ⟨by rw [← hsz]; exact own_tight hown, fun k hk => ?_, fun j q hj => ?_, hsz⟩, hturn⟩
  · by_cases e : k = kl i
    · exact ⟨i, p, e, by unfold Fn.set; rw [if_pos rfl]⟩
    · rw [Maps.has_put_other e] at hk
      obtain ⟨j, q, hkj, hj⟩ := h.keys k hk
      refine ⟨j, q, hkj, ?_⟩
      unfold Fn.set
      rw [if_neg (fun hh => e (by rw [hkj, hh]))]; exact hj
  · unfold Fn.set at hj
    split at hj
    · rename_i e
      subst e
      obtain rfl := Option.some.inj hj
      exact ⟨hi, Maps.has_put_same h.own.isMap (kl_key j) _, fun z => Maps.atKey_put_same h.own.isMap (kl_key j) _ z⟩
    · rename_i e
      obtain ⟨h1, h2, h3⟩ := h.vals j q hj
      have hne : kl j ≠ kl i := fun hh => e (kl_inj hh)
      exact ⟨h1, by rw [Maps.has_put_other hne]; exact h2, fun z => by rw [Maps.atKey_put_other hne]; exact h3 z⟩
/-- 'delete(m, k)' -/
theorem MapIs.drop {w : World} {mb : Nat} {f : Fn} {D : DataW Unit} (h : MapIs w mb f D) (i : Nat) (hi : i < 65536) (ty : TypeId) :
    ∃ w' D', (Builtin.delete_ #[156, 3] ty #[.map (some mb), .int .i64 i]).run Tryz.prog w = .ok (.tuple #[]) w' ∧ MapIs w' mb (f.set i none) D' ∧ w.mapTurned w' mb := by
  obtain ⟨w', hrun, hown, hturn⟩ := h.own.drop law Tryz.underlying156 (key_mk i hi) ty
  have hsz : Maps.size (D.del (kl i)) = (f.set i none).card := by
    have h1 := Maps.size_del (k := kl i) (h.own.tidy law)
    have h2 := card_set f i none hi
    rw [h.has_eq i, h.size] at h1
    cases hfi : (f i).isSome <;> simp [hfi] at h1 h2 ⊢ <;> omega
  refine ⟨w', _, hrun, ⟨by rw [← hsz]; exact own_tight hown, fun k hk => ?_, fun j q hj => ?_, hsz⟩, hturn⟩
  · by_cases e : k = kl i
    · rw [e, show Maps.has (D.del (kl i)) (kl i) = false from Maps.has_del_same] at hk; cases hk
    · rw [Maps.has_del_other e] at hk
      obtain ⟨j, q, hkj, hj⟩ := h.keys k hk
      refine ⟨j, q, hkj, ?_⟩
      unfold Fn.set
      rw [if_neg (fun hh => e (by rw [hkj, hh]))]; exact hj
  · unfold Fn.set at hj
    split at hj
    · cases hj
    · rename_i e
      obtain ⟨h1, h2, h3⟩ := h.vals j q hj
      have hne : kl j ≠ kl i := fun hh => e (kl_inj hh)
      exact ⟨h1, by rw [Maps.has_del_other hne]; exact h2, fun z => by rw [Maps.atKey_del_other hne]; exact h3 z⟩

/-! A TABLE OF SESSIONS, as the code keeps it -/
structure TabAt (w : World) (sb : Nat) (T : Tab) (mb : Nat) (f : Fn) (D : DataW Unit) (sl : Nat → Value) : Prop where
  blk : Blk w sb #[.map (some mb)] 158
  map : MapIs w mb f D
  dom : ∀ i, (f i).isSome = (T i).isSome
  each : ∀ i p x, f i = some p → T i = some x → SAt w p i x (sl i)
  ptr : ∀ i j p, f i = some p → f j = some p → i = j
  own : ∀ i j b, (f i).isSome = true → (f j).isSome = true → (sl i).ownBlock = some b → (sl j).ownBlock = some b → i = j
/-- the blocks that it has -/
def foot (sb mb : Nat) (f : Fn) (sl : Nat → Value) (b : Nat) : Prop := b = sb ∨ b = mb ∨ (∃ i, f i = some b) ∨ ∃ i, (f i).isSome = true ∧ (sl i).ownBlock = some b
theorem TabAt.sess {w : World} {sb : Nat} {T : Tab} {mb : Nat} {f : Fn} {D : DataW Unit} {sl : Nat → Value} (h : TabAt w sb T mb f D sl) {i p : Nat} (hi : f i = some p) : ∃ x, T i = some x ∧ SAt w p i x (sl i) := by
  have := h.dom i
  rw [hi] at this
  cases hx : T i with
  | none => rw [hx] at this; cases this
  | some x => exact ⟨x, rfl, h.each i p x hi hx⟩
theorem TabAt.kept {S : Nat → Prop} {w w' : World} {sb : Nat} {T : Tab} {mb : Nat} {f : Fn} {D : DataW Unit} {sl : Nat → Value} (h : TabAt w sb T mb f D sl) (hf : Fr S w w') (hn : ∀ b, foot sb mb f sl b → ¬ S b) : TabAt w' sb T mb f D sl :=
  ⟨h.blk.kept hf (hn sb (Or.inl rfl)), h.map.kept hf (hn mb (Or.inr (Or.inl rfl))), h.dom,
    fun i p x hi hx => (h.each i p x hi hx).kept hf (hn p (Or.inr (Or.inr (Or.inl ⟨i, hi⟩)))) (fun b hb => hn b (Or.inr (Or.inr (Or.inr ⟨i, by rw [hi]; rfl, hb⟩)))), h.ptr, h.own⟩
theorem TabAt.lt {w : World} {sb : Nat} {T : Tab} {mb : Nat} {f : Fn} {D : DataW Unit} {sl : Nat → Value} (h : TabAt w sb T mb f D sl) (b : Nat) (hb : foot sb mb f sl b) : b < w.heap.size := by
  rcases hb with rfl | rfl | ⟨i, hi⟩ | ⟨i, hi, ho⟩
  · exact h.blk.lt
  · exact h.map.lt
  · obtain ⟨x, _, hs⟩ := h.sess hi
    exact hs.blk.lt
  · cases hf : f i with
    | none => rw [hf] at hi; cases hi
    | some p =>
      obtain ⟨x, _, hs⟩ := h.sess hf
      exact VO.lt hs.own b ho
theorem Blk.elem {w : World} {b : Nat} {a a' : Array Value} {T T' : TypeId} (h : Blk w b a T) (h' : Blk w b a' T') : T = T' := by
  have := (show w.heap[b]? = _ from h).symm.trans h'
  simp only [Option.some.injEq, Obj.cells.injEq] at this
  exact this.2.1
theorem VO.elem {w : World} {s : Value} {l : List (Bs × Bs)} (h : VO w s l) {b : Nat} (hb : s.ownBlock = some b) : ∃ a, Blk w b a 170 := by
  rcases h.cases with ⟨rfl, _⟩ | ⟨q, cap, cur, rfl, hq, _⟩
  · cases hb
  · have : some q = some b := hb
    injection this with this
    exact ⟨_, this ▸ hq⟩
theorem MapIs.noBlk {w : World} {mb : Nat} {f : Fn} {D : DataW Unit} (h : MapIs w mb f D) {a : Array Value} {T : TypeId} (hb : Blk w mb a T) : False := by
  obtain ⟨es, clock, hm, _⟩ := h.own
  have := (show w.heap[mb]? = _ from hb).symm.trans hm
  cases this
theorem TabAt.add {w w' : World} {sb : Nat} {T : Tab} {mb : Nat} {f : Fn} {D D' : DataW Unit} {sl : Nat → Value} (h : TabAt w sb T mb f D sl) {i p : Nat} {x : Sess} {s : Value} (hs : SAt w p i x s)
    (hp : ∀ j, f j ≠ some p) (ho : ∀ j b, (f j).isSome = true → (sl j).ownBlock = some b → s.ownBlock ≠ some b) (hm : MapIs w' mb (f.set i (some p)) D') (ht : Fr (· = mb) w w') :
    TabAt w' sb (T.set i (some x)) mb (f.set i (some p)) D' (fun j => if j = i then s else sl j) := by
  have hblk : sb ≠ mb := fun e => h.map.noBlk (e ▸ h.blk)
  have keep : ∀ {q : Nat} {id : Int} {y : Sess} {t : Value}, SAt w q id y t → SAt w' q id y t := fun {q id y t} hq => hq.kept ht (fun e => h.map.noBlk (e ▸ hq.blk)) (fun b hb e => by
    obtain ⟨a, ha⟩ := hq.own.elem hb
    exact h.map.noBlk (e ▸ ha))
  refine ⟨h.blk.kept ht hblk, hm, fun j => ?_, fun j q y hj hy => ?_, fun j k q hj hk => ?_, fun j k b hj hk hbj hbk => ?_⟩
  · unfold Fn.set Tab.set
    by_cases e : j = i
    · rw [if_pos e, if_pos e]; rfl
    · rw [if_neg e, if_neg e]; exact h.dom j
  · unfold Fn.set at hj
    unfold Tab.set at hy
    by_cases e : j = i
    · rw [if_pos e] at hj hy
      obtain rfl := Option.some.inj hj
      obtain rfl := Option.some.inj hy
      subst e
      simp only [if_true]
      exact keep hs
    · rw [if_neg e] at hj hy
      simp only [if_neg e]
      exact keep (h.each j q y hj hy)
  · unfold Fn.set at hj hk
    by_cases e : j = i
    · by_cases e2 : k = i
      · rw [e, e2]
      · rw [if_pos e] at hj; rw [if_neg e2] at hk
        obtain rfl := Option.some.inj hj
        exact absurd hk (hp k)
    · by_cases e2 : k = i
      · rw [if_neg e] at hj; rw [if_pos e2] at hk
        obtain rfl := Option.some.inj hk
        exact absurd hj (hp j)
      · rw [if_neg e] at hj; rw [if_neg e2] at hk
        exact h.ptr j k q hj hk
  · unfold Fn.set at hj hk
    by_cases e : j = i
    · by_cases e2 : k = i
      · rw [e, e2]
      · rw [if_pos e] at hbj; rw [if_neg e2] at hbk hk
        exact absurd hbj (ho k b hk hbk)
    · by_cases e2 : k = i
      · rw [if_neg e] at hbj hj; rw [if_pos e2] at hbk
        exact absurd hbk (ho j b hj hbj)
      · rw [if_neg e] at hbj hj; rw [if_neg e2] at hbk hk
        exact h.own j k b hj hk hbj hbk
end Go.Proofs.YtmnajomkfnkmeaaGreatDoor
