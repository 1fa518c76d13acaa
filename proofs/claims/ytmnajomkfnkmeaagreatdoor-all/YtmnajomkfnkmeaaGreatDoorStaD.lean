import Derived.Test.YtmnajomkfnkmeaaGreatDoorRSess
import Derived.Deep.RegionHeld3
set_option maxRecDepth 100000
set_option maxHeartbeats 2000000
namespace Go.Proofs.YtmnajomkfnkmeaaGreatDoor
open Go.RowKit
open Op (bytesLess)
attribute [local go_sem] ofL_size
theorem count_beyond (f : Fn) (m : Nat) (h : ∀ i, m ≤ i → f i = none) (k : Nat) : (List.range (m + k)).countP (fun i => (f i).isSome) = (List.range m).countP (fun i => (f i).isSome) := by
 induction k with
 | zero => rfl
 | succ k ih =>
  rw [← Nat.add_assoc, List.range_succ, List.countP_append, ih];simp [h (m + k) (by omega)]
theorem TabAt.live {w : World} {sb : Nat} {T : Tab} {mb : Nat} {f : Fn} {D : DataW Unit} {sl : Nat → Value} (h : TabAt w sb T mb f D sl) (hT : ∀ i x, T i = some x → i < 4096) : Maps.size D = T.live := by
 rw [h.map.size];have hn : ∀ i, 4096 ≤ i → f i = none := fun i hi => by
  cases hf : f i with
  | none => rfl
  | some p =>
   obtain ⟨x, hx, _⟩ := h.sess hf;have := hT i x hx;omega
 exact (count_beyond f 4096 hn 61440).trans (congrArg (fun g => (List.range 4096).countP g) (funext h.dom))
theorem live_any (sb : Nat) (T : Tab) (mb : Nat) (f : Fn) (D : DataW Unit) (sl : Nat → Value) (w : World) (h : TabAt w sb T mb f D sl) (hT : ∀ i x, T i = some x → i < 4096) :
  Calls Tryz.prog 56 #[.pointer (some ⟨sb, 0, none⟩)] w fun e w' => e = .returned (.int .i64 T.live) ∧ w' = w := by
 have HH : Hid (TabAt w sb T mb f D sl) := h;have HL : Hid (Maps.size D = T.live) := h.live hT;have cs : w.cell? ⟨sb, 0, none⟩ = some (.map (some mb)) := Blk.cell h.blk 0;clear h;go_enter Tryz.func56, Tryz.ntmps56;go_wp2_with (at_len; refine wpList_len_own _ rfl _ 156 rfl 3 171 Tryz.underlying156 ptrR mb f.card D rfl HH.out.map.own ?_);go_ret;exact ⟨ri (by rw [HL.out]), rfl⟩
def sessV (id : Int) (x : Sess) (sl : Value) : Value := .agg #[.int .i64 id, .int .i64 x.user, .int .i64 x.created, .int .i64 x.used, sl]
def noSess : Value := .agg #[.int .i64 0, .int .i64 0, .int .i64 0, .int .i64 0, .slice none 0 0]
theorem find_none (sb : Nat) (T : Tab) (mb : Nat) (f : Fn) (D : DataW Unit) (sl : Nat → Value) (id : Nat) (w : World) (h : TabAt w sb T mb f D sl) (hid : id < 65536) (hno : T id = none) :
  Calls Tryz.prog 109 #[.pointer (some ⟨sb, 0, none⟩), .int .i64 id] w fun e w' => e = .returned (.tuple #[noSess, .bool false]) ∧ Below w.heap.size w w' := by
 have hf : f id = none := by
  have := h.dom id;rw [hno] at this;cases hx : f id with
  | none => rfl
  | some p => rw [hx] at this; cases this
 have hk : MapIs (w.alloc (.cells #[.int .i64 0, .int .i64 0, .int .i64 0, .int .i64 0, .slice none 0 0] 104)) mb f D := h.map.kept ((Fr.refl (fun _ => False) w).alloc _) (fun h => h);have hl := hk.look id hid;rw [hf] at hl;simp only [Option.isSome] at hl;have cs : w.cell? ⟨sb, 0, none⟩ = some (.map (some mb)) := Blk.cell h.blk 0;have hsb := h.blk.lt;clear h hk hf hno;go_enter Tryz.func109, Tryz.ntmps109;go_wp2_with fail;refine bodyPost_ret (v := .tuple #[noSess, .bool false]) (by simp [results, Tryz.results109, go_sem, noSess]) rfl ⟨rfl, ?_⟩;exact bA
theorem find_some (sb : Nat) (T : Tab) (mb : Nat) (f : Fn) (D : DataW Unit) (sl : Nat → Value) (id p : Nat) (x : Sess) (w : World) (h : TabAt w sb T mb f D sl) (hid : id < 65536) (hf : f id = some p) (hx : T id = some x) :
  Calls Tryz.prog 109 #[.pointer (some ⟨sb, 0, none⟩), .int .i64 id] w fun e w' => e = .returned (.tuple #[sessV id x (sl id), .bool true]) ∧ Below w.heap.size w w' := by
 have hk : MapIs (w.alloc (.cells #[.int .i64 0, .int .i64 0, .int .i64 0, .int .i64 0, .slice none 0 0] 104)) mb f D := h.map.kept ((Fr.refl (fun _ => False) w).alloc _) (fun h => h);have hl := hk.look id hid;rw [hf] at hl;simp only [Option.isSome] at hl;have cs : w.cell? ⟨sb, 0, none⟩ = some (.map (some mb)) := Blk.cell h.blk 0;have hsb := h.blk.lt;have hs := h.each id p x hf hx;have hp := hs.blk.lt;have c0 : w.cell? ⟨p, 0, none⟩ = some (.int .i64 id) := Blk.cell hs.blk 0;have c1 : w.cell? ⟨p, 1, none⟩ = some (.int .i64 x.user) := Blk.cell hs.blk 1;have c2 : w.cell? ⟨p, 2, none⟩ = some (.int .i64 x.created) := Blk.cell hs.blk 2;have c3 : w.cell? ⟨p, 3, none⟩ = some (.int .i64 x.used) := Blk.cell hs.blk 3;have c4 : w.cell? ⟨p, 4, none⟩ = some (sl id) := Blk.cell hs.blk 4;have ho := hs.own.cases;clear h hk hf hx hs;rcases ho with ⟨ho, _⟩ | ⟨g, cap, cur, ho, _⟩
 ·rw [ho] at c4 ⊢;clear ho;go_enter Tryz.func109, Tryz.ntmps109;go_wp2_with fail;refine bodyPost_ret (v := .tuple #[sessV id x (.slice none 0 0), .bool true]) (by simp [results, Tryz.results109, go_sem, sessV]) rfl ⟨rfl, ?_⟩;exact bA
 ·rw [ho] at c4 ⊢;clear ho;go_enter Tryz.func109, Tryz.ntmps109;go_wp2_with fail;refine bodyPost_ret (v := .tuple #[sessV id x (.slice (some ⟨g, 0, none⟩) x.vals.length cap), .bool true]) (by simp [results, Tryz.results109, go_sem, sessV]) rfl ⟨rfl, ?_⟩;exact bA
end Go.Proofs.YtmnajomkfnkmeaaGreatDoor
namespace Go.Proofs.YtmnajomkfnkmeaaGreatDoor
open Go.RowKit
attribute [local go_sem] ofL_size
theorem ptrR_ptr {v : Value} {y : DataW Unit × List MemPlace} (h : ptrR v = some y) : ∃ c, v = .pointer c := by
 unfold ptrR at h;split at h
 ·exact ⟨_, rfl⟩
 ·exact ⟨_, rfl⟩
 ·cases h
abbrev Rng (w : World) (mb r : Nat) (f : Fn) (D : DataW Unit) (left : Lit → Bool) (cnt : Nat) : Prop := w.ranges Tryz.prog 3 ptrR mb r f.card D left cnt
theorem Fr.grown1 {w w' : World} {r : Nat} (g : w.grownBy w' (some r)) : Fr (· = r) w w' :=
 ⟨g.os, g.tape, g.output, g.size, fun k hk hn => g.block k hk (fun e => hn (Option.some.inj e))⟩
theorem Fr.grown0 {w w' : World} (g : w.grownBy w' none) : Fr (fun _ => False) w w' :=
 ⟨g.os, g.tape, g.output, g.size, fun k hk _ => g.block k hk (fun e => by cases e)⟩
theorem wpL_next {w : World} {ops : Array Oper} {rest : List Oper} {o : Oper} {a : Act} {Q : Exit → Act → World → Prop} (hg : o.guard = none) (it : Operand) (hop : o.op = Op.next it false) (mb r : Nat) (f : Fn) (D : DataW Unit) (left : Lit → Bool) (cnt : Nat)
  (hit : a.eval it = .pointer (some ⟨r, 0, none⟩)) (h : Rng w mb r f D left cnt) (hk : ∀ k, Maps.has D k = true → ∃ i p, k = kl i ∧ f i = some p) (hv : ∀ i p, f i = some p → ∀ z, D.atKey (kl i) z = .lit (.int .i64 p))
  (hDone : cnt = 0 → (∀ k, left k = false) → wpList Tryz.prog ops Q rest (a.put o.dst (.tuple #[.bool false])) w)
  (hMore : ∀ (i p : Nat) (w' : World) (cnt' : Nat), f i = some p → left (kl i) = true → Rng w' mb r f D (fun z => left z && !z.sameKey (kl i)) cnt' → cnt' < cnt → Fr (· = r) w w' → w'.heap.size = w.heap.size →
   (Instr.entry (.pointer (some ⟨r, 0, none⟩))).run Tryz.prog w' = .ok (.tuple #[.int .i64 i, .pointer (some ⟨p, 0, none⟩)]) w' → wpList Tryz.prog ops Q rest (a.put o.dst (.tuple #[.bool true, .int .i64 i, .pointer (some ⟨p, 0, none⟩)])) w') :
  wpList Tryz.prog ops Q (o :: rest) a w := by
 refine wpList_next_ranges w hg it hop 3 law ptrR (Value.int .i64) Value.pointer (fun key k hkey => by obtain ⟨x, rfl, _⟩ := Maps.keyOf_int_inv Tryz.underlying3 hkey; exact ⟨x, rfl⟩) (fun v y hy => ptrR_ptr hy) mb r f.card D left cnt hit h hDone ?_;intro x c k y w' cnt' hkey hlk hR hat hrg hlt hgr hsz hen;obtain ⟨x', ex, rfl, _⟩ := Maps.keyOf_int_inv Tryz.underlying3 hkey;cases ex;obtain ⟨i, p, hki, hfi⟩ := hk _ (Maps.has_true_of_atKey hat);have hx : x = (i : Int) := by simpa [kl] using hki
 subst hx;have hy : y.1 = .lit (.int .i64 p) := (hat .nil).symm.trans (hv i p hfi .nil);obtain ⟨y1, y2⟩ := y;simp only at hy;subst hy;have hc : (Value.pointer c) = .pointer (some ⟨p, 0, none⟩) := ptrR_inv hR;simp only [Value.pointer.injEq] at hc;subst hc;exact hMore i p w' cnt' hfi hlk hrg hlt (Fr.grown1 hgr) hsz hen
def userIs (T : Tab) (u : Nat) (i : Nat) : Bool := match T i with | some x => x.user == u | none => false
def seenU (T : Tab) (u : Nat) (left : Lit → Bool) (n : Nat) : Nat := (List.range n).countP fun i => userIs T u i && !left (kl i)
theorem same_kl (i j : Nat) : (kl i).sameKey (kl j) = decide (i = j) := by
 by_cases h : i = j
 ·subst h;rw [decide_eq_true rfl];simp [kl, Lit.sameKey]
 ·rw [decide_eq_false h];exact Maps.sameKey_ne (fun e => h (kl_inj e))
theorem seen_step (T : Tab) (u : Nat) (left : Lit → Bool) (i n : Nat) (hl : left (kl i) = true) : seenU T u (fun z => left z && !z.sameKey (kl i)) n = seenU T u left n + (if i < n ∧ userIs T u i = true then 1 else 0) := by
 unfold seenU
 induction n with
 | zero => simp
 | succ n ih =>
  rw [List.range_succ, List.countP_append, List.countP_append, ih];simp only [List.countP_cons, List.countP_nil, Nat.zero_add, same_kl];rcases Nat.lt_trichotomy i n with h | h | h
  ·have h1 : i < n + 1 := by omega
   have h2 : ¬ n = i := by omega
   simp only [h, h1, true_and, decide_eq_false h2, Bool.not_false, Bool.and_true];omega
  ·subst h;simp only [Nat.lt_irrefl, false_and, if_false, Nat.add_zero, Nat.lt_succ_self, true_and, decide_true, Bool.not_true, Bool.and_false, Bool.not_false, Bool.and_true, hl];simp
  ·have h1 : ¬ i < n + 1 := by omega
   have h2 : ¬ i < n := by omega
   have h3 : ¬ n = i := by omega
   simp only [h1, h2, false_and, decide_eq_false h3, Bool.not_false, Bool.and_true];omega
theorem seen_start (T : Tab) (u : Nat) (left : Lit → Bool) (n : Nat) (h : ∀ i, (T i).isSome = true → left (kl i) = true) : seenU T u left n = 0 := by
 unfold seenU;rw [List.countP_eq_zero];intro i _;cases hT : T i with
 | none => simp [userIs, hT]
 | some x => simp [h i (by rw [hT]; rfl)]
theorem seen_end (T : Tab) (u : Nat) (left : Lit → Bool) (h : ∀ k, left k = false) : seenU T u left 4096 = T.ofUser u := by
 unfold seenU Tab.ofUser;refine congrArg (fun g => (List.range 4096).countP g) (funext fun i => ?_);rw [h, Bool.not_false, Bool.and_true];rfl
theorem seen_le (T : Tab) (u : Nat) (left : Lit → Bool) (n : Nat) : seenU T u left n ≤ n := by
 unfold seenU;have := List.countP_le_length (p := fun i => userIs T u i && !left (kl i)) (l := List.range n);rw [List.length_range] at this;exact this
theorem of_any (sb : Nat) (T : Tab) (mb : Nat) (f : Fn) (D : DataW Unit) (sl : Nat → Value) (u : Nat) (w : World) (h : TabAt w sb T mb f D sl) (hT : ∀ i x, T i = some x → i < 4096) :
  Calls Tryz.prog 65 #[.pointer (some ⟨sb, 0, none⟩), .int .i64 u] w fun e w' => e = .returned (.int .i64 (T.ofUser u)) ∧ Below w.heap.size w w' := by
 have HH : Hid (TabAt w sb T mb f D sl) := h;have HTT : Hid (∀ i x, T i = some x → i < 4096) := hT;have HS0 : Hid (seenU T u (Maps.has D) 4096 = 0) := seen_start T u _ _ (fun i hi => by rw [h.map.has_eq i, h.dom i]; exact hi);have cs : w.cell? ⟨sb, 0, none⟩ = some (.map (some mb)) := Blk.cell h.blk 0;clear h hT;go_enter Tryz.func65, Tryz.ntmps65;go_wp2_with (at_range; refine wpList_range_own _ rfl _ 156 rfl 3 171 law Tryz.underlying156 ptrR mb f.card D rfl HH.out.map.own ?_; intro w0 hrg0 hg0 hs0);go_frame;clear cs
 go_loopw [5] (fun cv wx => ∃ (left : Lit → Bool) (cnt c : Nat), cv = .int .i64 c ∧ Hid (c = seenU T u left 4096 ∧ c ≤ 65536) ∧ Hid (Rng wx mb w.heap.size f D left cnt) ∧ Hid (Fr (fun _ => False) w wx)) (fun _ wx => wx.rangeLeft mb w.heap.size)
 case atStart => exact ⟨_, _, 0, rfl, ⟨HS0.out.symm, by omega⟩, hrg0, Fr.grown0 hg0⟩
 case round =>
  obtain ⟨left, cnt, c, rfl, HC, HG, HF⟩ := hrel;go_wp2_with (
   at_next
   refine wpL_next rfl _ rfl mb w.heap.size f D left cnt rfl HG.out HH.out.map.keys (fun i p h => (HH.out.map.vals i p h).2.2) ?done ?more
   case' done => intro hc hl
   case' more => (
    intro i p w1 cnt1 hf hlk hrg1 hlt hgr hsz hen
    obtain ⟨x, hx, hs⟩ := HH.out.sess hf
    have hp := hs.blk.lt
    have c1 : w1.cell? ⟨p, 1, none⟩ = some (.int .i64 x.user) := Blk.cell ((hs.blk.kept HF.out (fun h => h)).kept hgr (by omega)) 1))
  ·have hu : x.user = u := by
    rename_i hh;have := eq_of_beq hh;omega
   have hi : i < 4096 := HTT.out i x hx;have hI : userIs T u i = true := by simp [userIs, hx, hu]
   have h1 := seen_step T u left i 4096 hlk;rw [if_pos ⟨hi, hI⟩] at h1;have h2 := seen_le T u (fun z => left z && !z.sameKey (kl i)) 4096;have hc := HC.out;refine ⟨⟨fun z => left z && !z.sameKey (kl i), cnt1, c + 1, congrArg (Value.int .i64) ?_, ⟨?_, ?_⟩, hrg1, HF.out.trans hgr (fun k hk e => by omega)⟩, ?_⟩
   ·unfold wrap64; omega
   ·rw [h1, hc.1]
   ·omega
   ·rw [World.ranges.left_eq hrg1, World.ranges.left_eq HG.out]; exact hlt
  ·have hu : ¬ x.user = u := fun e => by
    rename_i hh;rw [e] at hh;simp at hh
   have hI : userIs T u i = false := by simp [userIs, hx, hu]
   have h1 := seen_step T u left i 4096 hlk;rw [if_neg (fun hh => by rw [hI] at hh; cases hh.2), Nat.add_zero] at h1;have hc := HC.out;refine ⟨⟨fun z => left z && !z.sameKey (kl i), cnt1, c, rfl, ⟨?_, hc.2⟩, hrg1, HF.out.trans hgr (fun k hk e => by omega)⟩, ?_⟩
   ·rw [h1, hc.1]
   ·rw [World.ranges.left_eq hrg1, World.ranges.left_eq HG.out]; exact hlt
  ·go_ret;have hc := HC.out;exact ⟨ri (by rw [hc.1, seen_end T u left hl]), HF.out.below⟩
end Go.Proofs.YtmnajomkfnkmeaaGreatDoor
namespace Go.Proofs.YtmnajomkfnkmeaaGreatDoor
open Go.RowKit
attribute [local go_sem] ofL_size
def foundV (T : Tab) (sl : Nat → Value) (id : Nat) : Value := match T id with | some x => sessV id x (sl id) | none => noSess
theorem find_any (sb : Nat) (T : Tab) (mb : Nat) (f : Fn) (D : DataW Unit) (sl : Nat → Value) (id : Nat) (w : World) (h : TabAt w sb T mb f D sl) (hid : id < 65536) :
  Calls Tryz.prog 109 #[.pointer (some ⟨sb, 0, none⟩), .int .i64 id] w fun e w' => e = .returned (.tuple #[foundV T sl id, .bool (T id).isSome]) ∧ Below w.heap.size w w' := by
 cases hx : T id with
 | none =>
  refine (find_none sb T mb f D sl id w h hid hx).mono ?_;rintro e w1 ⟨rfl, hb⟩;exact ⟨by simp [foundV, hx], hb⟩
 | some x =>
  have hd := h.dom id;rw [hx] at hd;cases hf : f id with
  | none => rw [hf] at hd; cases hd
  | some p =>
   refine (find_some sb T mb f D sl id p x w h hid hf hx).mono ?_;rintro e w1 ⟨rfl, hb⟩;exact ⟨by simp [foundV, hx], hb⟩
theorem found_shape {w : World} {sb : Nat} {T : Tab} {mb : Nat} {f : Fn} {D : DataW Unit} {sl : Nat → Value} (h : TabAt w sb T mb f D sl) (id : Nat) :
  ∃ (a b c d : Int) (s : Value), foundV T sl id = .agg #[.int .i64 a, .int .i64 b, .int .i64 c, .int .i64 d, s] ∧ (s = .slice none 0 0 ∨ ∃ g n cap, s = .slice (some ⟨g, 0, none⟩) n cap) ∧ ∀ x, T id = some x → VSl w s x.vals := by
 cases hx : T id with
 | none => exact ⟨0, 0, 0, 0, _, by simp [foundV, hx, noSess], Or.inl rfl, fun x h => by cases h⟩
 | some x =>
  have hd := h.dom id;rw [hx] at hd;cases hf : f id with
  | none => rw [hf] at hd; cases hd
  | some p =>
   have hs := h.each id p x hf hx;refine ⟨id, x.user, x.created, x.used, sl id, by simp [foundV, hx, sessV], ?_, fun y hy => ?_⟩
   ·rcases hs.own.cases with ⟨ho, _⟩ | ⟨g, cap, cur, ho, _⟩
    ·exact Or.inl ho
    ·exact Or.inr ⟨g, _, cap, ho⟩
   ·obtain rfl := Option.some.inj hy;exact hs.own.read
theorem bool_end {a b : Bool} (h : a = b) : Ending.returned (.bool a) = .returned (.bool b) := by rw [h]
theorem boxed {w : World} {sb : Nat} {T : Tab} {mb : Nat} {f : Fn} {D : DataW Unit} {sl : Nat → Value} (h : TabAt w sb T mb f D sl) (a : Array Value) (t : TypeId) :
  TabAt (w.alloc (.cells a t)) sb T mb f D sl ∧ Blk (w.alloc (.cells a t)) w.heap.size a t ∧ Below w.heap.size w (w.alloc (.cells a t)) :=
 ⟨h.kept ((Fr.refl (fun _ => False) w).alloc _) (fun _ _ h => h), Blk.new _ _ _, bA⟩
theorem allows_T (sb : Nat) (T : Tab) (mb : Nat) (f : Fn) (D : DataW Unit) (sl : Nat → Value) (k : Nat) (hk : k = 84 ∨ k = 88) (id t : Nat) (w : World) (h : TabAt w sb T mb f D sl) (hid : id < 65536) :
  Calls Tryz.prog 189 #[.pointer (some ⟨sb, 0, none⟩), chV k id 0 0 t [] []] w fun e w' => e = .returned (.bool (T id).isSome) ∧ Below w.heap.size w w' := by
 obtain ⟨ht, hq, hbw⟩ := boxed h (chA k id 0 0 t [] []) 101;unfold chA at ht hq hbw;have HT : Hid (TabAt _ sb T mb f D sl) := ht;have HQ : Hid (Blk _ _ _ _) := hq;have HB : Hid (Below _ _ _) := hbw;clear h ht hq hbw;unfold chV;rcases hk with rfl | rfl
 all_goals
  go_enter Tryz.func189, Tryz.ntmps189;go_wp2_with fail;generalize w.alloc (Obj.cells _ _ _) = w0 at *
  refine (find_any sb T mb f D sl id w0 HT.out hid).mono ?_;rintro e w1 ⟨rfl, hb1⟩;obtain ⟨a, b, c, d, s, hfv, hs, -⟩ := found_shape HT.out id;rw [hfv];have hq1 := HQ.out.below hb1;have hl1 := hq1.lt;have c0 := Blk.cell hq1 0;simp only [List.getElem?_toArray, List.getElem?_cons_zero] at c0;generalize hfo : (T id).isSome = fo at *
  have HF : Hid ((T id).isSome = fo) := hfo;clear hfv hq1 hfo;have HB1 : Hid (Below w.heap.size w w1) := HB.out.trans (hb1.mono HB.out.size);clear hb1;rcases hs with rfl | ⟨g, n, cap, rfl⟩
  all_goals
   go_wp2_with fail;go_ret;exact ⟨bool_end HF.out.symm, HB1.out.alloc (by omega) _⟩
theorem allows_L (sb : Nat) (T : Tab) (mb : Nat) (f : Fn) (D : DataW Unit) (sl : Nat → Value) (id u t : Nat) (w : World) (h : TabAt w sb T mb f D sl) (hT : ∀ i x, T i = some x → i < 4096) (hid : id < 65536) :
  Calls Tryz.prog 189 #[.pointer (some ⟨sb, 0, none⟩), chV 76 id 0 u t [] []] w fun e w' => e = .returned (.bool ((T id).isNone && decide (T.live < 12))) ∧ Below w.heap.size w w' := by
 obtain ⟨ht, hq, hbw⟩ := boxed h (chA 76 id 0 u t [] []) 101;unfold chA at ht hq hbw;have HT : Hid (TabAt _ sb T mb f D sl) := ht;have HQ : Hid (Blk _ _ _ _) := hq;have HB : Hid (Below _ _ _) := hbw;have HN : Hid (∀ i x, T i = some x → i < 4096) := hT;clear h ht hq hbw hT;unfold chV;go_enter Tryz.func189, Tryz.ntmps189;go_wp2_with fail;generalize w.alloc (Obj.cells _ _ _) = w0 at *
 refine (find_any sb T mb f D sl id w0 HT.out hid).mono ?_;rintro e w1 ⟨rfl, hb1⟩;obtain ⟨a, b, c, d, s, hfv, hs, -⟩ := found_shape HT.out id;rw [hfv];have HQ1 : Hid (Blk _ _ _ _) := HQ.out.below hb1;have HT1 : Hid (TabAt w1 sb T mb f D sl) := HT.out.kept (Fr.of_below hb1) (fun _ _ h => h);have hl1 := HQ1.out.lt;have c0 := Blk.cell HQ1.out 0;simp only [List.getElem?_toArray, List.getElem?_cons_zero] at c0;generalize hfo : (T id).isSome = fo at *
 have HF : Hid ((T id).isSome = fo) := hfo;clear hfv hfo;have HB1 : Hid (Below w.heap.size w w1) := HB.out.trans (hb1.mono HB.out.size);clear hb1;rcases hs with rfl | ⟨g, n, cap, rfl⟩
 all_goals
  cases fo
  ·go_wp2_with fail;refine (live_any sb T mb f D sl _ (HT1.out.kept ((Fr.refl (fun _ => False) w1).alloc _) (fun _ _ h => h)) HN.out).mono ?_;rintro e w2 ⟨rfl, rfl⟩;go_wp2_with fail;go_ret;have hn : (T id).isNone = true := by have := HF.out; cases hx : T id <;> simp [hx] at this ⊢
   exact ⟨bool_end (by rw [hn]; simp; omega), HB1.out.alloc (by omega) _⟩
  ·go_wp2_with fail;go_ret;have hn : (T id).isNone = false := by have := HF.out; cases hx : T id <;> simp [hx] at this ⊢
   exact ⟨bool_end (by rw [hn]; simp), HB1.out.alloc (by omega) _⟩
theorem allows_U (sb : Nat) (T : Tab) (mb : Nat) (f : Fn) (D : DataW Unit) (sl : Nat → Value) (u : Nat) (w : World) (h : TabAt w sb T mb f D sl) (hT : ∀ i x, T i = some x → i < 4096) :
  Calls Tryz.prog 189 #[.pointer (some ⟨sb, 0, none⟩), chV 85 0 0 u 0 [] []] w fun e w' => e = .returned (.bool (decide (0 < T.ofUser u))) ∧ Below w.heap.size w w' := by
 obtain ⟨ht, hq, hbw⟩ := boxed h (chA 85 0 0 u 0 [] []) 101;unfold chA at ht hq hbw;have HT : Hid (TabAt _ sb T mb f D sl) := ht;have HQ : Hid (Blk _ _ _ _) := hq;have HB : Hid (Below _ _ _) := hbw;have HN : Hid (∀ i x, T i = some x → i < 4096) := hT;clear h ht hq hbw hT;unfold chV;go_enter Tryz.func189, Tryz.ntmps189;go_wp2_with fail;generalize w.alloc (Obj.cells _ _ _) = w0 at *
 refine (find_any sb T mb f D sl 0 w0 HT.out (by decide)).mono ?_;rintro e w1 ⟨rfl, hb1⟩;obtain ⟨a, b, c, d, s, hfv, hs, -⟩ := found_shape HT.out 0;rw [hfv];have HQ1 : Hid (Blk _ _ _ _) := HQ.out.below hb1;have HT1 : Hid (TabAt w1 sb T mb f D sl) := HT.out.kept (Fr.of_below hb1) (fun _ _ h => h);have hl1 := HQ1.out.lt;have c0 := Blk.cell HQ1.out 0;have c3 := Blk.cell HQ1.out 3;simp only [gT, gZ, gS] at c0 c3;generalize (T 0).isSome = fo at *
 clear hfv;have HB1 : Hid (Below w.heap.size w w1) := HB.out.trans (hb1.mono HB.out.size);clear hb1;rcases hs with rfl | ⟨g, n, cap, rfl⟩
 all_goals
  go_wp2_with fail;refine (of_any sb T mb f D sl u _ (HT1.out.kept ((Fr.refl (fun _ => False) w1).alloc _) (fun _ _ h => h)) HN.out).mono ?_;rintro e w2 ⟨rfl, hb2⟩;go_wp2_with fail;go_ret;exact ⟨bool_end (by simp), (HB1.out.alloc (by omega) _).trans (hb2.mono (by simp; have := HB1.out.size; omega))⟩
theorem allows_R (sb : Nat) (T : Tab) (mb : Nat) (f : Fn) (D : DataW Unit) (sl : Nat → Value) (id too t : Nat) (w : World) (h : TabAt w sb T mb f D sl) (hT : ∀ i x, T i = some x → i < 4096) (hid : id < 65536) (htoo : too < 65536) :
  Calls Tryz.prog 189 #[.pointer (some ⟨sb, 0, none⟩), chV 82 id too 0 t [] []] w fun e w' => e = .returned (.bool ((T id).isSome && (T too).isNone)) ∧ Below w.heap.size w w' := by
 obtain ⟨ht, hq, hbw⟩ := boxed h (chA 82 id too 0 t [] []) 101;unfold chA at ht hq hbw;have HT : Hid (TabAt _ sb T mb f D sl) := ht;have HQ : Hid (Blk _ _ _ _) := hq;have HB : Hid (Below _ _ _) := hbw;have HN : Hid (∀ i x, T i = some x → i < 4096) := hT;clear h ht hq hbw hT;unfold chV;go_enter Tryz.func189, Tryz.ntmps189;go_wp2_with fail;generalize w.alloc (Obj.cells _ _ _) = w0 at *
 refine (find_any sb T mb f D sl id w0 HT.out hid).mono ?_;rintro e w1 ⟨rfl, hb1⟩;obtain ⟨a, b, c, d, s, hfv, hs, -⟩ := found_shape HT.out id;rw [hfv];have HQ1 : Hid (Blk _ _ _ _) := HQ.out.below hb1;have HT1 : Hid (TabAt w1 sb T mb f D sl) := HT.out.kept (Fr.of_below hb1) (fun _ _ h => h);have hl1 := HQ1.out.lt;have c0 := Blk.cell HQ1.out 0;have c2 := Blk.cell HQ1.out 2;simp only [gT, gZ, gS] at c0 c2;generalize hfo : (T id).isSome = fo at *
 have HF : Hid ((T id).isSome = fo) := hfo;clear hfo;clear hfv;have HB1 : Hid (Below w.heap.size w w1) := HB.out.trans (hb1.mono HB.out.size);clear hb1;rcases hs with rfl | ⟨g, n, cap, rfl⟩
 all_goals
  go_wp2_with fail;refine (find_any sb T mb f D sl too _ (HT1.out.kept ((Fr.refl (fun _ => False) w1).alloc _) (fun _ _ h => h)) htoo).mono ?_;rintro e w2 ⟨rfl, hb2⟩;have HB2 : Hid (Below w.heap.size w w2) := (HB1.out.alloc (by omega) _).trans (hb2.mono (by simp; omega));have c0' := (hb2.cell (p := ⟨w.heap.size, 0, none⟩) (by simp; omega)).trans ((Below.cell ((Below.refl w1.heap.size w1).alloc (Nat.le_refl _) _) (p := ⟨w.heap.size, 0, none⟩) hl1).trans c0);have hl2 : w.heap.size < w2.heap.size := by have := hb2.size; simp at this; omega
  clear hb2 c0 c2;obtain ⟨a2, b2, c2, d2, s2, hfv, hs2, -⟩ := found_shape HT1.out too;rw [hfv];have HF2 : Hid ((T too).isNone = !(T too).isSome) := by cases T too <;> rfl
  generalize hfo : (T too).isSome = fo2 at *
  clear hfv hfo;rcases hs2 with rfl | ⟨g2, n2, cap2, rfl⟩
  all_goals
   cases fo
   all_goals
    go_wp2_with fail;go_ret;exact ⟨bool_end (by rw [HF.out, HF2.out]; simp), HB2.out.alloc (by omega) _⟩
theorem allows_S (sb : Nat) (T : Tab) (mb : Nat) (f : Fn) (D : DataW Unit) (sl : Nat → Value) (id t : Nat) (nm v : Bs) (w : World) (h : TabAt w sb T mb f D sl) (hT : ∀ i x, T i = some x → i < 4096) (hid : id < 65536) (hr : ∀ x, T id = some x → rising x.vals ∧ x.vals.length ≤ 1000000) :
  Calls Tryz.prog 189 #[.pointer (some ⟨sb, 0, none⟩), chV 83 id 0 0 t nm v] w fun e w' => e = .returned (.bool (T.allows (.S id nm v t))) ∧ Below w.heap.size w w' := by
 obtain ⟨ht, hq, hbw⟩ := boxed h (chA 83 id 0 0 t nm v) 101;unfold chA at ht hq hbw;have HT : Hid (TabAt _ sb T mb f D sl) := ht;have HQ : Hid (Blk _ _ _ _) := hq;have HB : Hid (Below _ _ _) := hbw;have HN : Hid (∀ i x, T i = some x → i < 4096) := hT;clear h ht hq hbw hT;unfold chV;go_enter Tryz.func189, Tryz.ntmps189;go_wp2_with fail;generalize w.alloc (Obj.cells _ _ _) = w0 at *
 refine (find_any sb T mb f D sl id w0 HT.out hid).mono ?_;rintro e w1 ⟨rfl, hb1⟩;obtain ⟨a, b, c, d, s, hfv, hs, hvs⟩ := found_shape HT.out id;rw [hfv];have HQ1 : Hid (Blk _ _ _ _) := HQ.out.below hb1;have HT1 : Hid (TabAt w1 sb T mb f D sl) := HT.out.kept (Fr.of_below hb1) (fun _ _ h => h);have hl1 := HQ1.out.lt;have c0 := Blk.cell HQ1.out 0;have c5 := Blk.cell HQ1.out 5;simp only [gT, gZ, gS] at c0 c5;have HV : Hid (∀ x, T id = some x → VSl w1 s x.vals) := fun x hx => (hvs x hx).below hb1;clear hvs;generalize hfo : (T id).isSome = fo at *
 have HF : Hid ((T id).isSome = fo) := hfo;have HR : Hid (∀ x, T id = some x → rising x.vals ∧ x.vals.length ≤ 1000000) := hr;clear hfo hr;clear hfv;have HB1 : Hid (Below w.heap.size w w1) := HB.out.trans (hb1.mono HB.out.size);clear hb1;rcases hs with rfl | ⟨g, n, cap, rfl⟩
 all_goals
  cases fo
  ·go_wp2_with fail;go_ret;have hn : T id = none := by have := HF.out; cases hx : T id <;> simp [hx] at this ⊢
   exact ⟨bool_end (by simp [Tab.allows, hn]), HB1.out.alloc (by omega) _⟩
  ·obtain ⟨x, hx⟩ : ∃ x, T id = some x := by have := HF.out; cases hx : T id <;> simp [hx] at this ⊢
   have hv := HV.out x hx;have HX : Hid (T id = some x) := hx;have hr2 := HR.out x hx;clear hx;have HH2 : Hid (VSl _ _ _) := hv;have HR2 : Hid (rising x.vals ∧ x.vals.length ≤ 1000000) := hr2;clear hv hr2;go_wp2_with fail;refine (room_any _ _ _ _ _ x nm _ (HH2.out.below (bA)) HR2.out.1 HR2.out.2).mono ?_;rintro e w2 ⟨rfl, hb2⟩;go_wp2_with fail;go_ret;exact ⟨bool_end (by simp [Tab.allows, HX.out]), (HB1.out.alloc (by omega) _).trans (hb2.mono (by simp; omega))⟩
theorem allows_any (sb : Nat) (T : Tab) (mb : Nat) (f : Fn) (D : DataW Unit) (sl : Nat → Value) (c : Chg) (w : World) (h : TabAt w sb T mb f D sl) (hT : T.wf) (hc : c.ok) :
  Calls Tryz.prog 189 #[.pointer (some ⟨sb, 0, none⟩), chgV c] w fun e w' => e = .returned (.bool (T.allows c)) ∧ Below w.heap.size w w' := by
 have hi : ∀ i x, T i = some x → i < 4096 := fun i x hx => (hT.each i x hx).1;cases c with
 | L id u t => exact allows_L sb T mb f D sl id u t w h hi (by have := hc.1; omega)
 | T id t => exact allows_T sb T mb f D sl 84 (Or.inl rfl) id t w h (by have := hc.1; omega)
 | X id => exact allows_T sb T mb f D sl 88 (Or.inr rfl) id 0 w h (by have : id < 4096 := hc; omega)
 | R id too t => exact allows_R sb T mb f D sl id too t w h hi (by have := hc.1; omega) (by have := hc.2.1; omega)
 | S id n v t => exact allows_S sb T mb f D sl id t n v w h hi (by have := hc.1; omega) (fun x hx => ⟨(hT.each id x hx).2.rise, by have := (hT.each id x hx).2.few; omega⟩)
 | U u => exact allows_U sb T mb f D sl u w h hi
end Go.Proofs.YtmnajomkfnkmeaaGreatDoor
namespace Go.Proofs.YtmnajomkfnkmeaaGreatDoor
open Go.RowKit
attribute [local go_sem] ofL_size
def DoTo (w : World) (sb : Nat) (T' : Tab) (mb : Nat) (f : Fn) (sl : Nat → Value) (e : Ending) (w' : World) : Prop :=
 e = .returned (.tuple #[]) ∧ ∃ (f' : Fn) (D' : DataW Unit) (sl' : Nat → Value), TabAt w' sb T' mb f' D' sl' ∧ Fr (foot sb mb f sl) w w' ∧ ∀ b, foot sb mb f' sl' b → foot sb mb f sl b ∨ w.heap.size ≤ b
theorem TabAt.apart {w : World} {sb : Nat} {T : Tab} {mb : Nat} {f : Fn} {D : DataW Unit} {sl : Nat → Value} (h : TabAt w sb T mb f D sl) {id p : Nat} (hf : f id = some p) :
  sb ≠ p ∧ mb ≠ p ∧ (sl id).ownBlock ≠ some sb ∧ (sl id).ownBlock ≠ some mb ∧ (∀ j q, j ≠ id → f j = some q → q ≠ p ∧ (sl id).ownBlock ≠ some q) ∧
  ∀ j b, j ≠ id → (f j).isSome = true → (sl j).ownBlock = some b → b ≠ p ∧ (sl id).ownBlock ≠ some b := by
 obtain ⟨x, hx, hs⟩ := h.sess hf;refine ⟨fun e => ?_, fun e => ?_, fun e => ?_, fun e => ?_, fun j q hj hq => ⟨fun e => ?_, fun e => ?_⟩, fun j b hj hb ho => ⟨fun e => ?_, fun e => ?_⟩⟩
 ·have := h.blk.elem (e ▸ hs.blk); revert this; decide
 ·exact h.map.noBlk (e ▸ hs.blk)
 ·obtain ⟨a, ha⟩ := hs.own.elem e;have := h.blk.elem ha; revert this; decide
 ·obtain ⟨a, ha⟩ := hs.own.elem e;exact h.map.noBlk ha
 ·exact hj (h.ptr j id p (e ▸ hq) hf)
 ·obtain ⟨y, _, hy⟩ := h.sess hq;obtain ⟨a, ha⟩ := hs.own.elem e;have := hy.blk.elem ha; revert this; decide
 ·obtain ⟨q, hq⟩ := Option.isSome_iff_exists.1 hb;obtain ⟨y, _, hy⟩ := h.sess hq;obtain ⟨a, ha⟩ := hy.own.elem ho;have := hs.blk.elem (e ▸ ha); revert this; decide
 ·exact hj (h.own j id b hb (by rw [hf]; rfl) ho e)
theorem TabAt.turn {w w' : World} {sb : Nat} {T : Tab} {mb : Nat} {f : Fn} {D : DataW Unit} {sl : Nat → Value} (h : TabAt w sb T mb f D sl) {id p : Nat} {x' : Sess} {s' : Value} (hf : f id = some p)
  (hs : SAt w' p id x' s') (hfr : Fr (fun b => b = p ∨ (sl id).ownBlock = some b) w w') (hn : ∀ b, s'.ownBlock = some b → (sl id).ownBlock = some b ∨ w.heap.size ≤ b) :
  TabAt w' sb (T.set id (some x')) mb f D (fun j => if j = id then s' else sl j) := by
 obtain ⟨a1, a2, a3, a4, a5, a6⟩ := h.apart hf;refine ⟨h.blk.kept hfr (fun hh => hh.elim a1 a3), h.map.kept hfr (fun hh => hh.elim a2 a4), fun j => ?_, fun j q y hj hy => ?_, h.ptr, fun j k b hj hk hbj hbk => ?_⟩
 ·unfold Tab.set;by_cases e : j = id
  ·rw [if_pos e, e, hf]; rfl
  ·rw [if_neg e]; exact h.dom j
 ·unfold Tab.set at hy;by_cases e : j = id
  ·rw [if_pos e] at hy;obtain rfl := Option.some.inj hy;subst e;rw [hf] at hj;obtain rfl := Option.some.inj hj;simp only [if_true];exact hs
  ·rw [if_neg e] at hy;simp only [if_neg e];refine (h.each j q y hj hy).kept hfr (fun hh => hh.elim (a5 j q e hj).1 (a5 j q e hj).2) (fun b hb hh => ?_);have := a6 j b e (by rw [hj]; rfl) hb;exact hh.elim this.1 this.2
 ·by_cases e : j = id
  ·by_cases e2 : k = id
   ·rw [e, e2]
   ·rw [if_pos e] at hbj; rw [if_neg e2] at hbk;rcases hn b hbj with hh | hh
    ·exact absurd hh (a6 k b e2 hk hbk).2
    ·have := h.lt b (Or.inr (Or.inr (Or.inr ⟨k, hk, hbk⟩)));omega
  ·by_cases e2 : k = id
   ·rw [if_neg e] at hbj; rw [if_pos e2] at hbk;rcases hn b hbk with hh | hh
    ·exact absurd hh (a6 j b e hj hbj).2
    ·have := h.lt b (Or.inr (Or.inr (Or.inr ⟨j, hj, hbj⟩)));omega
   ·rw [if_neg e] at hbj; rw [if_neg e2] at hbk;exact h.own j k b hj hk hbj hbk
theorem TabAt.sub {w w' : World} {sb : Nat} {T T' : Tab} {mb : Nat} {f f' : Fn} {D D' : DataW Unit} {sl : Nat → Value} (h : TabAt w sb T mb f D sl) (hm : MapIs w' mb f' D') (ht : Fr (· = mb) w w')
  (hs : ∀ i, (f' i = f i ∧ T' i = T i) ∨ (f' i = none ∧ T' i = none)) : TabAt w' sb T' mb f' D' sl := by
 have hblk : sb ≠ mb := fun e => h.map.noBlk (e ▸ h.blk);have keep : ∀ {q : Nat} {id : Int} {y : Sess} {t : Value}, SAt w q id y t → SAt w' q id y t := fun {q id y t} hq => hq.kept ht (fun e => h.map.noBlk (e ▸ hq.blk)) (fun b hb e => by
  obtain ⟨a, ha⟩ := hq.own.elem hb
  exact h.map.noBlk (e ▸ ha))
 have sub1 : ∀ i p, f' i = some p → f i = some p := fun i p hi => by
  rcases hs i with ⟨h1, _⟩ | ⟨h1, _⟩
  ·rw [← h1]; exact hi
  ·rw [h1] at hi; cases hi
 have sub2 : ∀ i, (f' i).isSome = true → (f i).isSome = true := fun i hi => by
  obtain ⟨p, hp⟩ := Option.isSome_iff_exists.1 hi;rw [sub1 i p hp]; rfl
 refine ⟨h.blk.kept ht hblk, hm, fun j => ?_, fun j q y hj hy => ?_, fun j k q hj hk => h.ptr j k q (sub1 _ _ hj) (sub1 _ _ hk), fun j k b hj hk => h.own j k b (sub2 _ hj) (sub2 _ hk)⟩
 ·rcases hs j with ⟨h1, h2⟩ | ⟨h1, h2⟩
  ·rw [h1, h2]; exact h.dom j
  ·rw [h1, h2]; rfl
 ·rcases hs j with ⟨h1, h2⟩ | ⟨h1, h2⟩
  ·exact keep (h.each j q y (sub1 _ _ hj) (h2 ▸ hy))
  ·rw [h1] at hj; cases hj
theorem TabAt.move {w w' : World} {sb : Nat} {T : Tab} {mb : Nat} {f : Fn} {D D' : DataW Unit} {sl : Nat → Value} (h : TabAt w sb T mb f D sl) {id too p q t : Nat} {x : Sess} (hf : f id = some p) (hx : T id = some x) (hto : T too = none)
  (hq : Blk w' q #[.int .i64 too, .int .i64 x.user, .int .i64 x.created, .int .i64 t, sl id] 104) (hqn : w.heap.size ≤ q) (hm : MapIs w' mb ((f.set too (some q)).set id none) D') (ht : Fr (· = mb) w w') :
  TabAt w' sb ((T.set id none).set too (some { x with used := t })) mb ((f.set too (some q)).set id none) D' (fun j => if j = too then sl id else sl j) := by
 have hblk : sb ≠ mb := fun e => h.map.noBlk (e ▸ h.blk);have hne : id ≠ too := fun e => by rw [e, hto] at hx; cases hx
 have keep : ∀ {q : Nat} {id : Int} {y : Sess} {t : Value}, SAt w q id y t → SAt w' q id y t := fun {q id y t} hq => hq.kept ht (fun e => h.map.noBlk (e ▸ hq.blk)) (fun b hb e => by
  obtain ⟨a, ha⟩ := hq.own.elem hb
  exact h.map.noBlk (e ▸ ha))
 have hs := h.each id p x hf hx;have ftoo : f too = none := by
  have := h.dom too;rw [hto] at this;cases hh : f too with
  | none => rfl
  | some _ => rw [hh] at this; cases this
 have at1 : ∀ j, ((f.set too (some q)).set id none) j = if j = too then some q else if j = id then none else f j := fun j => by
  unfold Fn.set;by_cases e : j = too
  ·rw [if_pos e, if_neg (fun e2 => hne (e2.symm.trans e)), if_pos e]
  ·rw [if_neg e, if_neg e]
 have at2 : ∀ j, ((T.set id none).set too (some { x with used := t })) j = if j = too then some { x with used := t } else if j = id then none else T j := fun j => rfl
 refine ⟨h.blk.kept ht hblk, hm, fun j => ?_, fun j r y hj hy => ?_, fun j k r hj hk => ?_, fun j k b hj hk hbj hbk => ?_⟩
 ·rw [at1, at2];by_cases e : j = too
  ·rw [if_pos e, if_pos e]; rfl
  ·rw [if_neg e, if_neg e];by_cases e2 : j = id
   ·rw [if_pos e2, if_pos e2]; rfl
   ·rw [if_neg e2, if_neg e2]; exact h.dom j
 ·rw [at1] at hj;rw [at2] at hy;by_cases e : j = too
  ·rw [if_pos e] at hj hy;obtain rfl := Option.some.inj hj;obtain rfl := Option.some.inj hy;subst e;simp only [if_true];have hk := keep hs;refine ⟨hq, hk.own, fun e => ?_⟩;have := VO.lt hs.own _ e;omega
  ·rw [if_neg e] at hj hy;by_cases e2 : j = id
   ·rw [if_pos e2] at hj; cases hj
   ·rw [if_neg e2] at hj hy;simp only [if_neg e];exact keep (h.each j r y hj hy)
 ·rw [at1] at hj hk;have big : ∀ i, f i ≠ some q := fun i hi => by
   have := h.lt q (Or.inr (Or.inr (Or.inl ⟨i, hi⟩)));omega
  by_cases e : j = too
  ·by_cases e2 : k = too
   ·rw [e, e2]
   ·rw [if_pos e] at hj; rw [if_neg e2] at hk;obtain rfl := Option.some.inj hj;split at hk
    ·cases hk
    ·exact absurd hk (big k)
  ·by_cases e2 : k = too
   ·rw [if_pos e2] at hk; rw [if_neg e] at hj;obtain rfl := Option.some.inj hk;split at hj
    ·cases hj
    ·exact absurd hj (big j)
   ·rw [if_neg e] at hj; rw [if_neg e2] at hk;split at hj
    ·cases hj
    ·split at hk
     ·cases hk
     ·exact h.ptr j k r hj hk
 ·rw [at1] at hj hk;have hid : (f id).isSome = true := by rw [hf]; rfl
  by_cases e : j = too
  ·by_cases e2 : k = too
   ·rw [e, e2]
   ·rw [if_pos e] at hbj; rw [if_neg e2] at hk hbk;split at hk
    ·cases hk
    ·rename_i e3;exact absurd (h.own k id b hk hid hbk hbj) e3
  ·by_cases e2 : k = too
   ·rw [if_pos e2] at hbk; rw [if_neg e] at hj hbj;split at hj
    ·cases hj
    ·rename_i e3;exact absurd (h.own j id b hj hid hbj hbk) e3
   ·rw [if_neg e] at hj hbj; rw [if_neg e2] at hk hbk;split at hj
    ·cases hj
    ·split at hk
     ·cases hk
     ·exact h.own j k b hj hk hbj hbk
theorem set_same (sl : Nat → Value) (id : Nat) : (fun j => if j = id then sl id else sl j) = sl := funext fun j => by
 by_cases e : j = id
 ·rw [if_pos e, e]
 ·rw [if_neg e]
theorem foot_sub {sb mb : Nat} {f f' : Fn} {sl : Nat → Value} (h : ∀ i, f' i = f i ∨ f' i = none) (b : Nat) (hb : foot sb mb f' sl b) : foot sb mb f sl b := by
 rcases hb with hb | hb | ⟨i, hi⟩ | ⟨i, hi, ho⟩
 ·exact Or.inl hb
 ·exact Or.inr (Or.inl hb)
 ·rcases h i with e | e
  ·exact Or.inr (Or.inr (Or.inl ⟨i, e ▸ hi⟩))
  ·rw [e] at hi; cases hi
 ·rcases h i with e | e
  ·exact Or.inr (Or.inr (Or.inr ⟨i, e ▸ hi, ho⟩))
  ·rw [e] at hi; cases hi
theorem moved {w w0 w' : World} {sb : Nat} {T : Tab} {mb : Nat} {f : Fn} {D D' : DataW Unit} {sl : Nat → Value} (hb : Below w.heap.size w w0) (h : TabAt w0 sb T mb f D sl) {id too p t : Nat} {x : Sess} (hf : f id = some p) (hx : T id = some x) (hto : T too = none)
  (hq : Blk w' w0.heap.size #[.int .i64 too, .int .i64 x.user, .int .i64 x.created, .int .i64 t, sl id] 104) (hm : MapIs w' mb ((f.set too (some w0.heap.size)).set id none) D') (ht : Fr (· = mb) w0 w') :
  DoTo w sb (T.does (.R id too t)) mb f sl (.returned (.tuple #[])) w' := by
 refine ⟨rfl, (f.set too (some w0.heap.size)).set id none, D', (fun j => if j = too then sl id else sl j), ?_, (Fr.of_below hb).trans ht (fun b hb e => Or.inr (Or.inl e)), ?_⟩
 ·rw [show T.does (.R id too t) = (T.set id none).set too (some { x with used := t }) by simp [Tab.does, hx]];exact h.move hf hx hto hq (Nat.le_refl _) hm ht
 ·intro b hbf;have hid : (f id).isSome = true := by rw [hf]; rfl
  rcases hbf with e | e | ⟨i, hi⟩ | ⟨i, hi, ho⟩
  ·exact Or.inl (Or.inl e)
  ·exact Or.inl (Or.inr (Or.inl e))
  ·unfold Fn.set at hi;split at hi
   ·cases hi
   ·split at hi
    ·obtain rfl := Option.some.inj hi;exact Or.inr hb.size
    ·exact Or.inl (Or.inr (Or.inr (Or.inl ⟨i, hi⟩)))
  ·simp only at ho;split at ho
   ·exact Or.inl (Or.inr (Or.inr (Or.inr ⟨id, hid, ho⟩)))
   ·rename_i hne;unfold Fn.set at hi;split at hi
    ·cases hi
    ·exact Or.inl (Or.inr (Or.inr (Or.inr ⟨i, hi, ho⟩)))
theorem begun {w w0 w1 w' : World} {sb : Nat} {T : Tab} {mb : Nat} {f : Fn} {D D' : DataW Unit} {sl : Nat → Value} (hb : Below w.heap.size w w0) (h : TabAt w0 sb T mb f D sl) {id u t : Nat} (_hx : T id = none)
  (hf1 : Fr (fun _ => False) w0 w1) (hq : Blk w1 w0.heap.size #[.int .i64 id, .int .i64 u, .int .i64 t, .int .i64 t, .slice none 0 0] 104) (hm : MapIs w' mb (f.set id (some w0.heap.size)) D') (ht : Fr (· = mb) w1 w') :
  DoTo w sb (T.does (.L id u t)) mb f sl (.returned (.tuple #[])) w' := by
 have h1 : TabAt w1 sb T mb f D sl := h.kept hf1 (fun _ _ h => h);have hs : SAt w1 w0.heap.size id ⟨u, t, t, []⟩ (.slice none 0 0) := ⟨hq, VO.nil w1, fun e => by cases e⟩;have ha := h1.add hs (fun j hj => by have := h.lt _ (Or.inr (Or.inr (Or.inl ⟨j, hj⟩))); omega) (fun j b _ _ e => by cases e) hm ht;refine ⟨rfl, f.set id (some w0.heap.size), D', (fun j => if j = id then .slice none 0 0 else sl j), ha, ((Fr.of_below hb).trans hf1 (fun _ _ e => e.elim)).trans ht (fun b hb e => Or.inr (Or.inl e)), ?_⟩;intro b hbf;rcases hbf with e | e | ⟨i, hi⟩ | ⟨i, hi, ho⟩
 ·exact Or.inl (Or.inl e)
 ·exact Or.inl (Or.inr (Or.inl e))
 ·unfold Fn.set at hi;split at hi
  ·obtain rfl := Option.some.inj hi;exact Or.inr hb.size
  ·exact Or.inl (Or.inr (Or.inr (Or.inl ⟨i, hi⟩)))
 ·simp only at ho;unfold Fn.set at hi;by_cases e : i = id
  ·rw [if_pos e] at ho; cases ho
  ·rw [if_neg e] at ho hi;exact Or.inl (Or.inr (Or.inr (Or.inr ⟨i, hi, ho⟩)))
theorem set_none (f : Fn) (id i : Nat) : (f.set id none) i = f i ∨ (f.set id none) i = none := by
 unfold Fn.set;by_cases e : i = id
 ·rw [if_pos e]; exact Or.inr rfl
 ·rw [if_neg e]; exact Or.inl rfl
theorem do_T (sb : Nat) (T : Tab) (mb : Nat) (f : Fn) (D : DataW Unit) (sl : Nat → Value) (id t : Nat) (x : Sess) (w : World) (h : TabAt w sb T mb f D sl) (hid : id < 65536) (hx : T id = some x) :
  Calls Tryz.prog 111 #[.pointer (some ⟨sb, 0, none⟩), chV 84 id 0 0 t [] []] w (DoTo w sb (T.does (.T id t)) mb f sl) := by
 have hd := h.dom id;rw [hx] at hd;obtain ⟨p, hf⟩ := Option.isSome_iff_exists.1 hd;obtain ⟨ht, hq, hbw⟩ := boxed h (chA 84 id 0 0 t [] []) 101;unfold chA at ht hq hbw;have HH : Hid (TabAt _ sb T mb f D sl) := ht;have HQ : Hid (Blk _ _ _ _) := hq;have HB : Hid (Below _ _ _) := hbw;have HX : Hid (T id = some x) := hx;have HF : Hid (f id = some p) := hf;have HL : Hid (∀ b, foot sb mb f sl b → b < w.heap.size) := h.lt;clear h ht hq hbw hx hf hd;unfold chV;go_enter Tryz.func111, Tryz.ntmps111;go_wp2_with fail;generalize w.alloc (Obj.cells _ _ _) = w0 at *
 have hl := (HH.out.map.kept ((Fr.refl (fun _ => False) w0).drew) (fun h => h)).look1 id hid;rw [HF.out] at hl;simp only at hl;have cs : w0.cell? ⟨sb, 0, none⟩ = some (.map (some mb)) := Blk.cell HH.out.blk 0;have hsb := HH.out.blk.lt;have hs := HH.out.each id p x HF.out HX.out;have hp := hs.blk.lt;have hq := HQ.out.lt;have c0 := Blk.cell HQ.out 0;have c1 := Blk.cell HQ.out 1;have c4 := Blk.cell HQ.out 4;simp only [gT, gZ, gS] at c0 c1 c4;have fp : w0.frozen? ⟨p, 3, none⟩ = false := Blk.frozen hs.blk 3;have cp : w0.cell? ⟨p, 3, none⟩ = some (.int .i64 x.used) := Blk.cell hs.blk 3;have HS : Hid (SAt w0 p id x (sl id)) := hs;clear hs
 go_region
 go_wp2_with fail;go_end0;have hfr : Fr (fun b => b = p ∨ (sl id).ownBlock = some b) w0 (w0.setCell ⟨p, 3, none⟩ (.int .i64 t)).drew := ((Fr.refl _ w0).setCell ⟨p, 3, none⟩ (fun _ => Or.inl rfl) _).drew;have hb2 : Blk (w0.setCell ⟨p, 3, none⟩ (.int .i64 t)).drew p #[.int .i64 id, .int .i64 x.user, .int .i64 x.created, .int .i64 t, sl id] 104 := by
  have := Blk.set HS.out.blk 3 (.int .i64 t);exact Blk.drew (by simpa using this)
 have hs2 : SAt (w0.setCell ⟨p, 3, none⟩ (.int .i64 t)).drew p id { x with used := t } (sl id) :=
  ⟨hb2, HS.out.own.kept (((Fr.refl (fun b => b = p) w0).setCell ⟨p, 3, none⟩ (fun _ => rfl) _).drew) (fun b hb e => HS.out.apart (e ▸ hb)), HS.out.apart⟩
 have ht2 := HH.out.turn HF.out hs2 hfr (fun b hb => Or.inl hb);rw [set_same] at ht2;refine ⟨rfl, f, D, sl, ?_, ?_, fun b hb => Or.inl hb⟩
 ·rw [show T.does (.T id t) = T.set id (some { x with used := t }) by simp [Tab.does, HX.out]];exact ht2
 ·refine (Fr.of_below HB.out).trans hfr (fun b hb e => ?_);rcases e with rfl | e
  ·exact Or.inr (Or.inr (Or.inl ⟨id, HF.out⟩))
  ·exact Or.inr (Or.inr (Or.inr ⟨id, by rw [HF.out]; rfl, e⟩))
theorem do_X (sb : Nat) (T : Tab) (mb : Nat) (f : Fn) (D : DataW Unit) (sl : Nat → Value) (id t : Nat) (x : Sess) (w : World) (h : TabAt w sb T mb f D sl) (hid : id < 65536) (hx : T id = some x) :
  Calls Tryz.prog 111 #[.pointer (some ⟨sb, 0, none⟩), chV 88 id 0 0 t [] []] w (DoTo w sb (T.does (.X id)) mb f sl) := by
 have hd := h.dom id;rw [hx] at hd;obtain ⟨p, hf⟩ := Option.isSome_iff_exists.1 hd;obtain ⟨ht, hq, hbw⟩ := boxed h (chA 88 id 0 0 t [] []) 101;unfold chA at ht hq hbw;have HH : Hid (TabAt _ sb T mb f D sl) := ht;have HQ : Hid (Blk _ _ _ _) := hq;have HB : Hid (Below _ _ _) := hbw;have HX : Hid (T id = some x) := hx;have HF : Hid (f id = some p) := hf;have HL : Hid (∀ b, foot sb mb f sl b → b < w.heap.size) := h.lt;clear h ht hq hbw hx hf hd;unfold chV;go_enter Tryz.func111, Tryz.ntmps111;go_wp2_with fail;generalize w.alloc (Obj.cells _ _ _) = w0 at *
 have hl := (HH.out.map.kept ((Fr.refl (fun _ => False) w0).drew) (fun h => h)).look1 id hid;rw [HF.out] at hl;simp only at hl;have cs : w0.cell? ⟨sb, 0, none⟩ = some (.map (some mb)) := Blk.cell HH.out.blk 0;have hsb := HH.out.blk.lt;have hs := HH.out.each id p x HF.out HX.out;have hp := hs.blk.lt;have hq := HQ.out.lt;have c0 := Blk.cell HQ.out 0;have c1 := Blk.cell HQ.out 1;have c4 := Blk.cell HQ.out 4;simp only [gT, gZ, gS] at c0 c1 c4;clear hs;obtain ⟨w3, D3, hrun, hm3, hturn⟩ := (HH.out.map.kept ((Fr.refl (fun _ => False) w0).drew.drew) (fun h => h)).drop id hid 0
 go_region
 go_wp2_with fail
 go_region
 go_wp2_with fail;go_end0;have fr3 : Fr (· = mb) w0 w3 := (Fr.refl (· = mb) w0).drew.drew.trans (Fr.turned hturn) (fun _ _ h => h);refine ⟨rfl, f.set id none, D3, sl, ?_, (Fr.of_below HB.out).trans fr3 (fun b hb e => Or.inr (Or.inl e)), fun b hb => Or.inl (foot_sub (set_none f id) b hb)⟩;refine HH.out.sub hm3 fr3 (fun i => ?_);unfold Fn.set;rw [show T.does (.X id) = T.set id none from rfl];unfold Tab.set;by_cases e : i = id
 ·rw [if_pos e, if_pos e]; exact Or.inr ⟨rfl, rfl⟩
 ·rw [if_neg e, if_neg e]; exact Or.inl ⟨rfl, rfl⟩
theorem do_R (sb : Nat) (T : Tab) (mb : Nat) (f : Fn) (D : DataW Unit) (sl : Nat → Value) (id too t : Nat) (x : Sess) (w : World) (h : TabAt w sb T mb f D sl) (hid : id < 65536) (hx : T id = some x) (htoo : too < 65536) (hto : T too = none) :
  Calls Tryz.prog 111 #[.pointer (some ⟨sb, 0, none⟩), chV 82 id too 0 t [] []] w (DoTo w sb (T.does (.R id too t)) mb f sl) := by
 have hd := h.dom id;rw [hx] at hd;obtain ⟨p, hf⟩ := Option.isSome_iff_exists.1 hd;obtain ⟨ht, hq, hbw⟩ := boxed h (chA 82 id too 0 t [] []) 101;unfold chA at ht hq hbw;have HH : Hid (TabAt _ sb T mb f D sl) := ht;have HQ : Hid (Blk _ _ _ _) := hq;have HB : Hid (Below _ _ _) := hbw;have HX : Hid (T id = some x) := hx;have HF : Hid (f id = some p) := hf;have HL : Hid (∀ b, foot sb mb f sl b → b < w.heap.size) := h.lt;clear h ht hq hbw hx hf hd;unfold chV;go_enter Tryz.func111, Tryz.ntmps111;go_wp2_with fail;generalize w.alloc (Obj.cells _ _ _) = w0 at *
 have hl := (HH.out.map.kept ((Fr.refl (fun _ => False) w0).drew) (fun h => h)).look1 id hid;rw [HF.out] at hl;simp only at hl;have cs : w0.cell? ⟨sb, 0, none⟩ = some (.map (some mb)) := Blk.cell HH.out.blk 0;have hsb := HH.out.blk.lt;have hs := HH.out.each id p x HF.out HX.out;have hp := hs.blk.lt;have hq := HQ.out.lt;have c0 := Blk.cell HQ.out 0;have c1 := Blk.cell HQ.out 1;have c4 := Blk.cell HQ.out 4;simp only [gT, gZ, gS] at c0 c1 c4;have c2 := Blk.cell HQ.out 2;simp only [gT, gZ, gS] at c2;have d0 : w0.cell? ⟨p, 0, none⟩ = some (.int .i64 id) := Blk.cell hs.blk 0;have d1 : w0.cell? ⟨p, 1, none⟩ = some (.int .i64 x.user) := Blk.cell hs.blk 1;have d2 : w0.cell? ⟨p, 2, none⟩ = some (.int .i64 x.created) := Blk.cell hs.blk 2;have d3 : w0.cell? ⟨p, 3, none⟩ = some (.int .i64 x.used) := Blk.cell hs.blk 3;have d4 : w0.cell? ⟨p, 4, none⟩ = some (sl id) := Blk.cell hs.blk 4;have hsh : ∃ s, sl id = s ∧ (s = .slice none 0 0 ∨ ∃ g n cap, s = .slice (some ⟨g, 0, none⟩) n cap) := by
  rcases hs.own.cases with ⟨ho, _⟩ | ⟨g, cap, cur, ho, _⟩
  ·exact ⟨_, ho, Or.inl rfl⟩
  ·exact ⟨_, ho, Or.inr ⟨g, _, cap, rfl⟩⟩
 clear hs;obtain ⟨s, he, hsh⟩ := hsh;rw [he] at d4;have HE : Hid (sl id = s) := he;clear he;rcases hsh with rfl | ⟨g, n, cap, rfl⟩
 ·go_region
  go_wp2_with fail
  go_region
  go_wp2_with fail;have HN1 : Hid (Blk (w0.alloc (.cells #[.int .i64 too, .int .i64 x.user, .int .i64 x.created, .int .i64 t, .slice none 0 0] 104)).drew.drew w0.heap.size #[.int .i64 too, .int .i64 x.user, .int .i64 x.created, .int .i64 t, .slice none 0 0] 104) := (Blk.new _ _ _).drew.drew;have HF1 : Hid (Fr (fun _ => False) w0 (w0.alloc (.cells #[.int .i64 too, .int .i64 x.user, .int .i64 x.created, .int .i64 t, .slice none 0 0] 104)).drew.drew) := ((Fr.refl _ w0).alloc _).drew.drew;generalize (w0.alloc (Obj.cells _ _ _)).drew.drew = w1 at *
  have hz1 := HF1.out.size;have c2' := (HF1.out.cell (p := ⟨w.heap.size, 2, none⟩) hq (fun h => h)).trans c2;have c1' := (HF1.out.cell (p := ⟨w.heap.size, 1, none⟩) hq (fun h => h)).trans c1;have cs' := (HF1.out.cell (p := ⟨sb, 0, none⟩) hsb (fun h => h)).trans cs;clear c0 c1 c2 c4 cs d0 d1 d2 d3 d4 hl;obtain ⟨w2, D2, hrun2, hm2, hturn2⟩ := ((HH.out.map.kept HF1.out (fun h => h)).kept ((Fr.refl (fun _ => False) w1).drew) (fun h => h)).store too w0.heap.size htoo
  go_region
  have hmb : sb ≠ mb := fun e => HH.out.map.noBlk (e ▸ HH.out.blk);have hmq : w.heap.size ≠ mb := fun e => HH.out.map.noBlk (e ▸ HQ.out);have ht2 : Fr (· = mb) w1 w2 := (Fr.refl (· = mb) w1).drew.trans (Fr.turned hturn2) (fun _ _ h => h);have hz2 := ht2.size;have c1 := (ht2.cell (p := ⟨w.heap.size, 1, none⟩) (by show w.heap.size < _; omega) hmq).trans c1';have cs := (ht2.cell (p := ⟨sb, 0, none⟩) (by show sb < _; omega) hmb).trans cs';have HT2 : Hid (Fr (· = mb) w1 w2) := ht2;have HM2 : Hid (MapIs w2 mb (f.set too (some w0.heap.size)) D2) := hm2;clear hrun2 hm2 hturn2 ht2 c1' c2' cs';go_wp2_with fail;obtain ⟨w3, D3, hrun3, hm3, hturn3⟩ := (HM2.out.kept ((Fr.refl (fun _ => False) w2).drew) (fun h => h)).drop id hid 0
  go_region
  go_wp2_with fail;go_end0;have ht3 : Fr (· = mb) w2 w3 := (Fr.refl (· = mb) w2).drew.trans (Fr.turned hturn3) (fun _ _ h => h);have fr3 : Fr (· = mb) w0 w3 := ((HF1.out.mono (S' := (· = mb)) (fun _ _ h => h.elim)).trans HT2.out (fun _ _ h => h)).trans ht3 (fun _ _ h => h);have hq0 : w0.heap.size ≠ mb := fun e => by
   have := HH.out.map.lt;omega
  have hq3 : Blk w3 w0.heap.size _ _ := (HN1.out.kept HT2.out hq0).kept ht3 hq0;rw [← HE.out] at hq3;exact moved HB.out HH.out HF.out HX.out hto hq3 hm3 fr3
 ·go_region
  go_wp2_with fail
  go_region
  go_wp2_with fail;have HN1 : Hid (Blk (w0.alloc (.cells #[.int .i64 too, .int .i64 x.user, .int .i64 x.created, .int .i64 t, .slice (some ⟨g, 0, none⟩) n cap] 104)).drew.drew w0.heap.size #[.int .i64 too, .int .i64 x.user, .int .i64 x.created, .int .i64 t, .slice (some ⟨g, 0, none⟩) n cap] 104) := (Blk.new _ _ _).drew.drew;have HF1 : Hid (Fr (fun _ => False) w0 (w0.alloc (.cells #[.int .i64 too, .int .i64 x.user, .int .i64 x.created, .int .i64 t, .slice (some ⟨g, 0, none⟩) n cap] 104)).drew.drew) := ((Fr.refl _ w0).alloc _).drew.drew;generalize (w0.alloc (Obj.cells _ _ _)).drew.drew = w1 at *
  have hz1 := HF1.out.size;have c2' := (HF1.out.cell (p := ⟨w.heap.size, 2, none⟩) hq (fun h => h)).trans c2;have c1' := (HF1.out.cell (p := ⟨w.heap.size, 1, none⟩) hq (fun h => h)).trans c1;have cs' := (HF1.out.cell (p := ⟨sb, 0, none⟩) hsb (fun h => h)).trans cs;clear c0 c1 c2 c4 cs d0 d1 d2 d3 d4 hl;obtain ⟨w2, D2, hrun2, hm2, hturn2⟩ := ((HH.out.map.kept HF1.out (fun h => h)).kept ((Fr.refl (fun _ => False) w1).drew) (fun h => h)).store too w0.heap.size htoo
  go_region
  have hmb : sb ≠ mb := fun e => HH.out.map.noBlk (e ▸ HH.out.blk);have hmq : w.heap.size ≠ mb := fun e => HH.out.map.noBlk (e ▸ HQ.out);have ht2 : Fr (· = mb) w1 w2 := (Fr.refl (· = mb) w1).drew.trans (Fr.turned hturn2) (fun _ _ h => h);have hz2 := ht2.size;have c1 := (ht2.cell (p := ⟨w.heap.size, 1, none⟩) (by show w.heap.size < _; omega) hmq).trans c1';have cs := (ht2.cell (p := ⟨sb, 0, none⟩) (by show sb < _; omega) hmb).trans cs';have HT2 : Hid (Fr (· = mb) w1 w2) := ht2;have HM2 : Hid (MapIs w2 mb (f.set too (some w0.heap.size)) D2) := hm2;clear hrun2 hm2 hturn2 ht2 c1' c2' cs';go_wp2_with fail;obtain ⟨w3, D3, hrun3, hm3, hturn3⟩ := (HM2.out.kept ((Fr.refl (fun _ => False) w2).drew) (fun h => h)).drop id hid 0
  go_region
  go_wp2_with fail;go_end0;have ht3 : Fr (· = mb) w2 w3 := (Fr.refl (· = mb) w2).drew.trans (Fr.turned hturn3) (fun _ _ h => h);have fr3 : Fr (· = mb) w0 w3 := ((HF1.out.mono (S' := (· = mb)) (fun _ _ h => h.elim)).trans HT2.out (fun _ _ h => h)).trans ht3 (fun _ _ h => h);have hq0 : w0.heap.size ≠ mb := fun e => by
   have := HH.out.map.lt;omega
  have hq3 : Blk w3 w0.heap.size _ _ := (HN1.out.kept HT2.out hq0).kept ht3 hq0;rw [← HE.out] at hq3;exact moved HB.out HH.out HF.out HX.out hto hq3 hm3 fr3
theorem do_L (sb : Nat) (T : Tab) (mb : Nat) (f : Fn) (D : DataW Unit) (sl : Nat → Value) (id u t : Nat) (w : World) (h : TabAt w sb T mb f D sl) (hid : id < 65536) (hx : T id = none) :
  Calls Tryz.prog 111 #[.pointer (some ⟨sb, 0, none⟩), chV 76 id 0 u t [] []] w (DoTo w sb (T.does (.L id u t)) mb f sl) := by
 have hf : f id = none := by
  have := h.dom id;rw [hx] at this;cases hh : f id with
  | none => rfl
  | some _ => rw [hh] at this; cases this
 obtain ⟨ht, hq, hbw⟩ := boxed h (chA 76 id 0 u t [] []) 101;unfold chA at ht hq hbw;have HH : Hid (TabAt _ sb T mb f D sl) := ht;have HQ : Hid (Blk _ _ _ _) := hq;have HB : Hid (Below _ _ _) := hbw;have HX : Hid (T id = none) := hx;have HF : Hid (f id = none) := hf;clear h ht hq hbw hx hf;unfold chV;go_enter Tryz.func111, Tryz.ntmps111;go_wp2_with fail;generalize w.alloc (Obj.cells _ _ _) = w0 at *
 have hl := (HH.out.map.kept ((Fr.refl (fun _ => False) w0).drew) (fun h => h)).look1 id hid;rw [HF.out] at hl;simp only at hl;have cs : w0.cell? ⟨sb, 0, none⟩ = some (.map (some mb)) := Blk.cell HH.out.blk 0;have hsb := HH.out.blk.lt;have hq := HQ.out.lt;have c0 := Blk.cell HQ.out 0;have c1 := Blk.cell HQ.out 1;have c3 := Blk.cell HQ.out 3;have c4 := Blk.cell HQ.out 4;simp only [gT, gZ, gS] at c0 c1 c3 c4
 go_region
 go_wp2_with fail;have HF1 : Hid (Fr (fun _ => False) w0 (w0.alloc (.cells #[.int .i64 id, .int .i64 u, .int .i64 t, .int .i64 t, .slice none 0 0] 104)).drew.drew) := ((Fr.refl _ w0).alloc _).drew.drew;have HN1 : Hid (Blk (w0.alloc (.cells #[.int .i64 id, .int .i64 u, .int .i64 t, .int .i64 t, .slice none 0 0] 104)).drew.drew w0.heap.size #[.int .i64 id, .int .i64 u, .int .i64 t, .int .i64 t, .slice none 0 0] 104) := (Blk.new _ _ _).drew.drew;obtain ⟨w2, D2, hrun2, hm2, hturn2⟩ := (HH.out.map.kept HF1.out (fun h => h)).store id w0.heap.size hid
 go_region
 go_wp2_with fail;go_end0;exact begun HB.out HH.out HX.out HF1.out HN1.out hm2 (Fr.turned hturn2)
theorem do_S (sb : Nat) (T : Tab) (mb : Nat) (f : Fn) (D : DataW Unit) (sl : Nat → Value) (id t : Nat) (nm v : Bs) (x : Sess) (w : World) (h : TabAt w sb T mb f D sl) (hid : id < 65536) (hx : T id = some x) (hr : rising x.vals) (hln : x.vals.length ≤ 900) (hnm : nm.length ≤ 100000) (hv : v.length ≤ 100000) :
  Calls Tryz.prog 111 #[.pointer (some ⟨sb, 0, none⟩), chV 83 id 0 0 t nm v] w (DoTo w sb (T.does (.S id nm v t)) mb f sl) := by
 have hd := h.dom id;rw [hx] at hd;obtain ⟨p, hf⟩ := Option.isSome_iff_exists.1 hd;obtain ⟨ht, hq, hbw⟩ := boxed h (chA 83 id 0 0 t nm v) 101;unfold chA at ht hq hbw;have HH : Hid (TabAt _ sb T mb f D sl) := ht;have HQ : Hid (Blk _ _ _ _) := hq;have HB : Hid (Below _ _ _) := hbw;have HX : Hid (T id = some x) := hx;have HF : Hid (f id = some p) := hf;have HL : Hid (∀ b, foot sb mb f sl b → b < w.heap.size) := h.lt;clear h ht hq hbw hx hf hd;unfold chV;go_enter Tryz.func111, Tryz.ntmps111;go_wp2_with fail;generalize w.alloc (Obj.cells _ _ _) = w0 at *
 have hl := (HH.out.map.kept ((Fr.refl (fun _ => False) w0).drew) (fun h => h)).look1 id hid;rw [HF.out] at hl;simp only at hl;have cs : w0.cell? ⟨sb, 0, none⟩ = some (.map (some mb)) := Blk.cell HH.out.blk 0;have hsb := HH.out.blk.lt;have hs := HH.out.each id p x HF.out HX.out;have hp := hs.blk.lt;have hq := HQ.out.lt;have c0 := Blk.cell HQ.out 0;have c1 := Blk.cell HQ.out 1;have c4 := Blk.cell HQ.out 4;simp only [gT, gZ, gS] at c0 c1 c4;have c5 := Blk.cell HQ.out 5;have c6 := Blk.cell HQ.out 6;simp only [gT, gZ, gS] at c5 c6;have HS : Hid (SAt w0.drew p id x (sl id)) := hs.kept ((Fr.refl (fun _ => False) w0).drew) (fun h => h) (fun _ _ h => h);clear hs;have HR : Hid (rising x.vals ∧ x.vals.length ≤ 900 ∧ nm.length ≤ 100000 ∧ v.length ≤ 100000) := ⟨hr, hln, hnm, hv⟩;clear hr hln hnm hv
 go_region
 go_wp2_with fail;refine (put_any p id x (sl id) nm v _ HS.out HR.out.1 HR.out.2.1 HR.out.2.2.1 HR.out.2.2.2).mono ?_;rintro e w1 ⟨rfl, s1, hs1, hf1, hn1⟩;have HS1 : Hid (SAt w1 p id { x with vals := setVal nm v x.vals } s1) := hs1;have HF1 : Hid (Fr (fun b => b = p ∨ (sl id).ownBlock = some b) w0 w1) := (Fr.refl _ w0).drew.trans hf1 (fun _ _ h => h);have HN1 : Hid (∀ b, s1.ownBlock = some b → (sl id).ownBlock = some b ∨ w0.heap.size ≤ b) := hn1;have hnq : ¬ (w.heap.size = p ∨ (sl id).ownBlock = some w.heap.size) := fun hh => by
  rcases hh with hh | hh
  ·have := HL.out p (Or.inr (Or.inr (Or.inl ⟨id, HF.out⟩)));omega
  ·have := HL.out _ (Or.inr (Or.inr (Or.inr ⟨id, by rw [HF.out]; rfl, hh⟩)));omega
 have c4' := (HF1.out.cell (p := ⟨w.heap.size, 4, none⟩) hq hnq).trans c4;have fp : w1.frozen? ⟨p, 3, none⟩ = false := Blk.frozen hs1.blk 3;have cp : w1.cell? ⟨p, 3, none⟩ = some (.int .i64 x.used) := Blk.cell hs1.blk 3;have hz1 := HF1.out.size;clear hs1 hf1 hn1 c0 c1 c4 c5 c6 cs hl hnq;go_wp2_with fail;go_end0;have hfr : Fr (fun b => b = p ∨ (sl id).ownBlock = some b) w0 (w1.setCell ⟨p, 3, none⟩ (.int .i64 t)) := HF1.out.setCell ⟨p, 3, none⟩ (fun _ => Or.inl rfl) _;have hb2 : Blk (w1.setCell ⟨p, 3, none⟩ (.int .i64 t)) p #[.int .i64 id, .int .i64 x.user, .int .i64 x.created, .int .i64 t, s1] 104 := by
  have := Blk.set HS1.out.blk 3 (.int .i64 t);simpa using this
 have hs2 : SAt (w1.setCell ⟨p, 3, none⟩ (.int .i64 t)) p id { x with vals := setVal nm v x.vals, used := t } s1 :=
  ⟨hb2, HS1.out.own.kept (((Fr.refl (fun b => b = p) w1).setCell ⟨p, 3, none⟩ (fun _ => rfl) _)) (fun b hb e => HS1.out.apart (e ▸ hb)), HS1.out.apart⟩
 have ht2 := HH.out.turn HF.out hs2 hfr HN1.out;have hid1 : (f id).isSome = true := by rw [HF.out]; rfl
 refine ⟨rfl, f, D, (fun j => if j = id then s1 else sl j), ?_, ?_, fun b hb => ?_⟩
 ·rw [show T.does (.S id nm v t) = T.set id (some { x with vals := setVal nm v x.vals, used := t }) by simp [Tab.does, HX.out]];exact ht2
 ·refine (Fr.of_below HB.out).trans hfr (fun b hb e => ?_);rcases e with rfl | e
  ·exact Or.inr (Or.inr (Or.inl ⟨id, HF.out⟩))
  ·exact Or.inr (Or.inr (Or.inr ⟨id, hid1, e⟩))
 ·rcases hb with e | e | ⟨i, hi⟩ | ⟨i, hi, ho⟩
  ·exact Or.inl (Or.inl e)
  ·exact Or.inl (Or.inr (Or.inl e))
  ·exact Or.inl (Or.inr (Or.inr (Or.inl ⟨i, hi⟩)))
  ·simp only at ho;by_cases e : i = id
   ·rw [if_pos e] at ho;rcases HN1.out b ho with hh | hh
    ·exact Or.inl (Or.inr (Or.inr (Or.inr ⟨id, hid1, hh⟩)))
    ·have := HB.out.size;exact Or.inr (by omega)
   ·rw [if_neg e] at ho;exact Or.inl (Or.inr (Or.inr (Or.inr ⟨i, hi, ho⟩)))
end Go.Proofs.YtmnajomkfnkmeaaGreatDoor
namespace Go.Proofs.YtmnajomkfnkmeaaGreatDoor
open Go.RowKit
attribute [local go_sem] ofL_size
theorem mine_any (k : Int) (p cb : Nat) (a u : Nat) (w : World) (_hp : p < w.heap.size) (_hc : cb < w.heap.size) (c1 : w.cell? ⟨p, 1, none⟩ = some (.int .i64 a)) (c3 : w.cell? ⟨cb, 3, none⟩ = some (.int .i64 u)) :
  Calls Tryz.prog 153 #[.int .i64 k, .pointer (some ⟨p, 0, none⟩), .pointer (some ⟨cb, 0, none⟩)] w fun e w' => e = .returned (.bool (decide (a = u))) ∧ w' = w.drew := by
 go_enter Tryz.func153, Tryz.ntmps153;go_wp2_with fail
 go_region
 go_wp2_with fail;go_ret;refine ⟨bool_end ?_, rfl⟩;rw [Bool.eq_iff_iff]; simp; omega
def minus (f : Fn) (T : Tab) (u : Nat) (left : Lit → Bool) : Fn := fun i => if userIs T u i && !left (kl i) then none else f i
theorem minus_keep (f : Fn) (T : Tab) (u i : Nat) (left : Lit → Bool) (h : userIs T u i = false) : minus f T u (fun z => left z && !z.sameKey (kl i)) = minus f T u left := by
 funext j
 unfold minus;simp only [same_kl];by_cases e : j = i
 ·subst e; rw [h]; rfl
 ·rw [decide_eq_false e]; simp
theorem minus_strike (f : Fn) (T : Tab) (u i : Nat) (left : Lit → Bool) (h : userIs T u i = true) : minus f T u (fun z => left z && !z.sameKey (kl i)) = (minus f T u left).set i none := by
 funext j
 unfold minus Fn.set;simp only [same_kl];by_cases e : j = i
 ·subst e; rw [h]; simp
 ·rw [decide_eq_false e, if_neg e]; simp
theorem minus_start (f : Fn) (T : Tab) (u : Nat) (left : Lit → Bool) (h : ∀ i, (f i).isSome = true → left (kl i) = true) : minus f T u left = f := by
 funext j
 unfold minus;split
 ·rename_i hc;rw [Bool.and_eq_true] at hc;cases hf : f j with
  | none => rfl
  | some p => have := h j (by rw [hf]; rfl); rw [this] at hc; simp at hc
 ·rfl
theorem minus_left {f : Fn} {T : Tab} {u : Nat} {left : Lit → Bool} {i p : Nat} (h : minus f T u left i = some p) : f i = some p := by
 unfold minus at h;split at h
 ·cases h
 ·exact h
theorem MapIs.struck {w w' : World} {mb n : Nat} {f : Fn} {D : DataW Unit} (h : MapIs w mb f D) (i : Nat) (hi : i < 65536) (hown : w'.ownsMap Tryz.prog 3 ptrR mb n (D.del (kl i))) : MapIs w' mb (f.set i none) (D.del (kl i)) := by
 have hsz : Maps.size (D.del (kl i)) = (f.set i none).card := by
  have h1 := Maps.size_del (k := kl i) (h.own.tidy law);have h2 := card_set f i none hi;rw [h.has_eq i, h.size] at h1;cases hfi : (f i).isSome <;> simp [hfi] at h1 h2 ⊢ <;> omega
 refine ⟨by rw [← hsz]; exact own_tight hown, fun k hk => ?_, fun j q hj => ?_, hsz⟩
 ·by_cases e : k = kl i
  ·rw [e, show Maps.has (D.del (kl i)) (kl i) = false from Maps.has_del_same] at hk; cases hk
  ·rw [Maps.has_del_other e] at hk;obtain ⟨j, q, hkj, hj⟩ := h.keys k hk;refine ⟨j, q, hkj, ?_⟩;unfold Fn.set;rw [if_neg (fun hh => e (by rw [hkj, hh]))]; exact hj
 ·unfold Fn.set at hj;split at hj
  ·cases hj
  ·rename_i e;obtain ⟨h1, h2, h3⟩ := h.vals j q hj;have hne : kl j ≠ kl i := fun hh => e (kl_inj hh);exact ⟨h1, by rw [Maps.has_del_other hne]; exact h2, fun z => by rw [Maps.atKey_del_other hne]; exact h3 z⟩
theorem wpL_nextN {w : World} {ops : Array Oper} {rest : List Oper} {o : Oper} {a : Act} {Q : Exit → Act → World → Prop} (hg : o.guard = none) (it : Operand) (hop : o.op = Op.next it false) (mb r n : Nat) (f : Fn) (D : DataW Unit) (left : Lit → Bool) (cnt : Nat)
  (hit : a.eval it = .pointer (some ⟨r, 0, none⟩)) (h : w.ranges Tryz.prog 3 ptrR mb r n D left cnt) (hk : ∀ k, Maps.has D k = true → ∃ i p, k = kl i ∧ f i = some p) (hv : ∀ i p, f i = some p → ∀ z, D.atKey (kl i) z = .lit (.int .i64 p))
  (hDone : cnt = 0 → (∀ k, left k = false) → wpList Tryz.prog ops Q rest (a.put o.dst (.tuple #[.bool false])) w)
  (hMore : ∀ (i p : Nat) (w' : World) (cnt' : Nat), f i = some p → left (kl i) = true → w'.ranges Tryz.prog 3 ptrR mb r n D (fun z => left z && !z.sameKey (kl i)) cnt' → cnt' < cnt → Fr (· = r) w w' → w'.heap.size = w.heap.size →
   (Instr.entry (.pointer (some ⟨r, 0, none⟩))).run Tryz.prog w' = .ok (.tuple #[.int .i64 i, .pointer (some ⟨p, 0, none⟩)]) w' → wpList Tryz.prog ops Q rest (a.put o.dst (.tuple #[.bool true, .int .i64 i, .pointer (some ⟨p, 0, none⟩)])) w') :
  wpList Tryz.prog ops Q (o :: rest) a w := by
 refine wpList_next_ranges w hg it hop 3 law ptrR (Value.int .i64) Value.pointer (fun key k hkey => by obtain ⟨x, rfl, _⟩ := Maps.keyOf_int_inv Tryz.underlying3 hkey; exact ⟨x, rfl⟩) (fun v y hy => ptrR_ptr hy) mb r n D left cnt hit h hDone ?_;intro x c k y w' cnt' hkey hlk hR hat hrg hlt hgr hsz hen;obtain ⟨x', ex, rfl, _⟩ := Maps.keyOf_int_inv Tryz.underlying3 hkey;cases ex;obtain ⟨i, p, hki, hfi⟩ := hk _ (Maps.has_true_of_atKey hat);have hx : x = (i : Int) := by simpa [kl] using hki
 subst hx;have hy : y.1 = .lit (.int .i64 p) := (hat .nil).symm.trans (hv i p hfi .nil);obtain ⟨y1, y2⟩ := y;simp only at hy;subst hy;have hc : (Value.pointer c) = .pointer (some ⟨p, 0, none⟩) := ptrR_inv hR;simp only [Value.pointer.injEq] at hc;subst hc;exact hMore i p w' cnt' hfi hlk hrg hlt (Fr.grown1 hgr) hsz hen
theorem strike_any (sb : Nat) (T : Tab) (mb : Nat) (f : Fn) (D : DataW Unit) (sl : Nat → Value) (u cb : Nat) (w : World) (h : TabAt w sb T mb f D sl) (hcb : cb < w.heap.size) (hcm : cb ≠ mb) (hc3 : w.cell? ⟨cb, 3, none⟩ = some (.int .i64 u)) :
  Calls Tryz.prog 152 #[.map (some mb), .func (Fn.func 153) #[] #[.pointer (some ⟨cb, 0, none⟩)]] w
   fun e w' => e = .returned (.tuple #[]) ∧ Fr (· = mb) w w' ∧ ∃ D', MapIs w' mb (minus f T u (fun _ => false)) D' := by
 have HH : Hid (TabAt w sb T mb f D sl) := h;have HC : Hid (w.cell? ⟨cb, 3, none⟩ = some (.int .i64 u)) := hc3;have HM0 : Hid (MapIs w mb (minus f T u (Maps.has D)) D) := by
  rw [show minus f T u (Maps.has D) = f from minus_start f T u _ (fun i hi => by rw [h.map.has_eq i]; exact hi)];exact h.map
 clear h hc3;go_enter Tryz.func152, Tryz.ntmps152;go_wp2_with (at_range; refine wpList_range_own _ rfl _ 156 rfl 3 171 law Tryz.underlying156 ptrR mb f.card D rfl HH.out.map.own ?_; intro w0 hrg0 hg0 hs0);go_frame;have HM1 : Hid (MapIs w0 mb (minus f T u (Maps.has D)) D) := HM0.out.kept (Fr.grown0 hg0) (fun h => h)
 go_loopw [4] (fun _ wx => ∃ (left : Lit → Bool) (cnt : Nat) (D' : DataW Unit), Hid (wx.ranges Tryz.prog 3 ptrR mb w.heap.size f.card D' left cnt) ∧ Hid (MapIs wx mb (minus f T u left) D') ∧ Hid (Fr (· = mb) w wx)) (fun _ wx => wx.rangeLeft mb w.heap.size)
 case atStart => exact ⟨Maps.has D, _, D, hrg0, HM1.out, (Fr.grown0 hg0).mono (fun _ _ h => h.elim)⟩
 case round =>
  obtain ⟨left, cnt, D1, HG, HM, HF⟩ := hrel;go_wp2_with (
   at_next
   refine wpL_nextN rfl _ rfl mb w.heap.size f.card (minus f T u left) D1 left cnt rfl HG.out HM.out.keys (fun i p h => (HM.out.vals i p h).2.2) ?done ?more
   case' done => intro hc hl
   case' more => (
    intro i p w1 cnt1 hf hlk hrg1 hlt hgr hsz hen
    have hf2 := minus_left hf
    obtain ⟨x, hx, hs⟩ := HH.out.sess hf2
    have hp := hs.blk.lt
    have hpm : p ≠ mb := fun e => HH.out.map.noBlk (e ▸ hs.blk)
    have hz := HF.out.size
    have c1 : w1.cell? ⟨p, 1, none⟩ = some (.int .i64 x.user) := Blk.cell ((hs.blk.kept HF.out hpm).kept hgr (by omega)) 1
    have c3 : w1.cell? ⟨cb, 3, none⟩ = some (.int .i64 u) := (hgr.cell (p := ⟨cb, 3, none⟩) (by show cb < _; omega) (by show ¬ cb = _; omega)).trans ((HF.out.cell (p := ⟨cb, 3, none⟩) hcb hcm).trans HC.out)
    have HG1 : Hid (w1.drew.ranges Tryz.prog 3 ptrR mb w.heap.size f.card D1 (fun z => left z && !z.sameKey (kl i)) cnt1) := hrg1
    clear hrg1
    have HM1' : Hid (MapIs w1 mb (minus f T u left) D1) := HM.out.kept hgr (fun e => by have := HH.out.map.lt; omega)
    have HF1 : Hid (Fr (· = mb) w w1) := HF.out.trans hgr (fun k hk e => by omega)))
  ·refine (mine_any _ p cb x.user u w1 (by omega) (by omega) c1 c3).mono ?_;rintro e w2 ⟨rfl, rfl⟩;clear hen c1 c3;by_cases hu : x.user = u
   ·rw [decide_eq_true hu];have hI : userIs T u i = true := by simp [userIs, hx, hu]
    go_wp2_with (
     at_delete
     refine wpList_delete_ranges _ rfl _ _ 156 3 rfl 171 law Tryz.underlying156 ptrR mb w.heap.size f.card D1 _ cnt1 rfl HG1.out (.int .i64 i) (kl i) rfl (key_mk i (HM1'.out.vals i p hf).1) ?_
     intro w3 cnt3 hrg3 hle3 hturn3
     go_frame)
    have hd : Fr (· = mb) w1 w3 := (Fr.refl (· = mb) w1).drew.trans (Fr.turned hturn3) (fun _ _ h => h);rw [Maps.strike_twice] at hrg3;have hm3 := HM1'.out.struck (w' := w3) i (HM1'.out.vals i p hf).1 hrg3.owns;refine ⟨⟨fun z => left z && !z.sameKey (kl i), cnt3, D1.del (kl i), hrg3, ?_, HF1.out.trans hd (fun _ _ h => h)⟩, ?_⟩
    ·rw [minus_strike f T u i left hI]; exact hm3
    ·rw [World.ranges.left_eq hrg3, World.ranges.left_eq HG.out]; omega
   ·rw [decide_eq_false hu];have hI : userIs T u i = false := by simp [userIs, hx, hu]
    go_wp2_with fail;refine ⟨⟨fun z => left z && !z.sameKey (kl i), cnt1, D1, HG1.out, ?_, HF1.out.drew⟩, ?_⟩
    ·rw [minus_keep f T u i left hI]; exact HM1'.out.kept ((Fr.refl (fun _ => False) w1).drew) (fun h => h)
    ·rw [World.ranges.left_eq HG1.out, World.ranges.left_eq HG.out]; exact hlt
  ·go_end0;refine ⟨rfl, HF.out, D1, ?_⟩;rw [show (fun _ : Lit => false) = left from funext fun k => (hl k).symm];exact HM.out
theorem do_U (sb : Nat) (T : Tab) (mb : Nat) (f : Fn) (D : DataW Unit) (sl : Nat → Value) (u t : Nat) (w : World) (h : TabAt w sb T mb f D sl) :
  Calls Tryz.prog 111 #[.pointer (some ⟨sb, 0, none⟩), chV 85 0 0 u t [] []] w (DoTo w sb (T.does (.U u)) mb f sl) := by
 obtain ⟨ht, hq, hbw⟩ := boxed h (chA 85 0 0 u t [] []) 101;unfold chA at ht hq hbw;have HH : Hid (TabAt _ sb T mb f D sl) := ht;have HQ : Hid (Blk _ _ _ _) := hq;have HB : Hid (Below _ _ _) := hbw;clear h ht hq hbw;unfold chV;go_enter Tryz.func111, Tryz.ntmps111;go_wp2_with fail;generalize w.alloc (Obj.cells _ _ _) = w0 at *
 have hl : ∃ v, (Instr.lookup 156 (.map (some mb)) (.int .i64 0) false).run Tryz.prog w0.drew = .ok (.pointer v) w0.drew := by
  have := (HH.out.map.kept ((Fr.refl (fun _ => False) w0).drew) (fun h => h)).look1 0 (by decide);cases hf : f 0 with
  | none => rw [hf] at this; exact ⟨_, this⟩
  | some p => rw [hf] at this; exact ⟨_, this⟩
 obtain ⟨lv, hl⟩ := hl;have cs : w0.cell? ⟨sb, 0, none⟩ = some (.map (some mb)) := Blk.cell HH.out.blk 0;have hsb := HH.out.blk.lt;have hq := HQ.out.lt;have c0 := Blk.cell HQ.out 0;have c1 := Blk.cell HQ.out 1;have c3 := Blk.cell HQ.out 3;simp only [gT, gZ, gS] at c0 c1 c3;have hmq : w.heap.size ≠ mb := fun e => HH.out.map.noBlk (e ▸ HQ.out)
 go_region
 go_wp2_with fail;refine (strike_any sb T mb f D sl u w.heap.size w0.drew (HH.out.kept ((Fr.refl (fun _ => False) w0).drew) (fun _ _ h => h)) hq hmq c3).mono ?_;rintro e w2 ⟨rfl, hf2, D2, hm2⟩;have HF2 : Hid (Fr (· = mb) w0 w2) := (Fr.refl (· = mb) w0).drew.trans hf2 (fun _ _ h => h);have HM2 : Hid (MapIs w2 mb (minus f T u (fun _ => false)) D2) := hm2;clear hf2 hm2 hl c0 c1 c3 cs;go_wp2_with fail;go_end0;have hm : ∀ i, minus f T u (fun _ => false) i = f i ∨ minus f T u (fun _ => false) i = none := fun i => by
  unfold minus;split
  ·exact Or.inr rfl
  ·exact Or.inl rfl
 refine ⟨rfl, minus f T u (fun _ => false), D2, sl, HH.out.sub HM2.out HF2.out (fun i => ?_), (Fr.of_below HB.out).trans HF2.out (fun b hb e => Or.inr (Or.inl e)), fun b hb => Or.inl (foot_sub hm b hb)⟩;have hd := HH.out.dom i;unfold minus;show _ ∨ _ ∧ (match T i with | some x => if x.user = u then none else some x | none => none) = none;rw [show (T.does (.U u)) i = (match T i with | some x => if x.user = u then none else some x | none => none) from rfl];unfold userIs;cases hT : T i with
 | none => simp
 | some x =>
  by_cases hu : x.user = u
  ·simp [hu]
  ·simp [hu]
theorem do_any (sb : Nat) (T : Tab) (mb : Nat) (f : Fn) (D : DataW Unit) (sl : Nat → Value) (c : Chg) (w : World) (h : TabAt w sb T mb f D sl) (hT : T.wf) (hc : c.ok) (ha : T.allows c = true) :
  Calls Tryz.prog 111 #[.pointer (some ⟨sb, 0, none⟩), chgV c] w (DoTo w sb (T.does c) mb f sl) := by
 have some_of : ∀ {o : Option Sess}, o.isSome = true → ∃ x, o = some x := fun {o} h => Option.isSome_iff_exists.1 h;cases c with
 | L id u t =>
  simp only [Tab.allows, Bool.and_eq_true, Option.isNone_iff_eq_none] at ha;exact do_L sb T mb f D sl id u t w h (by have := hc.1; omega) ha.1
 | T id t =>
  obtain ⟨x, hx⟩ := some_of ha;exact do_T sb T mb f D sl id t x w h (by have := hc.1; omega) hx
 | X id =>
  obtain ⟨x, hx⟩ := some_of ha;exact do_X sb T mb f D sl id 0 x w h (by have : id < 4096 := hc; omega) hx
 | R id too t =>
  simp only [Tab.allows, Bool.and_eq_true, Option.isNone_iff_eq_none] at ha;obtain ⟨x, hx⟩ := some_of ha.1;exact do_R sb T mb f D sl id too t x w h (by have := hc.1; omega) hx (by have := hc.2.1; omega) ha.2
 | S id n v t =>
  cases hx : T id with
  | none => simp [Tab.allows, hx] at ha
  | some x =>
   have hw := (hT.each id x hx).2;have h1 := hc.2.2.1;have h2 := hc.2.2.2.1;have h3 := hw.few;exact do_S sb T mb f D sl id t n v x w h (by have := hc.1; omega) hx hw.rise (by omega) (by omega) (by omega)
 | U u => exact do_U sb T mb f D sl u 0 w h
def chgW (t : Nat) : Chg → Value
 | .X id => chV 88 id 0 0 t [] []
 | .U u => chV 85 0 0 u t [] []
 | c => chgV c
theorem do_at (sb : Nat) (T : Tab) (mb : Nat) (f : Fn) (D : DataW Unit) (sl : Nat → Value) (c : Chg) (t : Nat) (w : World) (h : TabAt w sb T mb f D sl) (hT : T.wf) (hc : c.ok) (ha : T.allows c = true) :
  Calls Tryz.prog 111 #[.pointer (some ⟨sb, 0, none⟩), chgW t c] w (DoTo w sb (T.does c) mb f sl) := by
 cases c with
 | X id =>
  obtain ⟨x, hx⟩ := Option.isSome_iff_exists.1 ha;exact do_X sb T mb f D sl id t x w h (by have : id < 4096 := hc; omega) hx
 | U u => exact do_U sb T mb f D sl u t w h
 | L id u t => exact do_any sb T mb f D sl (.L id u t) w h hT hc ha
 | T id t => exact do_any sb T mb f D sl (.T id t) w h hT hc ha
 | R id too t => exact do_any sb T mb f D sl (.R id too t) w h hT hc ha
 | S id n v t => exact do_any sb T mb f D sl (.S id n v t) w h hT hc ha
end Go.Proofs.YtmnajomkfnkmeaaGreatDoor
namespace Go.Proofs.YtmnajomkfnkmeaaGreatDoor
open Go.RowKit
attribute [local go_sem] ofL_size nA_size
theorem nA_ofL (w : Nat) (n : Int) : nA w n = ofL (nB w n) := rfl
theorem counted_any (s : Bs) (w : World) (h : s.length < 256) :
  Calls Tryz.prog 178 #[.string (ofL s)] w fun e w' => e = .returned (.string (ofL (tB s))) ∧ Below w.heap.size w w' := by
 have HT : Hid (nA 1 s.length ++ ofL s = ofL (tB s)) := by
  show nA 1 s.length ++ ofL s = ofL (tB s);rw [nA_ofL, ← ofL_append]; rfl
 go_enter Tryz.func178, Tryz.ntmps178;go_wp2_with fail;refine (One_any _ _ (by omega) (by omega)).mono ?_;rintro e w1 ⟨rfl, hb1⟩;go_wp2_with fail;go_ret;exact ⟨congrArg (fun x => Ending.returned (.string x)) HT.out, hb1⟩
theorem str_end {a : ByteArray} {l : Bs} (h : toL a = l) : Ending.returned (.string a) = .returned (.string (ofL l)) := by
 rw [← h]; rfl
theorem tB_len (s : Bs) : (tB s).length = s.length + 1 := by simp [tB, nB]
attribute [local go_sem] tB_len
def payOf (k id too u t : Nat) (n v out : Bs) : Prop :=
 (k = 76 ∧ out = 76 :: (nB 2 id ++ nB 1 u ++ nB 4 t)) ∨ (k = 84 ∧ out = 84 :: (nB 2 id ++ nB 4 t)) ∨ (k = 82 ∧ out = 82 :: (nB 2 id ++ nB 2 too ++ nB 4 t)) ∨
 (k = 83 ∧ out = 83 :: (nB 2 id ++ tB n ++ tB v ++ nB 4 t)) ∨ (k = 88 ∧ out = 88 :: nB 2 id) ∨ (k = 85 ∧ out = 85 :: nB 1 u)
theorem stepP {w0 w1 w2 : World} {b i j : Nat} {u v : Value} (h : w1.cell? ⟨b, i, none⟩ = some u ∧ w1.cell? ⟨b, j, none⟩ = some v ∧ b < w1.heap.size ∧ Below w0.heap.size w0 w1) (hb : Below w1.heap.size w1 w2) :
  w2.cell? ⟨b, i, none⟩ = some u ∧ w2.cell? ⟨b, j, none⟩ = some v ∧ b < w2.heap.size ∧ Below w0.heap.size w0 w2 :=
 ⟨(hb.cell (p := ⟨b, i, none⟩) h.2.2.1).trans h.1, (hb.cell (p := ⟨b, j, none⟩) h.2.2.1).trans h.2.1, Nat.lt_of_lt_of_le h.2.2.1 hb.size, h.2.2.2.trans (hb.mono h.2.2.2.size)⟩
theorem pay_gen (k id too u t : Nat) (n v out : Bs) (w : World) (hk : k < 256) (hid : id < 65536) (htoo : too < 65536) (hu : u < 256) (ht : t < 4294967296) (hn : n.length < 256) (hv : v.length < 256) (ho : payOf k id too u t n v out) :
  Calls Tryz.prog 150 #[chV k id too u t n v] w fun e w' => e = .returned (.string (ofL out)) ∧ Below w.heap.size w w' := by
 have hq : Blk (w.alloc (.cells (chA k id too u t n v) 101)) w.heap.size (chA k id too u t n v) 101 := Blk.new _ _ _;have hb : Below w.heap.size w (w.alloc (.cells (chA k id too u t n v) 101)) := bA;unfold chA at hq hb;have HQ : Hid (Blk _ _ _ _) := hq;have HB : Hid (Below _ _ _) := hb;have HO : Hid (payOf k id too u t n v out) := ho;have HT : Hid (t < 4294967296) := ht;clear hq hb ho ht;unfold chV;go_enter Tryz.func150, Tryz.ntmps150;go_wp2_with fail;generalize w.alloc (Obj.cells _ _ _) = w0 at *
 have hq : w.heap.size < w0.heap.size := HQ.out.lt;have c0 := Blk.cell HQ.out 0;have c1 := Blk.cell HQ.out 1;simp only [gT, gZ, gS] at c0 c1;have w16 : IntKind.u16.wrap (id : Int) = id := by simp [IntKind.wrap, IntKind.signed, IntKind.bits]; omega
 have ht2 := HT.out;have w32 : IntKind.u32.wrap (t : Int) = t := IntWalk.u32_in _ (by omega);have w8 : IntKind.u8.wrap (u : Int) = u := IntWalk.u8_in _ (by omega);clear ht2
 go_region_held3 (fun w' => w'.cell? ⟨w.heap.size, 0, none⟩ = some (.int .u8 k) ∧ w'.cell? ⟨w.heap.size, 1, none⟩ = some (.int .i64 id) ∧ w.heap.size < w'.heap.size ∧ Below w0.heap.size w0 w')
  (first
   | exact stepP (by assumption) (by assumption)
   | exact ⟨c0, c1, hq, (Below.refl _ _).drew⟩)
  (first
   | (go_at_call 147; refine (One_any k _ (by omega) (by omega)).mono ?_; rintro e w' ⟨rfl, hbN⟩)
   | (go_at_call 149; refine (Two_any id _ (by omega) (by omega)).mono ?_; rintro e w' ⟨rfl, hbN⟩))
 rename_i hHeld;have hb1 : Below w0.heap.size w0 w' := hHeld.2.2.2;clear hHeld hbN c0 c1;clear hbN;have HQ1 : Hid (Blk w' w.heap.size _ _) := HQ.out.below hb1;have HB1 : Hid (Below w.heap.size w w') := HB.out.trans (hb1.mono HB.out.size);clear hb1 HQ HB hq;generalize w' = w1 at *
 have hq : w.heap.size < w1.heap.size := HQ1.out.lt;have c3 := Blk.cell HQ1.out 3;have c4 := Blk.cell HQ1.out 4;simp only [gT, gZ, gS] at c3 c4;have HT2 : Hid ((t : Int) < 4294967296) := by have := HT.out; show (t : Int) < 4294967296; omega
 go_wp2_with fail
 go_region_held3 (fun w' => w'.cell? ⟨w.heap.size, 3, none⟩ = some (.int .i64 u) ∧ w'.cell? ⟨w.heap.size, 4, none⟩ = some (.int .i64 t) ∧ w.heap.size < w'.heap.size ∧ Below w1.heap.size w1 w')
  (first
   | exact stepP (by assumption) (by assumption)
   | exact ⟨c3, c4, hq, (Below.refl _ _).drew⟩)
  (first
   | (go_at_call 147; refine (One_any u _ (by omega) (by omega)).mono ?_; rintro e w' ⟨rfl, hbN⟩)
   | (go_at_call 146; refine (Four_any t _ (by omega) HT2.out).mono ?_; rintro e w' ⟨rfl, hbN⟩))
 rename_i hHeld;have hb1 : Below w1.heap.size w1 w' := hHeld.2.2.2;clear hHeld hbN c3 c4;clear hbN;have HQ2 : Hid (Blk w' w.heap.size _ _) := HQ1.out.below hb1;have HB2 : Hid (Below w.heap.size w w') := HB1.out.trans (hb1.mono HB1.out.size);clear hb1 HQ1 HB1 hq;generalize w' = w2 at *
 have hq : w.heap.size < w2.heap.size := HQ2.out.lt;have c0 := Blk.cell HQ2.out 0;simp only [List.getElem?_toArray, List.getElem?_cons_zero] at c0;have ho := HO.out;clear HO;rcases ho with ⟨rfl, rfl⟩ | ⟨rfl, rfl⟩ | ⟨rfl, rfl⟩ | ⟨rfl, rfl⟩ | ⟨rfl, rfl⟩ | ⟨rfl, rfl⟩
 ·clear w16 w32 w8 HT2;go_wp2_with fail;go_ret;exact ⟨str_end (by simp only [toL_append, toL_nA, List.append_assoc]; rfl), HB2.out⟩
 ·clear w16 w32 w8 HT2;go_wp2_with fail;go_ret;exact ⟨str_end (by simp only [toL_append, toL_nA, List.append_assoc]; rfl), HB2.out⟩
 ·have c2 := Blk.cell HQ2.out 2;simp only [gT, gZ, gS] at c2;have w16b : IntKind.u16.wrap (too : Int) = too := IntWalk.u16_in _ (by omega);clear w16 w32 w8 HT2;go_wp2_with fail;refine (Two_any too _ (by omega) (by omega)).mono ?_;rintro e w3 ⟨rfl, hb3⟩;go_wp2_with fail;go_ret;exact ⟨str_end (by simp only [toL_append, toL_nA, List.append_assoc]; rfl), HB2.out.trans (hb3.mono HB2.out.size)⟩
 ·have c5 := Blk.cell HQ2.out 5;have c6 := Blk.cell HQ2.out 6;simp only [gT, gZ, gS] at c5 c6;clear w16 w32 w8 HT2;go_wp2_with fail
  go_region_with (first
   | (go_at_call_of 178 (Value.string (ofL n)); refine (counted_any n _ hn).mono ?_; rintro e wa ⟨rfl, ha⟩; have d6 : wa.cell? ⟨w.heap.size, 6, none⟩ = some (.string (ofL v)) := by first | exact ((bcell (W := w2.drew) ha).1 w.heap.size 6 hq).trans c6 | exact ((bcell ha).1 w.heap.size 6 (Nat.lt_of_lt_of_le hq hb.size)).trans (((bcell (W := w2.drew) hb).1 w.heap.size 6 hq).trans c6))
   | (go_at_call_of 178 (Value.string (ofL v)); refine (counted_any v _ hv).mono ?_; rintro e wb ⟨rfl, hb⟩; have d5 : wb.cell? ⟨w.heap.size, 5, none⟩ = some (.string (ofL n)) := by first | exact ((bcell (W := w2.drew) hb).1 w.heap.size 5 hq).trans c5 | exact ((bcell hb).1 w.heap.size 5 (Nat.lt_of_lt_of_le hq ha.size)).trans (((bcell (W := w2.drew) ha).1 w.heap.size 5 hq).trans c5)))
  all_goals
   go_wp2_with fail;go_ret;refine ⟨str_end (by simp only [toL_append, toL_nA, toL_ofL, List.append_assoc]; rfl), ?_⟩
   first
    | exact HB2.out.trans ((((Below.refl _ w2).drew.trans ha).trans (hb.mono ha.size)).mono HB2.out.size)
    | exact HB2.out.trans ((((Below.refl _ w2).drew.trans hb).trans (ha.mono hb.size)).mono HB2.out.size)
 ·clear w16 w32 w8 HT2;go_wp2_with fail;go_ret;exact ⟨str_end (by simp only [toL_append, toL_nA]; rfl), HB2.out⟩
 ·clear w16 w32 w8 HT2;go_wp2_with fail;go_ret;exact ⟨str_end (by simp only [toL_append, toL_nA]; rfl), HB2.out⟩
theorem pay_any (c : Chg) (hc : c.ok) (w : World) :
  Calls Tryz.prog 150 #[chgV c] w fun e w' => e = .returned (.string (ofL (chgB c))) ∧ Below w.heap.size w w' := by
 have hm : maxT = 1000000000 := rfl;cases c with
 | L id u t =>
  have h1 := hc.1; have h2 := hc.2.2.1; have h3 := hc.2.2.2;exact pay_gen 76 id 0 u t [] [] _ w (by decide) (by omega) (by decide) (by omega) (by omega) (by decide) (by decide) (Or.inl ⟨rfl, rfl⟩)
 | T id t =>
  have h1 := hc.1; have h3 := hc.2;exact pay_gen 84 id 0 0 t [] [] _ w (by decide) (by omega) (by decide) (by decide) (by omega) (by decide) (by decide) (Or.inr (Or.inl ⟨rfl, rfl⟩))
 | R id too t =>
  have h1 := hc.1; have h2 := hc.2.1; have h3 := hc.2.2;exact pay_gen 82 id too 0 t [] [] _ w (by decide) (by omega) (by omega) (by decide) (by omega) (by decide) (by decide) (Or.inr (Or.inr (Or.inl ⟨rfl, rfl⟩)))
 | S id n v t =>
  have h1 := hc.1; have h2 := hc.2.2.1; have h3 := hc.2.2.2.1; have h4 := hc.2.2.2.2;exact pay_gen 83 id 0 0 t n v _ w (by decide) (by omega) (by decide) (by decide) (by omega) (by omega) (by omega) (Or.inr (Or.inr (Or.inr (Or.inl ⟨rfl, rfl⟩))))
 | X id =>
  have h1 : id < 4096 := hc;exact pay_gen 88 id 0 0 0 [] [] _ w (by decide) (by omega) (by decide) (by decide) (by decide) (by decide) (by decide) (Or.inr (Or.inr (Or.inr (Or.inr (Or.inl ⟨rfl, rfl⟩)))))
 | U u =>
  have h2 := hc.2;exact pay_gen 85 0 0 u 0 [] [] _ w (by decide) (by decide) (by decide) (by omega) (by decide) (by decide) (by decide) (Or.inr (Or.inr (Or.inr (Or.inr (Or.inr ⟨rfl, rfl⟩)))))
theorem pay_at (c : Chg) (t : Nat) (ht : t ≤ maxT) (hc : c.ok) (w : World) :
  Calls Tryz.prog 150 #[chgW t c] w fun e w' => e = .returned (.string (ofL (chgB c))) ∧ Below w.heap.size w w' := by
 have hm : maxT = 1000000000 := rfl;cases c with
 | X id =>
  have h1 : id < 4096 := hc;exact pay_gen 88 id 0 0 t [] [] _ w (by decide) (by omega) (by decide) (by decide) (by omega) (by decide) (by decide) (Or.inr (Or.inr (Or.inr (Or.inr (Or.inl ⟨rfl, rfl⟩)))))
 | U u =>
  have h2 := hc.2;exact pay_gen 85 0 0 u t [] [] _ w (by decide) (by decide) (by decide) (by omega) (by omega) (by decide) (by decide) (Or.inr (Or.inr (Or.inr (Or.inr (Or.inr ⟨rfl, rfl⟩)))))
 | L id u t => exact pay_any (.L id u t) hc w
 | T id t => exact pay_any (.T id t) hc w
 | R id too t => exact pay_any (.R id too t) hc w
 | S id n v t => exact pay_any (.S id n v t) hc w
end Go.Proofs.YtmnajomkfnkmeaaGreatDoor
namespace Go.Proofs.YtmnajomkfnkmeaaGreatDoor
open Go.RowKit
theorem isOver_any (id : Int) (x : Sess) (s : Value) (now idle abs : Nat) (w : World) (h0 : x.used ≤ 1000000000) (h1 : x.created ≤ 1000000000) (h2 : now ≤ 1000000000) (hs : s = .slice none 0 0 ∨ ∃ g n cap, s = .slice (some ⟨g, 0, none⟩) n cap) :
  Calls Tryz.prog 115 #[.agg #[.int .i64 id, .int .i64 x.user, .int .i64 x.created, .int .i64 x.used, s], .int .i64 now, .int .i64 idle, .int .i64 abs] w
   fun e w' => e = .returned (.bool (decide ((idle : Int) ≤ (now : Int) - x.used) || decide ((abs : Int) ≤ (now : Int) - x.created))) ∧ Below w.heap.size w w' := by
 rcases hs with rfl | ⟨g, n, cap, rfl⟩
 all_goals
  go_enter Tryz.func115, Tryz.ntmps115;go_wp2_with fail
  all_goals
   go_ret;exact ⟨bool_end (by first | rfl | (simp_all; done) | (rename_i hh; rw [hh]; simp)), bA⟩
end Go.Proofs.YtmnajomkfnkmeaaGreatDoor
