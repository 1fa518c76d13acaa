import Derived.Test.YtmnajomkfnkmeaaGreatDoorRdr
set_option maxHeartbeats 1000000
namespace Go.Proofs.YtmnajomkfnkmeaaGreatDoor
open Go.RowKit
open Op (bytesLess)
attribute [local go_sem] ofL_size
theorem cmp_lt (a b : Bs) : (Lib.compareBytes a b < 0) ↔ bytesLess a b = true := by
 induction a generalizing b with
 | nil => cases b <;> simp [Lib.compareBytes, bytesLess]
 | cons x a ih =>
  cases b with
  | nil => simp [Lib.compareBytes, bytesLess]
  | cons y b =>
   simp only [Lib.compareBytes, bytesLess, Bool.or_eq_true, decide_eq_true_eq, Bool.and_eq_true, beq_iff_eq];by_cases h : x < y
   ·simp [h]
   ·rw [if_neg h];by_cases k : y < x
    ·rw [if_pos k];have : x ≠ y := fun e => by subst e; exact UInt8.lt_irrefl _ k
     simp [h, this]
    ·rw [if_neg k];have : x = y := UInt8.le_antisymm (UInt8.not_lt.1 k) (UInt8.not_lt.1 h);subst this;rw [ih]; simp [h]
theorem cmp_eq0 (a b : Bs) : (Lib.compareBytes a b = 0) ↔ a = b := by
 induction a generalizing b with
 | nil => cases b <;> simp [Lib.compareBytes]
 | cons x a ih =>
  cases b with
  | nil => simp [Lib.compareBytes]
  | cons y b =>
   simp only [Lib.compareBytes];by_cases h : x < y
   ·rw [if_pos h];have : x ≠ y := fun e => by subst e; exact UInt8.lt_irrefl _ h
    simp [this]
   ·rw [if_neg h];by_cases k : y < x
    ·rw [if_pos k];have : x ≠ y := fun e => by subst e; exact UInt8.lt_irrefl _ k
     simp [this]
    ·rw [if_neg k];have : x = y := UInt8.le_antisymm (UInt8.not_lt.1 k) (UInt8.not_lt.1 h);subst this;rw [ih]; simp
theorem cmp_any (a b c : ByteArray) (w : World) :
  Calls Tryz.prog 156 #[.agg #[.string a, .string b], .string c] w fun e w' => e = .returned (.int .i64 (Lib.compareBytes (toL a) (toL c))) ∧ Below w.heap.size w w' := by
 go_enter Tryz.func156, Tryz.ntmps156;go_wp2_with fail;refine (Tryz.strings_Compare a c _).mono ?_;rintro e w1 ⟨rfl, rfl⟩;go_wp2_with fail;go_ret;exact ⟨rfl, bA⟩
def posOf (n : Bs) : List (Bs × Bs) → Nat
 | [] => 0
 | (m, _) :: r => if bytesLess m n then posOf n r + 1 else 0
theorem posOf_le (n : Bs) (l : List (Bs × Bs)) : posOf n l ≤ l.length := by
 induction l with
 | nil => exact Nat.le_refl _
 | cons y l ih => obtain ⟨m, u⟩ := y; unfold posOf; split <;> simp only [List.length_cons] <;> omega
theorem posOf_is {n : Bs} {l : List (Bs × Bs)} {i : Nat} (hi : i ≤ l.length) (h1 : ∀ k (hk : k < l.length), k < i → bytesLess l[k].1 n = true) (h2 : ∀ k (hk : k < l.length), i ≤ k → bytesLess l[k].1 n = false) : posOf n l = i := by
 induction l generalizing i with
 | nil => simp at hi; simp [posOf, hi]
 | cons y l ih =>
  obtain ⟨m, u⟩ := y;unfold posOf;cases i with
  | zero =>
   have := h2 0 (by simp) (Nat.le_refl _);simp at this;simp [this]
  | succ i =>
   have := h1 0 (by simp) (by omega);simp at this;rw [if_pos this, ih (i := i) (by simpa using hi) (fun k hk hlt => by have := h1 (k + 1) (by simp; omega) (by omega); simpa using this) (fun k hk hle => by have := h2 (k + 1) (by simp; omega) (by omega); simpa using this)]
def ValsIn (w : World) (q : Nat) (l : List (Bs × Bs)) : Prop := ∀ k (hk : k < l.length), w.cell? ⟨q, k * 2, none⟩ = some (.string (ofL l[k].1)) ∧ w.cell? ⟨q, k * 2 + 1, none⟩ = some (.string (ofL l[k].2))
theorem ValsIn.below {w w' : World} {q : Nat} {l : List (Bs × Bs)} (h : ValsIn w q l) (hq : q < w.heap.size) (hb : Below w.heap.size w w') : ValsIn w' q l := fun k hk =>
 ⟨(hb.cell (p := ⟨q, k * 2, none⟩) hq).trans (h k hk).1, (hb.cell (p := ⟨q, k * 2 + 1, none⟩) hq).trans (h k hk).2⟩
theorem rise_lt {l : List (Bs × Bs)} (h : rising l) {i j : Nat} (hij : i < j) (hj : j < l.length) : bytesLess (l[i]'(by omega)).1 l[j].1 = true :=
 (List.pairwise_iff_getElem.1 h) i j (by omega) hj hij
theorem valAt_no {n : Bs} {l : List (Bs × Bs)} (h : ∀ k (hk : k < l.length), bytesLess l[k].1 n = true) : (valAt n l).isSome = false := by
 induction l with
 | nil => rfl
 | cons y l ih =>
  obtain ⟨m, u⟩ := y;unfold valAt;have := h 0 (by simp);simp at this;rw [if_neg (bl_ne this)];exact ih (fun k hk => by have := h (k + 1) (by simp; omega); simpa using this)
theorem valAt_none {n : Bs} {l : List (Bs × Bs)} (h : ∀ k (hk : k < l.length), l[k].1 ≠ n) : valAt n l = none := by
 induction l with
 | nil => rfl
 | cons y l ih =>
  obtain ⟨m, u⟩ := y;unfold valAt;have := h 0 (by simp);simp at this;rw [if_neg this];exact ih (fun k hk => by have := h (k + 1) (by simp; omega); simpa using this)
theorem valAt_get {n : Bs} {l : List (Bs × Bs)} {i : Nat} (hi : i < l.length) (h1 : ∀ k (hk : k < l.length), k < i → bytesLess l[k].1 n = true) (he : l[i].1 = n) : valAt n l = some l[i].2 := by
 induction l generalizing i with
 | nil => simp at hi
 | cons y l ih =>
  obtain ⟨m, u⟩ := y;unfold valAt;cases i with
  | zero => simp at he; rw [if_pos he]; rfl
  | succ i =>
   have := h1 0 (by simp) (by omega);simp at this;rw [if_neg (bl_ne this)];simp at he;have := ih (i := i) (by simpa using hi) (fun k hk hlt => by have := h1 (k + 1) (by simp; omega) (by omega); simpa using this) he;simpa using this
theorem valAt_is {n : Bs} {l : List (Bs × Bs)} {i : Nat} (hi : i < l.length) (h1 : ∀ k (hk : k < l.length), k < i → bytesLess l[k].1 n = true) (hr : rising l) (h2 : ∀ k (hk : k < l.length), i ≤ k → bytesLess l[k].1 n = false) : (valAt n l).isSome = decide (l[i].1 = n) := by
 by_cases he : l[i].1 = n
 ·rw [valAt_get hi h1 he, decide_eq_true he]; rfl
 ·rw [decide_eq_false he, valAt_none]; rfl;intro k hk e;rcases Nat.lt_trichotomy k i with h | h | h
  ·exact bl_ne (h1 k hk h) e
  ·subst h; exact he e
  ·have h3 := rise_lt hr h hk;have h4 := h2 i hi (Nat.le_refl _);rw [e] at h3;rw [h3] at h4; cases h4
theorem bs_any (q cap : Nat) (l : List (Bs × Bs)) (nm : Bs) (w : World) (hq : q < w.heap.size) (hv : ValsIn w q l) (hr : rising l) (hlen : l.length ≤ 1000000) :
  Calls Tryz.prog 155 #[.slice (some ⟨q, 0, none⟩) l.length cap, .string (ofL nm), .func (Fn.func 156) #[] #[]] w
   fun e w' => e = .returned (.tuple #[.int .i64 (posOf nm l), .bool (valAt nm l).isSome]) ∧ Below w.heap.size w w' := by
 have HV : Hid (ValsIn w q l) := hv;have HR : Hid (rising l) := hr;clear hv hr;go_enter Tryz.func155, Tryz.ntmps155;go_wp2_with fail
 go_loopw [9, 10] (fun a b wx => ∃ i j : Nat, i ≤ j ∧ j ≤ l.length ∧ a = .int .i64 i ∧ b = .int .i64 j ∧ Below w.heap.size w wx ∧ Hid (∀ k (hk : k < l.length), k < i → bytesLess l[k].1 nm = true) ∧ Hid (∀ k (hk : k < l.length), j ≤ k → bytesLess l[k].1 nm = false)) (fun a b _ => (intOf b - intOf a).toNat)
 case atStart => exact ⟨0, l.length, Nat.zero_le _, Nat.le_refl _, rfl, rfl, Below.refl _ _, fun k hk h => absurd h (Nat.not_lt_zero _), fun k hk h => absurd hk (by omega)⟩
 case round =>
  obtain ⟨i, j, hij, hj, rfl, rfl, hb, HI, HJ⟩ := hrel;by_cases hlt : i < j
  ·have hs : ((i : Int) + (j : Int)) / 2 = (((i + j) / 2 : Nat) : Int) := by omega
   have hk1 : (i + j) / 2 < l.length := by omega
   have hk2 : i ≤ (i + j) / 2 := by omega
   have hk3 : (i + j) / 2 < j := by omega
   have cc := HV.out.below hq hb ((i + j) / 2) hk1;obtain ⟨ca, cb⟩ := cc;generalize (i + j) / 2 = h at *
   have HR2 : Hid (bytesLess l[h].1 nm = true → ∀ k (hk : k < l.length), k < h + 1 → bytesLess l[k].1 nm = true) := fun hh k hk hlt => by
    by_cases e : k = h
    ·subst e; exact hh
    ·exact bl_trans _ _ _ (rise_lt HR.out (show k < h by omega) hk1) hh
   have HR3 : Hid (bytesLess l[h].1 nm = false → ∀ k (hk : k < l.length), h ≤ k → bytesLess l[k].1 nm = false) := fun hh k hk hle => by
    by_cases e : k = h
    ·subst e; exact hh
    ·cases hx : bytesLess l[k].1 nm with
     | false => rfl
     | true => rw [bl_trans _ _ _ (rise_lt HR.out (show h < k by omega) hk) hx] at hh; cases hh
   have HC : Hid ((Lib.compareBytes l[h].1 nm < 0) ↔ bytesLess l[h].1 nm = true) := cmp_lt _ _;generalize l[h].1 = a at *
   generalize l[h].2 = b at *
   go_wp2_with fail;refine (cmp_any _ _ _ _).mono ?_;rintro e w1 ⟨rfl, hb1⟩;rw [toL_ofL, toL_ofL];have hbx := hb.trans (hb1.mono hb.size);generalize Lib.compareBytes a nm = cv at *
   by_cases hcv : cv < 0
   ·have hl := HC.out.1 hcv;go_wp2_with fail;go_roundw
    case rel => exact ⟨h + 1, j, by omega, hj, by go_num, rfl, hbx, HR2.out hl, HJ⟩
    case measure => simp [intOf]; omega
   ·have hl : bytesLess a nm = false := by
     cases hx : bytesLess a nm with
     | false => rfl
     | true => exact absurd (HC.out.2 hx) hcv
    go_wp2_with fail;go_roundw
    case rel => exact ⟨i, h, hk2, by omega, rfl, rfl, hbx, HI, HR3.out hl⟩
    case measure => simp [intOf]; omega
  ·obtain rfl : i = j := by omega
   have HP : Hid (posOf nm l = i) := posOf_is hj HI.out HJ.out;by_cases hl : i < l.length
   ·obtain ⟨ca, cb⟩ := HV.out.below hq hb i hl;have HC : Hid ((Lib.compareBytes l[i].1 nm = 0) ↔ l[i].1 = nm) := cmp_eq0 _ _;have HA : Hid ((valAt nm l).isSome = decide (l[i].1 = nm)) := valAt_is hl HI.out HR.out HJ.out;generalize l[i].1 = a at *
    generalize l[i].2 = b at *
    go_wp2_with fail;refine (cmp_any _ _ _ _).mono ?_;rintro e w1 ⟨rfl, hb1⟩;rw [toL_ofL, toL_ofL];have hbx := hb.trans (hb1.mono hb.size);generalize Lib.compareBytes a nm = cv at *
    go_wp2_with fail;go_ret2;rw [HP.out, HA.out];have hcv : (cv == 0) = decide (a = nm) := by
     rw [Bool.eq_iff_iff]; simp; exact HC.out
    exact ⟨by rw [← hcv]; rfl, hbx⟩
   ·have HA : Hid ((valAt nm l).isSome = false) := valAt_no (fun k hk => HI.out k hk (by omega));go_wp2_with fail;go_ret2;rw [HP.out, HA.out];exact ⟨rfl, hb⟩
theorem valAt_at {n v : Bs} {l : List (Bs × Bs)} (hr : rising l) (h : valAt n l = some v) : ∃ hp : posOf n l < l.length, l[posOf n l].2 = v := by
 induction l with
 | nil => cases h
 | cons y l ih =>
  obtain ⟨m, u⟩ := y;unfold valAt at h;have hu : posOf n ((m, u) :: l) = if bytesLess m n = true then posOf n l + 1 else 0 := rfl
  by_cases e : m = n
  ·rw [if_pos e] at h;obtain rfl := Option.some.inj h;have : posOf n ((m, u) :: l) = 0 := by rw [hu, e, bl_irrefl]; rfl
   refine ⟨by rw [this]; simp, ?_⟩;simp [this]
  ·rw [if_neg e] at h;obtain ⟨hp, hg⟩ := ih (List.pairwise_cons.1 hr).2 h;have hm : bytesLess m n = true := by
    have : l[posOf n l].1 = n := by
     have h3 : (valAt n l).isSome = true := by rw [h]; rfl
     have h4 : ∀ (l : List (Bs × Bs)) (hp : posOf n l < l.length), rising l → (valAt n l).isSome = true → l[posOf n l].1 = n := by
      intro l
      induction l with
      | nil => intro hp; simp at hp
      | cons z l ih2 =>
       obtain ⟨k, j⟩ := z;intro hp hr h;unfold valAt at h;have hu : posOf n ((k, j) :: l) = if bytesLess k n = true then posOf n l + 1 else 0 := rfl
       by_cases e : k = n
       ·have h0 : posOf n ((k, j) :: l) = 0 := by rw [hu, e, bl_irrefl]; rfl
        have hx : ∀ (i : Nat) (hi : i < ((k, j) :: l).length), i = 0 → (((k, j) :: l)[i]'hi).1 = k := by
         intro i hi h0; subst h0; rfl
        exact (hx _ hp h0).trans e
       ·rw [if_neg e] at h;cases hk : bytesLess k n with
        | true =>
         rw [hk, if_pos rfl] at hu;have hp2 : posOf n l < l.length := by rw [hu] at hp; simpa using hp
         have := ih2 hp2 (List.pairwise_cons.1 hr).2 h;simp only [hu, List.getElem_cons_succ];exact this
        | false =>
         exfalso;have lt : bytesLess n k = true := by
          rcases bl_total k n with x | x | x
          ·exact absurd x e
          ·rw [hk] at x; cases x
          ·exact x
         have := valAt_none (n := n) (l := l) (fun i hi he => by
          have := (List.pairwise_cons.1 hr).1 l[i] (List.getElem_mem hi)
          rw [he] at this
          simp only at this
          have := bl_trans _ _ _ lt this
          rw [bl_irrefl] at this; cases this)
         rw [this] at h; cases h
     exact h4 l hp (List.pairwise_cons.1 hr).2 h3
    have := (List.pairwise_cons.1 hr).1 l[posOf n l] (List.getElem_mem hp);simp only at this
    rwa [‹l[posOf n l].1 = n›] at this
   have hpos : posOf n ((m, u) :: l) = posOf n l + 1 := by rw [hu, if_pos hm]
   refine ⟨by rw [hpos]; simpa using hp, ?_⟩;simp only [hpos, List.getElem_cons_succ];exact hg
theorem bs_nil (nm : Bs) (w : World) :
  Calls Tryz.prog 155 #[.slice none 0 0, .string (ofL nm), .func (Fn.func 156) #[] #[]] w
   fun e w' => e = .returned (.tuple #[.int .i64 (posOf nm []), .bool (valAt nm []).isSome]) ∧ Below w.heap.size w w' := by
 go_enter Tryz.func155, Tryz.ntmps155;go_wp2_with fail;refine wp_loop_rounds 1 ?_;rw [rounds_succ];go_wp2_with fail;go_ret2;exact ⟨rfl, Below.refl _ _⟩
def VSl (w : World) (s : Value) (l : List (Bs × Bs)) : Prop := (s = .slice none 0 0 ∧ l = []) ∨ ∃ q cap, s = .slice (some ⟨q, 0, none⟩) l.length cap ∧ q < w.heap.size ∧ ValsIn w q l
theorem VSl.below {w w' : World} {s : Value} {l : List (Bs × Bs)} (h : VSl w s l) (hb : Below w.heap.size w w') : VSl w' s l := by
 rcases h with h | ⟨q, cap, hs, hq, hv⟩
 ·exact Or.inl h
 ·exact Or.inr ⟨q, cap, hs, Nat.lt_of_lt_of_le hq hb.size, hv.below hq hb⟩
theorem bs_sl (s : Value) (l : List (Bs × Bs)) (nm : Bs) (w : World) (h : VSl w s l) (hr : rising l) (hlen : l.length ≤ 1000000) :
  Calls Tryz.prog 155 #[s, .string (ofL nm), .func (Fn.func 156) #[] #[]] w
   fun e w' => e = .returned (.tuple #[.int .i64 (posOf nm l), .bool (valAt nm l).isSome]) ∧ Below w.heap.size w w' := by
 rcases h with ⟨rfl, rfl⟩ | ⟨q, cap, rfl, hq, hv⟩
 ·exact bs_nil nm w
 ·exact bs_any q cap l nm w hq hv hr hlen
theorem sfind_any (id u c d : Int) (s : Value) (l : List (Bs × Bs)) (nm : Bs) (w : World) (h : VSl w s l) (hr : rising l) (hlen : l.length ≤ 1000000) :
  Calls Tryz.prog 116 #[.agg #[.int .i64 id, .int .i64 u, .int .i64 c, .int .i64 d, s], .string (ofL nm)] w
   fun e w' => e = .returned (.tuple #[.int .i64 (posOf nm l), .bool (valAt nm l).isSome]) ∧ Below w.heap.size w w' := by
 have HH : Hid (VSl w s l) := h;clear h;go_enter Tryz.func116, Tryz.ntmps116;go_wp2_with fail;refine (bs_sl s l nm _ (HH.out.below (bA)) hr hlen).mono ?_;rintro e w1 ⟨rfl, hb1⟩;go_wp2_with fail;go_ret2;exact ⟨rfl, (bA).trans (hb1.mono (by simp))⟩
theorem room_any (id u c d : Int) (s : Value) (x : Sess) (nm : Bs) (w : World) (h : VSl w s x.vals) (hr : rising x.vals) (hlen : x.vals.length ≤ 1000000) :
  Calls Tryz.prog 69 #[.agg #[.int .i64 id, .int .i64 u, .int .i64 c, .int .i64 d, s], .string (ofL nm)] w
   fun e w' => e = .returned (.bool (x.room nm)) ∧ Below w.heap.size w w' := by
 have HH : Hid (VSl w s x.vals) := h;clear h;have HE : Hid (x.room nm = ((valAt nm x.vals).isSome || decide (x.vals.length < 3))) := rfl;have hb0 := (Below.refl w.heap.size w).alloc (Nat.le_refl _) (.cells #[.int .i64 id, .int .i64 u, .int .i64 c, .int .i64 d, s] 104);go_enter Tryz.func69, Tryz.ntmps69;go_wp2_with fail;refine (sfind_any id u c d s x.vals nm _ (HH.out.below hb0) hr hlen).mono ?_;rintro e w1 ⟨rfl, hb1⟩;obtain ⟨hc, hf⟩ := bcell hb1;have hbx := hb0.trans (hb1.mono (by simp));rcases HH.out with ⟨rfl, hl⟩ | ⟨q, cap, rfl, hq, hv⟩
 ·cases hv : (valAt nm x.vals).isSome with
  | true =>
   go_wp2_with fail;go_ret;exact ⟨rb (by rw [HE.out, hv]; rfl), hbx⟩
  | false =>
   go_wp2_with fail;go_ret;exact ⟨rb (by rw [HE.out, hv, hl]; rfl), hbx⟩
 ·cases hv : (valAt nm x.vals).isSome with
  | true =>
   go_wp2_with fail;go_ret;exact ⟨rb (by rw [HE.out, hv]; rfl), hbx⟩
  | false =>
   go_wp2_with fail;go_ret;exact ⟨rb (by rw [HE.out, hv, Bool.false_or]; exact decide_eq_decide.2 (by omega)), hbx⟩
def valV : Option Bs → Value
 | some v => .tuple #[.string (ofL v), .bool true]
 | none => .tuple #[.string (ofL []), .bool false]
theorem value_any (id u c d : Int) (s : Value) (l : List (Bs × Bs)) (nm : Bs) (w : World) (h : VSl w s l) (hr : rising l) (hlen : l.length ≤ 1000000) :
  Calls Tryz.prog 63 #[.agg #[.int .i64 id, .int .i64 u, .int .i64 c, .int .i64 d, s], .string (ofL nm)] w
   fun e w' => e = .returned (valV (valAt nm l)) ∧ Below w.heap.size w w' := by
 have HH : Hid (VSl w s l) := h;clear h;have hb0 := (Below.refl w.heap.size w).alloc (Nat.le_refl _) (.cells #[.int .i64 id, .int .i64 u, .int .i64 c, .int .i64 d, s] 104);go_enter Tryz.func63, Tryz.ntmps63;go_wp2_with fail;refine (sfind_any id u c d s l nm _ (HH.out.below hb0) hr hlen).mono ?_;rintro e w1 ⟨rfl, hb1⟩;obtain ⟨hc, hf⟩ := bcell hb1;have hbx := hb0.trans (hb1.mono (by simp));have HV : Hid (VSl w1 s l) := HH.out.below hbx;generalize hva : valAt nm l = va at *
 have HVA : Hid (valAt nm l = va) := hva;clear hva;cases va with
 | none =>
  rw [show (none : Option Bs).isSome = false from rfl];go_wp2_with fail;go_ret2;exact ⟨by rw [HVA.out]; rfl, hbx⟩
 | some v =>
  obtain ⟨hp, hg⟩ := valAt_at hr HVA.out;rw [show (some v : Option Bs).isSome = true from rfl];rcases HV.out with ⟨rfl, hl⟩ | ⟨q, cap, rfl, hq, hvi⟩
  ·rw [hl] at hp; exact absurd hp (Nat.not_lt_zero _)
  ·have c2 := (hvi _ hp).2;rw [hg] at c2;clear hvi hg;generalize posOf nm l = i at *
   go_wp2_with fail;go_ret2;exact ⟨by rw [HVA.out]; rfl, hbx⟩
end Go.Proofs.YtmnajomkfnkmeaaGreatDoor
