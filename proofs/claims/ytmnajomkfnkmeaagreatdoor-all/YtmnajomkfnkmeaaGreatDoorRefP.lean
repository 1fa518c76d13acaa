import Derived.Test.YtmnajomkfnkmeaaGreatDoorPurB
namespace Go.Proofs.YtmnajomkfnkmeaaGreatDoor
open Op (bytesLess)
def wFut (n v : Bs) : Bool → List (Bs × Bs) → List (Bs × Bs)
 | false, l => setVal n v l
 | true, l => l.filter fun x => decide (x.1 ≠ n)
theorem filter_above {n : Bs} {l : List (Bs × Bs)} (h : ∀ x ∈ l, bytesLess n x.1 = true) : l.filter (fun x => decide (x.1 ≠ n)) = l :=
 List.filter_eq_self.2 fun x hx => decide_eq_true (fun e => by have := bl_ne (h x hx); exact this e.symm)
theorem rising_cons {a : Bs × Bs} {l : List (Bs × Bs)} (h : rising (a :: l)) : (∀ x ∈ l, bytesLess a.1 x.1 = true) ∧ rising l := by
 unfold rising at h;rw [List.pairwise_cons] at h;exact h
theorem wFut_low {n v m u : Bs} {l : List (Bs × Bs)} (h : bytesLess m n = true) : wFut n v false ((m, u) :: l) = (m, u) :: wFut n v false l := by
 show setVal n v ((m, u) :: l) = _;unfold setVal;rw [if_neg (bl_ne h), if_pos h];rfl
theorem wFut_here {n v u : Bs} {l : List (Bs × Bs)} (h : rising ((n, u) :: l)) : wFut n v false ((n, u) :: l) = (n, v) :: wFut n v true l := by
 show setVal n v ((n, u) :: l) = _;unfold setVal;rw [if_pos rfl];show _ = (n, v) :: l.filter _;rw [filter_above (rising_cons h).1]
theorem wFut_above {n v m u : Bs} {l : List (Bs × Bs)} (h : rising ((m, u) :: l)) (hl : bytesLess m n = false) (hn : m ≠ n) : wFut n v false ((m, u) :: l) = (n, v) :: (m, u) :: wFut n v true l := by
 show setVal n v ((m, u) :: l) = _;unfold setVal;rw [if_neg hn, if_neg (by rw [hl]; decide)];show _ = (n, v) :: (m, u) :: l.filter _;have hnm : bytesLess n m = true := by
  rcases bl_total m n with e | e | e
  ·exact absurd e hn
  ·rw [hl] at e; cases e
  ·exact e
 rw [filter_above (fun x hx => bl_trans _ _ _ hnm ((rising_cons h).1 x hx))]
theorem wFut_put {n v m u : Bs} {l : List (Bs × Bs)} (hn : m ≠ n) : wFut n v true ((m, u) :: l) = (m, u) :: wFut n v true l := by
 show List.filter _ _ = _ :: List.filter _ _;rw [List.filter_cons, if_pos (by simpa using hn)]
theorem wFut_skip {n v u : Bs} {l : List (Bs × Bs)} : wFut n v true ((n, u) :: l) = wFut n v true l := by
 show List.filter _ _ = List.filter _ _;rw [List.filter_cons, if_neg (by simp)]
theorem rvalAt_get {n : Bs} {l : List (Bs × Bs)} {i : Nat} (hi : i < l.length) (hn : (l[i]'hi).1 = n) (hlow : ∀ j (hj : j < i), (l[j]'(by omega)).1 ≠ n) : valAt n l = some (l[i]'hi).2 := by
 induction l generalizing i with
 | nil => exact absurd hi (by simp)
 | cons a l ih =>
  cases i with
  | zero =>
   show (if a.1 = n then some a.2 else valAt n l) = _;have hn : a.1 = n := hn;rw [if_pos hn]; rfl
  | succ i =>
   show (if a.1 = n then some a.2 else valAt n l) = _;have h0 : ¬ a.1 = n := hlow 0 (by omega);rw [if_neg h0];exact ih (i := i) (by simpa using hi) hn (fun j hj => hlow (j + 1) (by omega))
theorem rvalAt_out {n : Bs} {l : List (Bs × Bs)} (h : ∀ j (hj : j < l.length), (l[j]'hj).1 ≠ n) : valAt n l = none := by
 induction l with
 | nil => rfl
 | cons a l ih =>
  show (if a.1 = n then some a.2 else valAt n l) = _;have h0 : ¬ a.1 = n := h 0 (by simp);rw [if_neg h0];exact ih (fun j hj => h (j + 1) (by simpa using hj))
def hexF (id : Nat) : Bs := [dig (id / 256 % 16), dig (id / 16 % 16), dig (id % 16)]
theorem hexF_pass (s : Bs) (id : Nat) : ((passL s id).drop 2).take 3 = hexF id := rfl
theorem passOf_none_len {s t : Bs} (h : t.length ≠ 9) : passOf s t = none := by
 unfold passOf; rw [if_neg (fun x => h x.1)]
theorem passOf_hex {s t : Bs} {id : Nat} (hid : id < 4096) (hl : t.length = 9) (h : (t.drop 2).take 3 = hexF id) : passOf s t = if t = passL s id then some id else none := by
 have hp : passId t = id := by
  obtain ⟨a, b, c, d, e, r, rfl⟩ : ∃ a b c d e r, t = a :: b :: c :: d :: e :: r := by
   match t, hl with
   | a :: b :: c :: d :: e :: r, _ => exact ⟨a, b, c, d, e, r, rfl⟩
  have h3 : [c, d, e] = hexF id := h;unfold hexF at h3;simp only [List.cons.injEq, and_true] at h3;obtain ⟨rfl, rfl, rfl⟩ := h3;show 256 * undig (dig _) + 16 * undig (dig _) + undig (dig _) = id;rw [undig_dig _ (by omega), undig_dig _ (by omega), undig_dig _ (by omega)];omega
 unfold passOf;rw [hp];by_cases c : t = passL s id
 ·rw [if_pos ⟨hl, c.symm⟩, if_pos c]
 ·rw [if_neg (fun x => c x.2.symm), if_neg c]
theorem passOf_nohex {s t : Bs} (h : ∀ id, id < 4096 → (t.drop 2).take 3 ≠ hexF id) : passOf s t = none := by
 unfold passOf;by_cases c : t.length = 9 ∧ passL s (passId t) = t
 ·exfalso;refine h (passId t) (passId_lt t) ?_;have := hexF_pass s (passId t)
  rwa [c.2] at this
 ·rw [if_neg c]
def Sp.fin (q : Sp) (n : Nat) : Prop := q.bad = false ∧ q.pos = n
theorem fin_at {q : Sp} {l : Bs} {α : Type} (x : α) {n : Nat} (h : q.at l) (hn : q.s.length = n) : (atEnd (some (x, l)) = some x ∧ q.fin n) ∨ (atEnd (some (x, l)) = none ∧ ¬ q.fin n) := by
 obtain ⟨h0, h1, h2⟩ := h;have hl : l.length = n - q.pos := by rw [← h2, List.length_drop, hn]
 cases l with
 | nil => exact Or.inl ⟨rfl, h0, by simp at hl; omega⟩
 | cons a l => exact Or.inr ⟨rfl, fun hf => by rw [hf.2] at hl; simp at hl⟩
inductive Reads (o : Option Chg) (q : Sp) (n : Nat) (c : Chg) : Prop
 | yes (h : q.fin n) (e : o = some c)
 | no (h : ¬ q.fin n) (e : o = none)
theorem Reads.at_end {q : Sp} {l : Bs} {n : Nat} (c : Chg) (h : q.at l) (hn : q.s.length = n) : Reads (atEnd (some (c, l))) q n c := by
 rcases fin_at c h hn with ⟨e, f⟩ | ⟨e, f⟩
 ·exact .yes f e
 ·exact .no f e
theorem Reads.bad {q : Sp} {n : Nat} (c : Chg) (h : q.bad = true) : Reads none q n c := .no (fun f => by rw [f.1] at h; cases h) rfl
theorem dX_eq {p : Sp} {l : Bs} {n : Nat} (h : p.at l) (hn : p.s.length = n) : Reads (atEnd (parseX l)) (spN 2 0 4095 p).2 n (.X (spN 2 0 4095 p).1) := by
 have h1 := spN_at (w := 2) (lo := 0) (hi := 4095) h;have s1 := spN_s 2 0 4095 p;unfold parseX;generalize spN 2 0 4095 p = a at h1 s1 ⊢;cases e1 : pNum 2 0 4095 l with
 | none => rw [e1] at h1; exact .bad _ h1
 | some z => rw [e1] at h1; rw [Option.bind_some, ← h1.1]; exact .at_end _ h1.2 (by rw [s1, hn])
theorem dU_eq {p : Sp} {l : Bs} {n : Nat} (h : p.at l) (hn : p.s.length = n) : Reads (atEnd (parseU l)) (spN 1 1 99 p).2 n (.U (spN 1 1 99 p).1) := by
 have h1 := spN_at (w := 1) (lo := 1) (hi := 99) h;have s1 := spN_s 1 1 99 p;unfold parseU;generalize spN 1 1 99 p = a at h1 s1 ⊢;cases e1 : pNum 1 1 99 l with
 | none => rw [e1] at h1; exact .bad _ h1
 | some z => rw [e1] at h1; rw [Option.bind_some, ← h1.1]; exact .at_end _ h1.2 (by rw [s1, hn])
theorem dT_eq {p : Sp} {l : Bs} {n : Nat} (h : p.at l) (hn : p.s.length = n) : Reads (atEnd (parseT l)) (spN 4 0 maxT (spN 2 0 4095 p).2).2 n (.T (spN 2 0 4095 p).1 (spN 4 0 maxT (spN 2 0 4095 p).2).1) := by
 have h1 := spN_at (w := 2) (lo := 0) (hi := 4095) h;have s1 := spN_s 2 0 4095 p;unfold parseT;generalize spN 2 0 4095 p = a at h1 s1 ⊢;cases e1 : pNum 2 0 4095 l with
 | none => rw [e1] at h1; exact .bad _ (spN_bad h1)
 | some z =>
  rw [e1] at h1; rw [Option.bind_some, ← h1.1];have h2 := spN_at (w := 4) (lo := 0) (hi := maxT) h1.2;have s2 := spN_s 4 0 maxT a.2;generalize spN 4 0 maxT a.2 = b at h2 s2 ⊢;cases e2 : pNum 4 0 maxT z.2 with
  | none => rw [e2] at h2; exact .bad _ h2
  | some y => rw [e2] at h2; rw [Option.bind_some, ← h2.1]; exact .at_end _ h2.2 (by rw [s2, s1, hn])
theorem dL_eq {p : Sp} {l : Bs} {n : Nat} (h : p.at l) (hn : p.s.length = n) :
  Reads (atEnd (parseL l)) (spN 4 0 maxT (spN 1 1 99 (spN 2 0 4095 p).2).2).2 n (.L (spN 2 0 4095 p).1 (spN 1 1 99 (spN 2 0 4095 p).2).1 (spN 4 0 maxT (spN 1 1 99 (spN 2 0 4095 p).2).2).1) := by
 have h1 := spN_at (w := 2) (lo := 0) (hi := 4095) h;have s1 := spN_s 2 0 4095 p;unfold parseL;generalize spN 2 0 4095 p = a at h1 s1 ⊢;cases e1 : pNum 2 0 4095 l with
 | none => rw [e1] at h1; exact .bad _ (spN_bad (spN_bad h1))
 | some z =>
  rw [e1] at h1; rw [Option.bind_some, ← h1.1];have h2 := spN_at (w := 1) (lo := 1) (hi := 99) h1.2;have s2 := spN_s 1 1 99 a.2;generalize spN 1 1 99 a.2 = b at h2 s2 ⊢;cases e2 : pNum 1 1 99 z.2 with
  | none => rw [e2] at h2; exact .bad _ (spN_bad h2)
  | some y =>
   rw [e2] at h2; rw [Option.bind_some, ← h2.1];have h3 := spN_at (w := 4) (lo := 0) (hi := maxT) h2.2;have s3 := spN_s 4 0 maxT b.2;generalize spN 4 0 maxT b.2 = d at h3 s3 ⊢;cases e3 : pNum 4 0 maxT y.2 with
   | none => rw [e3] at h3; exact .bad _ h3
   | some x => rw [e3] at h3; rw [Option.bind_some, ← h3.1]; exact .at_end _ h3.2 (by rw [s3, s2, s1, hn])
theorem dR_eq {p : Sp} {l : Bs} {n : Nat} (h : p.at l) (hn : p.s.length = n) :
  Reads (atEnd (parseR l)) (spN 4 0 maxT (spN 2 0 4095 (spN 2 0 4095 p).2).2).2 n (.R (spN 2 0 4095 p).1 (spN 2 0 4095 (spN 2 0 4095 p).2).1 (spN 4 0 maxT (spN 2 0 4095 (spN 2 0 4095 p).2).2).1) := by
 have h1 := spN_at (w := 2) (lo := 0) (hi := 4095) h;have s1 := spN_s 2 0 4095 p;unfold parseR;generalize spN 2 0 4095 p = a at h1 s1 ⊢;cases e1 : pNum 2 0 4095 l with
 | none => rw [e1] at h1; exact .bad _ (spN_bad (spN_bad h1))
 | some z =>
  rw [e1] at h1; rw [Option.bind_some, ← h1.1];have h2 := spN_at (w := 2) (lo := 0) (hi := 4095) h1.2;have s2 := spN_s 2 0 4095 a.2;generalize spN 2 0 4095 a.2 = b at h2 s2 ⊢;cases e2 : pNum 2 0 4095 z.2 with
  | none => rw [e2] at h2; exact .bad _ (spN_bad h2)
  | some y =>
   rw [e2] at h2; rw [Option.bind_some, ← h2.1];have h3 := spN_at (w := 4) (lo := 0) (hi := maxT) h2.2;have s3 := spN_s 4 0 maxT b.2;generalize spN 4 0 maxT b.2 = d at h3 s3 ⊢;cases e3 : pNum 4 0 maxT y.2 with
   | none => rw [e3] at h3; exact .bad _ h3
   | some x => rw [e3] at h3; rw [Option.bind_some, ← h3.1]; exact .at_end _ h3.2 (by rw [s3, s2, s1, hn])
theorem dS_eq {p : Sp} {l : Bs} {n : Nat} (h : p.at l) (hn : p.s.length = n) :
  Reads (atEnd (parseS l)) (spN 4 0 maxT (spX 0 8 (spX 1 8 (spN 2 0 4095 p).2).2).2).2 n (.S (spN 2 0 4095 p).1 (spX 1 8 (spN 2 0 4095 p).2).1 (spX 0 8 (spX 1 8 (spN 2 0 4095 p).2).2).1 (spN 4 0 maxT (spX 0 8 (spX 1 8 (spN 2 0 4095 p).2).2).2).1) := by
 have h1 := spN_at (w := 2) (lo := 0) (hi := 4095) h;have s1 := spN_s 2 0 4095 p;unfold parseS;generalize spN 2 0 4095 p = a at h1 s1 ⊢;cases e1 : pNum 2 0 4095 l with
 | none => rw [e1] at h1; exact .bad _ (spN_bad (spX_bad (spX_bad h1)))
 | some z =>
  rw [e1] at h1; rw [Option.bind_some, ← h1.1];have h2 := spX_at (lo := 1) (hi := 8) h1.2;have s2 := spX_s 1 8 a.2;generalize spX 1 8 a.2 = b at h2 s2 ⊢;cases e2 : pTxt 1 8 z.2 with
  | none => rw [e2] at h2; exact .bad _ (spN_bad (spX_bad h2))
  | some y =>
   rw [e2] at h2; rw [Option.bind_some, ← h2.1];have h4 := spX_at (lo := 0) (hi := 8) h2.2;have s4 := spX_s 0 8 b.2;generalize spX 0 8 b.2 = d at h4 s4 ⊢;cases e4 : pTxt 0 8 y.2 with
   | none => rw [e4] at h4; exact .bad _ (spN_bad h4)
   | some x =>
    rw [e4] at h4; rw [Option.bind_some, ← h4.1];have h3 := spN_at (w := 4) (lo := 0) (hi := maxT) h4.2;have s3 := spN_s 4 0 maxT d.2;generalize spN 4 0 maxT d.2 = f at h3 s3 ⊢;cases e3 : pNum 4 0 maxT x.2 with
    | none => rw [e3] at h3; exact .bad _ h3
    | some w => rw [e3] at h3; rw [Option.bind_some, ← h3.1]; exact .at_end _ h3.2 (by rw [s3, s4, s2, s1, hn])
theorem takes_no {T : Tab} {p : Bs} (h : parseChg p = none) : T.takes p = none := by unfold Tab.takes; rw [h]
theorem takes_not {T : Tab} {p : Bs} {c : Chg} (h : parseChg p = some c) (ha : T.allows c = false) : T.takes p = none := by unfold Tab.takes; rw [h]; simp only; rw [ha]; rfl
theorem takes_yes {T : Tab} {p : Bs} {c : Chg} (h : parseChg p = some c) (ha : T.allows c = true) : T.takes p = some (T.does c) := by unfold Tab.takes; rw [h]; simp only; rw [ha]; rfl
theorem takes_reads {T : Tab} {p : Bs} {q : Sp} {n : Nat} {c : Chg} (h : Reads (parseChg p) q n c) : (q.fin n ∧ T.allows c = true ∧ T.takes p = some (T.does c)) ∨ ((¬ q.fin n ∨ T.allows c = false) ∧ T.takes p = none) := by
 rcases h with ⟨hf, e⟩ | ⟨hf, e⟩
 ·cases ha : T.allows c with
  | true => exact Or.inl ⟨hf, rfl, takes_yes e ha⟩
  | false => exact Or.inr ⟨Or.inr rfl, takes_not e ha⟩
 ·exact Or.inr ⟨Or.inl hf, takes_no e⟩
def touched (a n j : Nat) : Bool := decide (a < 32 * j + 32) && decide (32 * j < a + n)
def offsR (a n lo k : Nat) : List Nat := ((List.range' lo k).filter (touched a n)).map (32 * ·)
theorem offsR_zero (a n lo : Nat) : offsR a n lo 0 = [] := rfl
theorem offsR_succ (a n lo k : Nat) : offsR a n lo (k + 1) = if touched a n lo then 32 * lo :: offsR a n (lo + 1) k else offsR a n (lo + 1) k := by
 unfold offsR;rw [List.range'_succ, List.filter_cons];split <;> rfl
theorem filter_none {p : Nat → Bool} : ∀ (lo k : Nat), (∀ j, lo ≤ j → j < lo + k → p j = false) → (List.range' lo k).filter p = []
 | _, 0, _ => rfl
 | lo, k + 1, h => by
  rw [List.range'_succ, List.filter_cons, if_neg (by rw [h lo (Nat.le_refl _) (by omega)]; decide)];exact filter_none (lo + 1) k (fun j h1 h2 => h j (by omega) (by omega))
theorem filter_all {p : Nat → Bool} : ∀ (lo k : Nat), (∀ j, lo ≤ j → j < lo + k → p j = true) → (List.range' lo k).filter p = List.range' lo k
 | _, 0, _ => rfl
 | lo, k + 1, h => by
  rw [List.range'_succ, List.filter_cons, if_pos (h lo (Nat.le_refl _) (by omega)), filter_all (lo + 1) k (fun j h1 h2 => h j (by omega) (by omega))]
theorem offsR_all {a n N : Nat} (hn : 0 < n) (h : a + n ≤ 32 * N) : offsR a n 0 N = offs a n := by
 unfold offsR offs;congr 1;obtain ⟨k1, hk1⟩ : ∃ k1, k1 = a / 32 := ⟨_, rfl⟩;obtain ⟨k2, hk2⟩ : ∃ k2, k2 = (a + n + 31) / 32 - a / 32 := ⟨_, rfl⟩;obtain ⟨k3, hk3⟩ : ∃ k3, N = k1 + (k2 + k3) := ⟨N - k1 - k2, by omega⟩;rw [← hk2, ← hk1, hk3, ← List.range'_append_1, ← List.range'_append_1, List.filter_append, List.filter_append, filter_none 0 k1, filter_all (0 + k1) k2, filter_none (0 + k1 + k2) k3, List.nil_append, List.append_nil, Nat.zero_add]
 ·intro j h1 h2;unfold touched;rw [decide_eq_false (show ¬ 32 * j < a + n by omega), Bool.and_false]
 ·intro j h1 h2;unfold touched;rw [decide_eq_true (show a < 32 * j + 32 by omega), decide_eq_true (show 32 * j < a + n by omega)]; rfl
 ·intro j h1 h2;unfold touched;rw [decide_eq_false (show ¬ a < 32 * j + 32 by omega), Bool.false_and]
theorem drawN_step (n x : Nat) (T : Tab) : drawN (n + 1) x T = if (T (drawX x % 4096)).isNone then (some (drawX x % 4096), drawX x) else drawN n (drawX x) T := rfl
end Go.Proofs.YtmnajomkfnkmeaaGreatDoor
