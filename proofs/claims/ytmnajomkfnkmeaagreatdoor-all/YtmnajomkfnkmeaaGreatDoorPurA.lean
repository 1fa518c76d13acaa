import Derived.Test.YtmnajomkfnkmeaaGreatDoorPure
namespace Go.Proofs.YtmnajomkfnkmeaaGreatDoor
def zeros (n : Nat) : Bs := List.replicate n 0
structure Sp where
 s : Bs
 pos : Nat
 bad : Bool
def Sp.at (p : Sp) (l : Bs) : Prop := p.bad = false ∧ p.pos ≤ p.s.length ∧ p.s.drop p.pos = l
def spTake (n : Nat) (p : Sp) : Bs × Sp :=
 if p.bad = true ∨ p.s.length - p.pos < n then (zeros n, ⟨p.s, p.pos, true⟩) else ((p.s.drop p.pos).take n, ⟨p.s, p.pos + n, p.bad⟩)
def spN (w lo hi : Nat) (p : Sp) : Nat × Sp :=
 if numL (spTake w p).1 < lo ∨ hi < numL (spTake w p).1 then (lo, ⟨(spTake w p).2.s, (spTake w p).2.pos, true⟩) else (numL (spTake w p).1, (spTake w p).2)
def spX (lo hi : Nat) (p : Sp) : Bs × Sp := spTake (spN 1 lo hi p).1 (spN 1 lo hi p).2
theorem spTake_s (n : Nat) (p : Sp) : (spTake n p).2.s = p.s := by unfold spTake; split <;> rfl
theorem spN_s (w lo hi : Nat) (p : Sp) : (spN w lo hi p).2.s = p.s := by unfold spN; split <;> exact spTake_s w p
theorem spX_s (lo hi : Nat) (p : Sp) : (spX lo hi p).2.s = p.s := by unfold spX; rw [spTake_s, spN_s]
theorem spTake_bad {n : Nat} {p : Sp} (h : p.bad = true) : (spTake n p).2.bad = true := by unfold spTake; rw [if_pos (Or.inl h)]
theorem spN_bad {w lo hi : Nat} {p : Sp} (h : p.bad = true) : (spN w lo hi p).2.bad = true := by
 unfold spN; split
 ·rfl
 ·exact spTake_bad h
theorem spX_bad {lo hi : Nat} {p : Sp} (h : p.bad = true) : (spX lo hi p).2.bad = true := by unfold spX; exact spTake_bad (spN_bad h)
theorem spTake_pos {n : Nat} {p : Sp} (h : p.pos ≤ p.s.length) : (spTake n p).2.pos ≤ p.s.length := by unfold spTake; split <;> simp only <;> omega
theorem spN_pos {w lo hi : Nat} {p : Sp} (h : p.pos ≤ p.s.length) : (spN w lo hi p).2.pos ≤ p.s.length := by unfold spN; split <;> exact spTake_pos h
theorem spX_pos {lo hi : Nat} {p : Sp} (h : p.pos ≤ p.s.length) : (spX lo hi p).2.pos ≤ p.s.length := by
 unfold spX;have := spN_pos (w := 1) (lo := lo) (hi := hi) h;have e := spN_s 1 lo hi p;rw [← e] at this ⊢;exact spTake_pos this
theorem spTake_length (n : Nat) (p : Sp) : (spTake n p).1.length = n := by
 unfold spTake zeros;split
 ·simp
 ·rename_i c;have : ¬ p.s.length - p.pos < n := fun h => c (Or.inr h);rw [List.length_take_of_le]; simp; omega
theorem spN_le {w lo hi : Nat} {p : Sp} (h : lo ≤ hi) : (spN w lo hi p).1 ≤ hi ∧ lo ≤ (spN w lo hi p).1 := by unfold spN; split <;> simp only <;> omega
theorem spTake_at {n : Nat} {p : Sp} {l : Bs} (h : p.at l) : if n ≤ l.length then (spTake n p).1 = l.take n ∧ (spTake n p).2.at (l.drop n) else (spTake n p).2.bad = true := by
 obtain ⟨h0, h1, h2⟩ := h;have hl : l.length = p.s.length - p.pos := by rw [← h2, List.length_drop]
 unfold spTake;by_cases c : n ≤ l.length
 ·rw [if_pos c, if_neg (by rw [h0]; simp; omega)];refine ⟨by rw [h2], h0, by simp only; omega, ?_⟩;simp only;rw [← h2, List.drop_drop]
 ·rw [if_neg c, if_pos (Or.inr (by omega))]
theorem spN_at {w lo hi : Nat} {p : Sp} {l : Bs} (h : p.at l) : match pNum w lo hi l with
  | some (n, r) => (spN w lo hi p).1 = n ∧ (spN w lo hi p).2.at r
  | none => (spN w lo hi p).2.bad = true := by
 have ht := spTake_at (n := w) h;unfold pNum spN;by_cases c : w ≤ l.length
 ·rw [if_pos c] at ht;rw [ht.1];by_cases d : lo ≤ numL (l.take w) ∧ numL (l.take w) ≤ hi
  ·rw [if_pos ⟨c, d⟩, if_neg (by omega)];exact ⟨rfl, ht.2⟩
  ·rw [if_neg (fun x => d x.2), if_pos (by omega)]
 ·rw [if_neg c] at ht;rw [if_neg (fun x => c x.1)];show (ite _ _ _ : Nat × Sp).2.bad = true;split
  ·rfl
  ·exact ht
theorem spX_at {lo hi : Nat} {p : Sp} {l : Bs} (h : p.at l) : match pTxt lo hi l with
  | some (s, r) => (spX lo hi p).1 = s ∧ (spX lo hi p).2.at r
  | none => (spX lo hi p).2.bad = true := by
 have hn := spN_at (w := 1) (lo := lo) (hi := hi) h;unfold pTxt spX;split at hn
 ·rename_i n r hq;rw [hq];simp only;rw [hn.1];have ht := spTake_at (n := n) hn.2;split at ht
  ·rename_i c; rw [if_pos c]; exact ht
  ·rename_i c; rw [if_neg c]; exact ht
 ·rename_i hq;rw [hq];simp only;exact spTake_bad hn
structure Rd where
 rest : Bs
 short : Bool
 out : Bool
def Rd.at (r : Rd) (l : Bs) : Prop := r.rest = l ∧ r.short = false ∧ r.out = false
def Rd.bad (r : Rd) : Prop := r.short = true ∨ r.out = true
def rdText (n : Nat) (r : Rd) : Bs × Rd :=
 if r.rest.length < n then (zeros n, ⟨[], true, r.out⟩) else (r.rest.take n, ⟨r.rest.drop n, r.short, r.out⟩)
def rdMust (ok : Bool) (r : Rd) : Rd := ⟨r.rest, r.short, r.out || !ok⟩
def rdOne (r : Rd) : Nat × Rd := (numL (rdText 1 r).1, (rdText 1 r).2)
def rdTwo (r : Rd) : Nat × Rd := (numL (rdText 2 r).1, (rdText 2 r).2)
def rdFour (r : Rd) : Nat × Rd := ((rdTwo r).1 + 65536 * (rdTwo (rdTwo r).2).1, (rdTwo (rdTwo r).2).2)
def rdId (r : Rd) : Nat × Rd := ((rdTwo r).1, rdMust (decide ((rdTwo r).1 < 4096)) (rdTwo r).2)
def rdUser (r : Rd) : Nat × Rd := ((rdOne r).1, rdMust (decide (1 ≤ (rdOne r).1 ∧ (rdOne r).1 ≤ 99)) (rdOne r).2)
def rdTime (r : Rd) : Nat × Rd := ((rdFour r).1, rdMust (decide ((rdFour r).1 ≤ maxT)) (rdFour r).2)
def rdStr (r : Rd) : Bs × Rd := rdText (rdOne r).1 (rdOne r).2
def rdName (r : Rd) : Bs × Rd := ((rdStr r).1, rdMust (decide (1 ≤ (rdStr r).1.length ∧ (rdStr r).1.length ≤ 8)) (rdStr r).2)
def rdVal (r : Rd) : Bs × Rd := ((rdStr r).1, rdMust (decide ((rdStr r).1.length ≤ 8)) (rdStr r).2)
def rdCount (most : Nat) (r : Rd) : Nat × Rd := (min (rdOne r).1 most, rdMust (decide ((rdOne r).1 ≤ most)) (rdOne r).2)
def Rd.fit (r : Rd) : Bool := r.rest == [] && !r.short && !r.out
theorem Rd.fit_at {r : Rd} {l : Bs} (h : r.at l) : r.fit = (l == []) := by
 obtain ⟨rfl, h1, h2⟩ := h; simp [Rd.fit, h1, h2]
theorem Rd.fit_bad {r : Rd} (h : r.bad) : r.fit = false := by
 rcases h with h | h <;> simp [Rd.fit, h]
theorem rdText_at {n : Nat} {r : Rd} {l : Bs} (h : r.at l) : if n ≤ l.length then (rdText n r).1 = l.take n ∧ (rdText n r).2.at (l.drop n) else (rdText n r).2.bad := by
 obtain ⟨rfl, h1, h2⟩ := h;unfold rdText;by_cases c : n ≤ r.rest.length
 ·rw [if_pos c, if_neg (by omega)]; exact ⟨rfl, rfl, h1, h2⟩
 ·rw [if_neg c, if_pos (by omega)]; exact Or.inl rfl
theorem rdText_bad {n : Nat} {r : Rd} (h : r.bad) : (rdText n r).2.bad := by
 unfold rdText; split
 ·exact Or.inl rfl
 ·exact h
theorem rdMust_bad {b : Bool} {r : Rd} (h : r.bad) : (rdMust b r).bad := by
 rcases h with h | h
 ·exact Or.inl h
 ·exact Or.inr (by simp [rdMust, h])
theorem rdMust_no (r : Rd) : (rdMust false r).bad := Or.inr (by simp [rdMust])
theorem rdMust_yes {r : Rd} {l : Bs} (h : r.at l) : (rdMust true r).at l := ⟨h.1, h.2.1, by simp [rdMust, h.2.2]⟩
theorem rdFour_bad {r : Rd} (h : r.bad) : (rdFour r).2.bad := rdText_bad (rdText_bad h)
theorem rdFour_at {r : Rd} {l : Bs} (h : r.at l) : if 4 ≤ l.length then (rdFour r).1 = numL (l.take 4) ∧ (rdFour r).2.at (l.drop 4) else (rdFour r).2.bad := by
 have h1 := rdText_at (n := 2) h;split at h1
 ·rename_i c;have h2 := rdText_at (n := 2) h1.2;split at h2
  ·rename_i d;rw [List.length_drop] at d;rw [if_pos (by omega)];have e2 : (rdTwo (rdTwo r).2).1 = numL ((l.drop 2).take 2) := congrArg numL h2.1;refine ⟨?_, ?_⟩
   ·unfold rdFour;simp only;rw [e2];have e1 : (rdTwo r).1 = numL (l.take 2) := congrArg numL h1.1;rw [e1];have : l.take 4 = l.take 2 ++ (l.drop 2).take 2 := List.take_add (i := 2) (j := 2) ▸ rfl;rw [this, numL_append, List.length_take_of_le c]
   ·have := h2.2;rw [List.drop_drop] at this;exact this
  ·rename_i d;rw [List.length_drop] at d;rw [if_neg (by omega)];exact h2
 ·rename_i c;rw [if_neg (by omega)];exact rdText_bad h1
theorem rdNum_at {w lo hi : Nat} {r : Rd} {l : Bs} (h : r.at l) : match pNum w lo hi l with
  | some (n, q) => numL (rdText w r).1 = n ∧ (rdMust (decide (lo ≤ numL (rdText w r).1 ∧ numL (rdText w r).1 ≤ hi)) (rdText w r).2).at q
  | none => (rdMust (decide (lo ≤ numL (rdText w r).1 ∧ numL (rdText w r).1 ≤ hi)) (rdText w r).2).bad := by
 have ht := rdText_at (n := w) h;unfold pNum;by_cases c : w ≤ l.length
 ·rw [if_pos c] at ht;rw [ht.1];by_cases d : lo ≤ numL (l.take w) ∧ numL (l.take w) ≤ hi
  ·rw [if_pos ⟨c, d⟩, decide_eq_true d];exact ⟨rfl, rdMust_yes ht.2⟩
  ·rw [if_neg (fun x => d x.2), decide_eq_false d];exact rdMust_no _
 ·rw [if_neg c] at ht;rw [if_neg (fun x => c x.1)];exact rdMust_bad ht
theorem rdId_at {r : Rd} {l : Bs} (h : r.at l) : match pNum 2 0 4095 l with
  | some (n, q) => (rdId r).1 = n ∧ (rdId r).2.at q
  | none => (rdId r).2.bad := by
 have := rdNum_at (w := 2) (lo := 0) (hi := 4095) h;have e : decide (0 ≤ numL (rdText 2 r).1 ∧ numL (rdText 2 r).1 ≤ 4095) = decide (numL (rdText 2 r).1 < 4096) := decide_eq_decide.2 (by omega);rw [e] at this;exact this
theorem rdUser_at {r : Rd} {l : Bs} (h : r.at l) : match pNum 1 1 99 l with
  | some (n, q) => (rdUser r).1 = n ∧ (rdUser r).2.at q
  | none => (rdUser r).2.bad := rdNum_at (w := 1) (lo := 1) (hi := 99) h
theorem rdTime_at {r : Rd} {l : Bs} (h : r.at l) : match pNum 4 0 maxT l with
  | some (n, q) => (rdTime r).1 = n ∧ (rdTime r).2.at q
  | none => (rdTime r).2.bad := by
 have ht := rdFour_at h;unfold pNum rdTime;by_cases c : 4 ≤ l.length
 ·rw [if_pos c] at ht;rw [ht.1];by_cases d : numL (l.take 4) ≤ maxT
  ·rw [if_pos ⟨c, Nat.zero_le _, d⟩, decide_eq_true d];exact ⟨rfl, rdMust_yes ht.2⟩
  ·rw [if_neg (fun x => d x.2.2), decide_eq_false d];exact rdMust_no _
 ·rw [if_neg c] at ht;rw [if_neg (fun x => c x.1)];exact rdMust_bad ht
theorem rdStr_at {r : Rd} {l : Bs} (lo hi : Nat) (h : r.at l) : match pTxt lo hi l with
  | some (s, q) => (rdStr r).1 = s ∧ (rdMust (decide (lo ≤ (rdStr r).1.length ∧ (rdStr r).1.length ≤ hi)) (rdStr r).2).at q
  | none => (rdMust (decide (lo ≤ (rdStr r).1.length ∧ (rdStr r).1.length ≤ hi)) (rdStr r).2).bad := by
 have h1 := rdText_at (n := 1) h;unfold pTxt pNum rdStr;by_cases c : 1 ≤ l.length
 ·rw [if_pos c] at h1;have e : (rdOne r).1 = numL (l.take 1) := congrArg numL h1.1;have h2 := rdText_at (n := (rdOne r).1) h1.2;rw [e] at h2 ⊢;by_cases d : lo ≤ numL (l.take 1) ∧ numL (l.take 1) ≤ hi
  ·rw [if_pos ⟨c, d⟩];simp only;split at h2
   ·rename_i f;rw [if_pos f];have e2 : (rdText (numL (l.take 1)) (rdOne r).2).1 = (l.drop 1).take (numL (l.take 1)) := h2.1;rw [e2, List.length_take_of_le f, decide_eq_true d];exact ⟨rfl, rdMust_yes h2.2⟩
   ·rename_i f;rw [if_neg f];exact rdMust_bad h2
  ·rw [if_neg (fun x => d x.2)];simp only;split at h2
   ·rename_i f;have e2 : (rdText (numL (l.take 1)) (rdOne r).2).1 = (l.drop 1).take (numL (l.take 1)) := h2.1;rw [e2, List.length_take_of_le f, decide_eq_false d];exact rdMust_no _
   ·exact rdMust_bad h2
 ·rw [if_neg c] at h1;rw [if_neg (fun x => c x.1)];exact rdMust_bad (rdText_bad h1)
theorem rdName_at {r : Rd} {l : Bs} (h : r.at l) : match pTxt 1 8 l with
  | some (n, q) => (rdName r).1 = n ∧ (rdName r).2.at q
  | none => (rdName r).2.bad := rdStr_at 1 8 h
theorem rdVal_at {r : Rd} {l : Bs} (h : r.at l) : match pTxt 0 8 l with
  | some (n, q) => (rdVal r).1 = n ∧ (rdVal r).2.at q
  | none => (rdVal r).2.bad := by
 have := rdStr_at 0 8 h;have e : decide (0 ≤ (rdStr r).1.length ∧ (rdStr r).1.length ≤ 8) = decide ((rdStr r).1.length ≤ 8) := decide_eq_decide.2 (by omega);rw [e] at this;exact this
theorem rdCount_at {most : Nat} {r : Rd} {l : Bs} (h : r.at l) : match pNum 1 0 most l with
  | some (n, q) => (rdCount most r).1 = n ∧ (rdCount most r).2.at q
  | none => (rdCount most r).2.bad := by
 have := rdNum_at (w := 1) (lo := 0) (hi := most) h;have e : decide (0 ≤ numL (rdText 1 r).1 ∧ numL (rdText 1 r).1 ≤ most) = decide (numL (rdText 1 r).1 ≤ most) := decide_eq_decide.2 (by omega);rw [e] at this;split
 ·rename_i n q hq;rw [hq] at this;have := this;obtain ⟨_, h0, h1, _⟩ := pNum_some hq;refine ⟨?_, this.2⟩;show min (numL (rdText 1 r).1) most = n;rw [this.1]; omega
 ·rename_i hq;rw [hq] at this;exact this
theorem rdId_bad {r : Rd} (h : r.bad) : (rdId r).2.bad := rdMust_bad (rdText_bad h)
theorem rdUser_bad {r : Rd} (h : r.bad) : (rdUser r).2.bad := rdMust_bad (rdText_bad h)
theorem rdTime_bad {r : Rd} (h : r.bad) : (rdTime r).2.bad := rdMust_bad (rdFour_bad h)
theorem rdName_bad {r : Rd} (h : r.bad) : (rdName r).2.bad := rdMust_bad (rdText_bad (rdText_bad h))
theorem rdVal_bad {r : Rd} (h : r.bad) : (rdVal r).2.bad := rdMust_bad (rdText_bad (rdText_bad h))
theorem rdCount_bad {m : Nat} {r : Rd} (h : r.bad) : (rdCount m r).2.bad := rdMust_bad (rdText_bad h)
end Go.Proofs.YtmnajomkfnkmeaaGreatDoor
namespace Go.Proofs.YtmnajomkfnkmeaaGreatDoor
open Op (bytesLess)
theorem bl_irrefl : ∀ a : Bs, bytesLess a a = false
 | [] => rfl
 | x :: a => by simp [bytesLess, bl_irrefl a, UInt8.lt_irrefl]
theorem bl_trans : ∀ a b c : Bs, bytesLess a b = true → bytesLess b c = true → bytesLess a c = true
 | _, [], _, h, _ => by simp [bytesLess] at h
 | _, _ :: _, [], _, h => by simp [bytesLess] at h
 | [], _ :: _, _ :: _, _, _ => rfl
 | x :: a, y :: b, z :: c, h, k => by
  simp only [bytesLess, Bool.or_eq_true, decide_eq_true_eq, Bool.and_eq_true, beq_iff_eq] at h k ⊢;rcases h with h | ⟨rfl, h⟩
  ·rcases k with k | ⟨rfl, k⟩
   ·exact Or.inl (UInt8.lt_trans h k)
   ·exact Or.inl h
  ·rcases k with k | ⟨rfl, k⟩
   ·exact Or.inl k
   ·exact Or.inr ⟨rfl, bl_trans a b c h k⟩
theorem bl_total : ∀ a b : Bs, a = b ∨ bytesLess a b = true ∨ bytesLess b a = true
 | [], [] => Or.inl rfl
 | [], _ :: _ => Or.inr (Or.inl rfl)
 | _ :: _, [] => Or.inr (Or.inr rfl)
 | x :: a, y :: b => by
  have tri : x < y ∨ x = y ∨ y < x := by
   rcases Nat.lt_trichotomy x.toNat y.toNat with h | h | h
   ·exact Or.inl (UInt8.lt_iff_toNat_lt.2 h)
   ·exact Or.inr (Or.inl (UInt8.toNat_inj.1 h))
   ·exact Or.inr (Or.inr (UInt8.lt_iff_toNat_lt.2 h))
  rcases tri with h | h | h
  ·exact Or.inr (Or.inl (by simp [bytesLess, h]))
  ·subst h;rcases bl_total a b with h | h | h
   ·exact Or.inl (by rw [h])
   ·exact Or.inr (Or.inl (by simp [bytesLess, h]))
   ·exact Or.inr (Or.inr (by simp [bytesLess, h]))
  ·exact Or.inr (Or.inr (by simp [bytesLess, h]))
theorem bl_ne {a b : Bs} (h : bytesLess a b = true) : a ≠ b := fun e => by rw [e, bl_irrefl] at h; cases h
theorem bl_asymm {a b : Bs} (h : bytesLess a b = true) : bytesLess b a = false := by
 cases k : bytesLess b a with
 | false => rfl
 | true => have := bl_trans a b a h k; rw [bl_irrefl] at this; cases this
def rising (l : List (Bs × Bs)) : Prop := l.Pairwise fun a b => bytesLess a.1 b.1 = true
theorem setVal_names (n v : Bs) (l : List (Bs × Bs)) : ∀ x ∈ setVal n v l, x = (n, v) ∨ x ∈ l := by
 induction l with
 | nil => simp [setVal]
 | cons y l ih =>
  obtain ⟨m, u⟩ := y;unfold setVal;split
  ·intro x hx; simp at hx ⊢; rcases hx with h | h <;> simp [h]
  split
  ·intro x hx;simp only [List.mem_cons] at hx ⊢;rcases hx with h | h
   ·exact Or.inr (Or.inl h)
   ·rcases ih x h with h | h
    ·exact Or.inl h
    ·exact Or.inr (Or.inr h)
  ·intro x hx; simp at hx ⊢; rcases hx with h | h | h <;> simp [h]
theorem setVal_rising (n v : Bs) {l : List (Bs × Bs)} (h : rising l) : rising (setVal n v l) := by
 induction l with
 | nil => simp [setVal, rising]
 | cons y l ih =>
  obtain ⟨m, u⟩ := y;obtain ⟨h1, h2⟩ := List.pairwise_cons.1 h;unfold setVal;split
  ·rename_i e; subst e; exact List.pairwise_cons.2 ⟨h1, h2⟩
  split
  ·rename_i e;refine List.pairwise_cons.2 ⟨fun x hx => ?_, ih h2⟩;rcases setVal_names n v l x hx with rfl | hx
   ·exact e
   ·exact h1 x hx
  ·rename_i e1 e2;have lt : bytesLess n m = true := by
    rcases bl_total m n with h | h | h
    ·exact absurd h e1
    ·exact absurd h e2
    ·exact h
   refine List.pairwise_cons.2 ⟨fun x hx => ?_, h⟩;rcases List.mem_cons.1 hx with rfl | hx
   ·exact lt
   ·exact bl_trans _ _ _ lt (h1 x hx)
theorem setVal_length (n v : Bs) (l : List (Bs × Bs)) : (setVal n v l).length ≤ l.length + 1 ∧ l.length ≤ (setVal n v l).length := by
 induction l with
 | nil => simp [setVal]
 | cons y l ih =>
  obtain ⟨m, u⟩ := y;unfold setVal;split
  ·simp
  split
  ·simp only [List.length_cons]; omega
  ·simp
theorem setVal_snoc (n v : Bs) {l : List (Bs × Bs)} (h : ∀ x ∈ l, bytesLess x.1 n = true) : setVal n v l = l ++ [(n, v)] := by
 induction l with
 | nil => rfl
 | cons y l ih =>
  obtain ⟨m, u⟩ := y;have hm := h (m, u) (by simp);unfold setVal;rw [if_neg (bl_ne hm), if_pos hm, ih (fun x hx => h x (by simp [hx]))]; rfl
theorem setVal_has (n v : Bs) {l : List (Bs × Bs)} (hr : rising l) (h : (valAt n l).isSome = true) : (setVal n v l).length = l.length := by
 induction l with
 | nil => simp [valAt] at h
 | cons y l ih =>
  obtain ⟨m, u⟩ := y;unfold setVal;unfold valAt at h;split
  ·simp
  ·rename_i e;rw [if_neg e] at h;have hm : bytesLess m n = true := by
    have : ∃ x ∈ l, x.1 = n := by
     clear ih e hr
     induction l with
     | nil => simp [valAt] at h
     | cons z l ih2 =>
      obtain ⟨k, j⟩ := z;unfold valAt at h;by_cases e : k = n
      ·exact ⟨(k, j), by simp, e⟩
      ·rw [if_neg e] at h;obtain ⟨x, hx, hn⟩ := ih2 h;exact ⟨x, by simp [hx], hn⟩
    obtain ⟨x, hx, rfl⟩ := this;exact (List.pairwise_cons.1 hr).1 x hx
   rw [if_pos hm];simp [ih (List.pairwise_cons.1 hr).2 h]
def valOk (x : Bs × Bs) : Prop := 1 ≤ x.1.length ∧ x.1.length ≤ 8 ∧ x.2.length ≤ 8
structure Sess.wf (x : Sess) : Prop where
 u0 : 1 ≤ x.user
 u1 : x.user ≤ 99
 c1 : x.created ≤ maxT
 s1 : x.used ≤ maxT
 few : x.vals.length ≤ 3
 rise : rising x.vals
 each : ∀ y ∈ x.vals, valOk y
structure Tab.wf (T : Tab) : Prop where
 each : ∀ i x, T i = some x → i < 4096 ∧ x.wf
 few : T.live ≤ 12
def valsB (l : List (Bs × Bs)) : Bs := (l.map fun x => tB x.1 ++ tB x.2).flatten
def sessB (i : Nat) (x : Sess) : Bs := nB 2 i ++ nB 1 x.user ++ nB 4 x.created ++ nB 4 x.used ++ nB 1 x.vals.length ++ valsB x.vals
def Tab.rows (T : Tab) (n : Nat) : List (Nat × Sess) := (List.range n).filterMap fun i => (T i).map fun x => (i, x)
def rowsB (l : List (Nat × Sess)) : Bs := (l.map fun x => sessB x.1 x.2).flatten
def snapB (T : Tab) : Bs := nB 1 T.live ++ rowsB (T.rows 4096)
theorem rows_succ (T : Tab) (n : Nat) : T.rows (n + 1) = T.rows n ++ (match T n with | some x => [(n, x)] | none => []) := by
 unfold Tab.rows;rw [List.range_succ, List.filterMap_append];cases h : T n <;> simp [h]
theorem rows_length (T : Tab) (n : Nat) : (T.rows n).length = (List.range n).countP fun i => (T i).isSome := by
 induction n with
 | zero => rfl
 | succ n ih =>
  rw [rows_succ, List.length_append, ih, List.range_succ, List.countP_append];cases h : T n <;> simp [h]
theorem live_rows (T : Tab) : T.live = (T.rows 4096).length := (rows_length T 4096).symm
theorem rows_mem {T : Tab} {n i : Nat} {x : Sess} (h : (i, x) ∈ T.rows n) : i < n ∧ T i = some x := by
 unfold Tab.rows at h;simp only [List.mem_filterMap, List.mem_range, Option.map_eq_some_iff, Prod.mk.injEq] at h;obtain ⟨j, hj, y, hy, rfl, rfl⟩ := h;exact ⟨hj, hy⟩
theorem rows_rise (T : Tab) (n : Nat) : (T.rows n).Pairwise fun a b => a.1 < b.1 := by
 induction n with
 | zero => simp [Tab.rows]
 | succ n ih =>
  rw [rows_succ, List.pairwise_append];refine ⟨ih, ?_, ?_⟩
  ·cases T n <;> simp
  ·intro a ha b hb;obtain ⟨i, x⟩ := a;have hi := (rows_mem ha).1;cases h : T n with
   | none => rw [h] at hb; simp at hb
   | some y => rw [h] at hb; simp at hb; subst hb; exact hi
def tabOf (l : List (Nat × Sess)) : Tab := l.foldl (fun T x => T.set x.1 (some x.2)) noTab
theorem fold_set (l : List (Nat × Sess)) (T : Tab) (i : Nat) (h : l.Pairwise fun a b => a.1 < b.1) :
  l.foldl (fun T x => T.set x.1 (some x.2)) T i = (match l.find? (fun x => x.1 == i) with | some x => some x.2 | none => T i) := by
 induction l generalizing T with
 | nil => rfl
 | cons y l ih =>
  obtain ⟨h1, h2⟩ := List.pairwise_cons.1 h;rw [List.foldl_cons, ih _ h2, List.find?_cons];by_cases e : y.1 = i
  ·have : l.find? (fun x => x.1 == i) = none := by
    rw [List.find?_eq_none];intro x hx;have := h1 x hx;simp; omega
   simp [this, e, Tab.set]
  ·rw [show (y.1 == i) = false by simp [e]];cases l.find? (fun x => x.1 == i) with
   | some x => rfl
   | none => simp only [Tab.set]; rw [if_neg (fun h => e h.symm)]
theorem tabOf_rows {T : Tab} (h : ∀ i x, T i = some x → i < 4096) : tabOf (T.rows 4096) = T := by
 funext i
 unfold tabOf;rw [fold_set _ _ _ (rows_rise T 4096)];cases hf : (T.rows 4096).find? (fun x => x.1 == i) with
 | some x =>
  obtain ⟨j, y⟩ := x;have hm := List.mem_of_find?_eq_some hf;have hj := List.find?_some hf;simp only [beq_iff_eq] at hj;subst hj;exact (rows_mem hm).2.symm
 | none =>
  cases hT : T i with
  | none => rfl
  | some x =>
   exfalso;rw [List.find?_eq_none] at hf;have : (i, x) ∈ T.rows 4096 := by
    unfold Tab.rows;simp only [List.mem_filterMap, List.mem_range, Option.map_eq_some_iff, Prod.mk.injEq];exact ⟨i, h i x hT, x, hT, rfl, rfl⟩
   have := hf _ this;simp at this
theorem rows_tabOf {l : List (Nat × Sess)} (hr : l.Pairwise fun a b => a.1 < b.1) (hb : ∀ x ∈ l, x.1 < 4096) : (tabOf l).rows 4096 = l := by
 have key : ∀ n, (tabOf l).rows n = l.filter fun x => decide (x.1 < n) := by
  intro n
  induction n with
  | zero => simp [Tab.rows]
  | succ n ih =>
   rw [rows_succ, ih];have hT : tabOf l n = (match l.find? (fun x => x.1 == n) with | some x => some x.2 | none => none) := fold_set l noTab n hr;have split : ∀ m : List (Nat × Sess), m.Pairwise (fun a b => a.1 < b.1) →
     m.filter (fun x => decide (x.1 < n + 1)) = m.filter (fun x => decide (x.1 < n)) ++ (match m.find? (fun x => x.1 == n) with | some x => [(n, x.2)] | none => []) := by
    intro m
    induction m with
    | nil => intro _; rfl
    | cons y m ih =>
     intro hp;obtain ⟨h1, h2⟩ := List.pairwise_cons.1 hp;obtain ⟨j, s⟩ := y;rcases Nat.lt_trichotomy j n with e | e | e
     ·rw [List.filter_cons_of_pos (by simp; omega), List.filter_cons_of_pos (by simp; omega), ih h2, List.find?_cons, show (j == n) = false by simp; omega];rfl
     ·subst e;have e1 : m.filter (fun x => decide (x.1 < j + 1)) = [] := by
       rw [List.filter_eq_nil_iff]; intro x hx; have := h1 x hx; simp; omega
      have e2 : m.filter (fun x => decide (x.1 < j)) = [] := by
       rw [List.filter_eq_nil_iff]; intro x hx; have := h1 x hx; simp; omega
      rw [List.filter_cons_of_pos (by simp), List.filter_cons_of_neg (by simp), e1, e2, List.find?_cons, show (j == j) = true by simp];rfl
     ·have e1 : m.filter (fun x => decide (x.1 < n + 1)) = [] := by
       rw [List.filter_eq_nil_iff]; intro x hx; have := h1 x hx; simp at this ⊢; omega
      have e2 : m.filter (fun x => decide (x.1 < n)) = [] := by
       rw [List.filter_eq_nil_iff]; intro x hx; have := h1 x hx; simp at this ⊢; omega
      have e3 : m.find? (fun x => x.1 == n) = none := by
       rw [List.find?_eq_none]; intro x hx; have := h1 x hx; simp at this ⊢; omega
      rw [List.filter_cons_of_neg (by simp; omega), List.filter_cons_of_neg (by simp; omega), e1, e2, List.find?_cons, show (j == n) = false by simp; omega, e3];rfl
   rw [split l hr, hT];cases l.find? (fun x => x.1 == n) <;> rfl
 rw [key];rw [List.filter_eq_self];intro x hx;simp [hb x hx]
def pVals : Nat → Bs → Bs → Option (List (Bs × Bs) × Bs)
 | 0, _, l => some ([], l)
 | k + 1, last, l => (pTxt 1 8 l).bind fun a => (pTxt 0 8 a.2).bind fun b => if bytesLess last a.1 then (pVals k a.1 b.2).bind fun r => some ((a.1, b.1) :: r.1, r.2) else none
def pSess (l : Bs) : Option ((Nat × Sess) × Bs) :=
 (pNum 2 0 4095 l).bind fun a => (pNum 1 1 99 a.2).bind fun b => (pNum 4 0 maxT b.2).bind fun c => (pNum 4 0 maxT c.2).bind fun d => (pNum 1 0 3 d.2).bind fun e =>
  (pVals e.1 [] e.2).bind fun f => some ((a.1, ⟨b.1, c.1, d.1, f.1⟩), f.2)
def pSesss : Nat → Nat → Bs → Option (List (Nat × Sess) × Bs)
 | 0, _, l => some ([], l)
 | k + 1, lo, l => (pSess l).bind fun a => if lo ≤ a.1.1 then (pSesss k (a.1.1 + 1) a.2).bind fun r => some (a.1 :: r.1, r.2) else none
def parseSnap (l : Bs) : Option Tab := (pNum 1 0 12 l).bind fun a => (pSesss a.1 0 a.2).bind fun r => if r.2 = [] then some (tabOf r.1) else none
theorem pVals_some {k : Nat} {last l r : Bs} {vs : List (Bs × Bs)} (h : pVals k last l = some (vs, r)) :
  l = valsB vs ++ r ∧ vs.length = k ∧ (∀ x ∈ vs, bytesLess last x.1 = true) ∧ rising vs ∧ ∀ x ∈ vs, valOk x := by
 induction k generalizing last l vs with
 | zero =>
  simp only [pVals, Option.some.injEq, Prod.mk.injEq] at h;obtain ⟨rfl, rfl⟩ := h;simp [valsB, rising]
 | succ k ih =>
  simp only [pVals, Option.bind_eq_some_iff] at h;obtain ⟨⟨n, l1⟩, h1, ⟨v, l2⟩, h2, h⟩ := h;split at h
  ·rename_i hlt;simp only [Option.bind_eq_some_iff, Option.some.injEq, Prod.mk.injEq] at h;obtain ⟨⟨ws, l3⟩, h3, rfl, rfl⟩ := h;obtain ⟨e3, hl, hlast, hrise, hok⟩ := ih h3;obtain ⟨e1, n0, n1⟩ := pTxt_some h1;obtain ⟨e2, v0, v1⟩ := pTxt_some h2;simp only at e1 e2 e3 n0 n1 v0 v1 hlt hlast;refine ⟨?_, by simp [hl], ?_, ?_, ?_⟩
   ·rw [e1, e2, e3]; simp [valsB]
   ·intro x hx;rcases List.mem_cons.1 hx with rfl | hx
    ·exact hlt
    ·exact bl_trans _ _ _ hlt (hlast x hx)
   ·exact List.pairwise_cons.2 ⟨hlast, hrise⟩
   ·intro x hx;rcases List.mem_cons.1 hx with rfl | hx
    ·exact ⟨n0, n1, v1⟩
    ·exact hok x hx
  ·cases h
theorem pVals_of (vs : List (Bs × Bs)) (last r : Bs) (h1 : ∀ x ∈ vs, bytesLess last x.1 = true) (h2 : rising vs) (h3 : ∀ x ∈ vs, valOk x) : pVals vs.length last (valsB vs ++ r) = some (vs, r) := by
 induction vs generalizing last with
 | nil => rfl
 | cons y vs ih =>
  obtain ⟨n, v⟩ := y;obtain ⟨a0, a1, a2⟩ := h3 (n, v) (by simp);obtain ⟨r1, r2⟩ := List.pairwise_cons.1 h2;simp only at a0 a1 a2;have e : valsB ((n, v) :: vs) ++ r = tB n ++ (tB v ++ (valsB vs ++ r)) := by simp [valsB]
  rw [e];simp only [List.length_cons, pVals];rw [pTxt_of _ _ a0 a1 (by omega), Option.bind_some, pTxt_of _ _ (by omega) a2 (by omega), Option.bind_some, if_pos (h1 (n, v) (by simp)), ih n r1 r2 (fun x hx => h3 x (by simp [hx]))];rfl
theorem pSess_some {l r : Bs} {i : Nat} {x : Sess} (h : pSess l = some ((i, x), r)) : l = sessB i x ++ r ∧ i < 4096 ∧ x.wf := by
 simp only [pSess, Option.bind_eq_some_iff, Option.some.injEq, Prod.mk.injEq] at h;obtain ⟨⟨a, l1⟩, h1, ⟨b, l2⟩, h2, ⟨c, l3⟩, h3, ⟨d, l4⟩, h4, ⟨e, l5⟩, h5, ⟨f, l6⟩, h6, ⟨rfl, rfl⟩, rfl⟩ := h;obtain ⟨e1, _, a1, _⟩ := pNum_some h1;obtain ⟨e2, b0, b1, _⟩ := pNum_some h2;obtain ⟨e3, _, c1, _⟩ := pNum_some h3;obtain ⟨e4, _, d1, _⟩ := pNum_some h4;obtain ⟨e5, _, f1, _⟩ := pNum_some h5;obtain ⟨e6, hl, _, hr, hok⟩ := pVals_some h6;simp only at e1 e2 e3 e4 e5 e6 a1 b0 b1 c1 d1 f1 hl hr hok;refine ⟨?_, by omega, ⟨b0, b1, c1, d1, by rw [hl]; exact f1, hr, hok⟩⟩;rw [e1, e2, e3, e4, e5, e6];simp [sessB, hl]
theorem pSess_of (i : Nat) (x : Sess) (r : Bs) (hi : i < 4096) (hx : x.wf) : pSess (sessB i x ++ r) = some ((i, x), r) := by
 obtain ⟨u, c, s, vs⟩ := x;obtain ⟨u0, u1, c1, s1, few, rise, each⟩ := hx;simp only [maxT] at u0 u1 c1 s1 few rise each;simp only [sessB, List.append_assoc, pSess];rw [pNum_of _ (by omega) (by omega) (by omega), Option.bind_some, pNum_of _ (by omega) (by omega) (by omega), Option.bind_some, pNum_of _ (by omega) (by unfold maxT; omega) (by omega), Option.bind_some,
  pNum_of _ (by omega) (by unfold maxT; omega) (by omega), Option.bind_some, pNum_of _ (by omega) (by omega) (by omega), Option.bind_some]
 simp only;rw [pVals_of vs [] r (fun x hx => by
  have := (each x hx).1
  cases h : x.1 with
  | nil => rw [h] at this; simp at this
  | cons a b => rfl) rise each]
 rfl
theorem pSesss_some {k lo : Nat} {l r : Bs} {L : List (Nat × Sess)} (h : pSesss k lo l = some (L, r)) :
  l = rowsB L ++ r ∧ L.length = k ∧ (∀ x ∈ L, lo ≤ x.1) ∧ L.Pairwise (fun a b => a.1 < b.1) ∧ ∀ x ∈ L, x.1 < 4096 ∧ x.2.wf := by
 induction k generalizing lo l L with
 | zero =>
  simp only [pSesss, Option.some.injEq, Prod.mk.injEq] at h;obtain ⟨rfl, rfl⟩ := h;simp [rowsB]
 | succ k ih =>
  simp only [pSesss, Option.bind_eq_some_iff] at h;obtain ⟨⟨⟨i, x⟩, l1⟩, h1, h⟩ := h;split at h
  ·rename_i hlo;simp only [Option.bind_eq_some_iff, Option.some.injEq, Prod.mk.injEq] at h;obtain ⟨⟨M, l2⟩, h2, rfl, rfl⟩ := h;obtain ⟨e2, hl, hlo2, hr, hok⟩ := ih h2;obtain ⟨e1, hi, hx⟩ := pSess_some h1;simp only at e1 e2 hlo hlo2;refine ⟨?_, by simp [hl], ?_, ?_, ?_⟩
   ·rw [e1, e2]; simp [rowsB]
   ·intro y hy;rcases List.mem_cons.1 hy with rfl | hy
    ·exact hlo
    ·have := hlo2 y hy; omega
   ·exact List.pairwise_cons.2 ⟨fun y hy => by have := hlo2 y hy; omega, hr⟩
   ·intro y hy;rcases List.mem_cons.1 hy with rfl | hy
    ·exact ⟨hi, hx⟩
    ·exact hok y hy
  ·cases h
theorem pSesss_of (L : List (Nat × Sess)) (lo : Nat) (r : Bs) (h1 : ∀ x ∈ L, lo ≤ x.1) (h2 : L.Pairwise fun a b => a.1 < b.1) (h3 : ∀ x ∈ L, x.1 < 4096 ∧ x.2.wf) : pSesss L.length lo (rowsB L ++ r) = some (L, r) := by
 induction L generalizing lo with
 | nil => rfl
 | cons y L ih =>
  obtain ⟨i, x⟩ := y;obtain ⟨hi, hx⟩ := h3 (i, x) (by simp);obtain ⟨r1, r2⟩ := List.pairwise_cons.1 h2;have e : rowsB ((i, x) :: L) ++ r = sessB i x ++ (rowsB L ++ r) := by simp [rowsB]
  rw [e];simp only [List.length_cons, pSesss];rw [pSess_of i x _ hi hx, Option.bind_some, if_pos (h1 (i, x) (by simp)), ih (i + 1) (fun y hy => r1 y hy) r2 (fun y hy => h3 y (by simp [hy]))];rfl
theorem parseSnap_of {T : Tab} (h : T.wf) : parseSnap (snapB T) = some T := by
 have hl := live_rows T;have hf := h.few;unfold parseSnap snapB;rw [pNum_of _ (by omega) hf (by omega), Option.bind_some];have := pSesss_of (T.rows 4096) 0 [] (fun x _ => Nat.zero_le _) (rows_rise T 4096) (fun x hx => by
  obtain ⟨i, y⟩ := x
  have := rows_mem hx
  exact h.each i y this.2)
 rw [List.append_nil] at this;simp only;rw [hl, this, Option.bind_some, if_pos rfl, tabOf_rows (fun i x hx => (h.each i x hx).1)]
theorem parseSnap_some {p : Bs} {T : Tab} (h : parseSnap p = some T) : T.wf ∧ snapB T = p := by
 simp only [parseSnap, Option.bind_eq_some_iff] at h;obtain ⟨⟨n, l1⟩, h1, ⟨L, l2⟩, h2, h⟩ := h;split at h
 ·rename_i he;simp only at he;subst he;obtain rfl := Option.some.inj h;obtain ⟨e1, _, n1, _⟩ := pNum_some h1;obtain ⟨e2, hl, _, hr, hok⟩ := pSesss_some h2;simp only at e1 e2 n1 hl;have hrows := rows_tabOf hr (fun x hx => (hok x hx).1);have hlive : (tabOf L).live = n := by rw [live_rows, hrows, hl]
  refine ⟨⟨fun i x hx => ?_, by rw [hlive]; exact n1⟩, ?_⟩
  ·have hT : tabOf L i = (match L.find? (fun x => x.1 == i) with | some x => some x.2 | none => none) := fold_set L noTab i hr;rw [hT] at hx;cases hf : L.find? (fun x => x.1 == i) with
   | none => rw [hf] at hx; cases hx
   | some y =>
    rw [hf] at hx;obtain rfl := Option.some.inj hx;have hm := List.mem_of_find?_eq_some hf;have hj := List.find?_some hf;simp only [beq_iff_eq] at hj;subst hj;exact hok y hm
  ·unfold snapB;rw [hlive, hrows, e1, e2]; simp
 ·cases h
end Go.Proofs.YtmnajomkfnkmeaaGreatDoor
namespace Go.Proofs.YtmnajomkfnkmeaaGreatDoor
open Op (bytesLess)
def gVals : Nat → Bs → Rd → List (Bs × Bs) → List (Bs × Bs) × Rd
 | 0, _, r, vs => (vs, r)
 | k + 1, last, r, vs => gVals k (rdName r).1 (rdMust (bytesLess last (rdName r).1) (rdVal (rdName r).2).2) (setVal (rdName r).1 (rdVal (rdName r).2).1 vs)
def gTail (i u c d : Nat) (e : Nat × Rd) : (Nat × Sess) × Rd := ((i, ⟨u, c, d, (gVals e.1 [] e.2 []).1⟩), (gVals e.1 [] e.2 []).2)
def gS4 (i u c : Nat) (d : Nat × Rd) : (Nat × Sess) × Rd := gTail i u c d.1 (rdCount 3 d.2)
def gS3 (i u : Nat) (c : Nat × Rd) : (Nat × Sess) × Rd := gS4 i u c.1 (rdTime c.2)
def gS2 (i : Nat) (u : Nat × Rd) : (Nat × Sess) × Rd := gS3 i u.1 (rdTime u.2)
def gS1 (i : Nat × Rd) : (Nat × Sess) × Rd := gS2 i.1 (rdUser i.2)
def gSess (r : Rd) : (Nat × Sess) × Rd := gS1 (rdId r)
def gSesss : Nat → Nat → Rd → Tab → Tab × Rd
 | 0, _, r, T => (T, r)
 | k + 1, lo, r, T => gSesss k ((gSess r).1.1 + 1) (rdMust (decide (lo ≤ (gSess r).1.1)) (gSess r).2) (T.set (gSess r).1.1 (some (gSess r).1.2))
def gSnap (p : Bs) : Option Tab :=
 if (gSesss (rdCount 12 ⟨p, false, false⟩).1 0 (rdCount 12 ⟨p, false, false⟩).2 noTab).2.fit then some (gSesss (rdCount 12 ⟨p, false, false⟩).1 0 (rdCount 12 ⟨p, false, false⟩).2 noTab).1 else none
theorem gVals_bad (k : Nat) (last : Bs) (r : Rd) (vs : List (Bs × Bs)) (h : r.bad) : (gVals k last r vs).2.bad := by
 induction k generalizing last r vs with
 | zero => exact h
 | succ k ih => exact ih _ _ _ (rdMust_bad (rdVal_bad (rdName_bad h)))
theorem gVals_at (k : Nat) (last : Bs) (r : Rd) (l : Bs) (vs : List (Bs × Bs)) (h : r.at l) : match pVals k last l with
  | some (ws, q) => (gVals k last r vs).1 = ws.foldl (fun a x => setVal x.1 x.2 a) vs ∧ (gVals k last r vs).2.at q
  | none => (gVals k last r vs).2.bad := by
 induction k generalizing last r l vs with
 | zero => exact ⟨rfl, h⟩
 | succ k ih =>
  have h1 := rdName_at h;simp only [pVals];unfold gVals;cases e1 : pTxt 1 8 l with
  | none =>
   rw [e1] at h1;exact gVals_bad _ _ _ _ (rdMust_bad (rdVal_bad h1))
  | some a =>
   obtain ⟨n, l1⟩ := a;rw [e1] at h1;obtain ⟨hn, h1⟩ := h1;rw [Option.bind_some];have h2 := rdVal_at h1;cases e2 : pTxt 0 8 l1 with
   | none =>
    rw [e2] at h2;exact gVals_bad _ _ _ _ (rdMust_bad h2)
   | some b =>
    obtain ⟨v, l2⟩ := b;rw [e2] at h2;obtain ⟨hv, h2⟩ := h2;rw [Option.bind_some, hn, hv];simp only;cases e3 : bytesLess last n with
    | false => exact gVals_bad _ _ _ _ (rdMust_no _)
    | true =>
     rw [if_pos rfl];have h3 := ih n (rdMust true (rdVal (rdName r).2).2) l2 (setVal n v vs) (rdMust_yes h2);cases e4 : pVals k n l2 with
     | none => rw [e4] at h3; exact h3
     | some q =>
      obtain ⟨ws, q⟩ := q;rw [e4] at h3;exact h3
theorem gTail_bad {i u c d : Nat} {e : Nat × Rd} (h : e.2.bad) : (gTail i u c d e).2.bad := by unfold gTail; exact gVals_bad _ _ _ _ h
theorem gS4_bad {i u c : Nat} {d : Nat × Rd} (h : d.2.bad) : (gS4 i u c d).2.bad := by unfold gS4; exact gTail_bad (rdCount_bad h)
theorem gS3_bad {i u : Nat} {c : Nat × Rd} (h : c.2.bad) : (gS3 i u c).2.bad := by unfold gS3; exact gS4_bad (rdTime_bad h)
theorem gS2_bad {i : Nat} {u : Nat × Rd} (h : u.2.bad) : (gS2 i u).2.bad := by unfold gS2; exact gS3_bad (rdTime_bad h)
theorem gS1_bad {i : Nat × Rd} (h : i.2.bad) : (gS1 i).2.bad := by unfold gS1; exact gS2_bad (rdUser_bad h)
theorem gSess_bad {r : Rd} (h : r.bad) : (gSess r).2.bad := by unfold gSess; exact gS1_bad (rdId_bad h)
theorem foldl_setVal (ws vs : List (Bs × Bs)) (h : rising (vs ++ ws)) : ws.foldl (fun a x => setVal x.1 x.2 a) vs = vs ++ ws := by
 induction ws generalizing vs with
 | nil => simp
 | cons y ws ih =>
  have hy : ∀ x ∈ vs, bytesLess x.1 y.1 = true := fun x hx => (List.pairwise_append.1 h).2.2 x hx y (by simp);rw [List.foldl_cons, setVal_snoc _ _ hy, ih (vs ++ [(y.1, y.2)]) (by simpa using h)];simp
theorem gSess_at {r : Rd} {l : Bs} (h : r.at l) : match pSess l with
  | some (x, q) => (gSess r).1 = x ∧ (gSess r).2.at q
  | none => (gSess r).2.bad := by
 simp only [pSess];have h1 := rdId_at h;unfold gSess;generalize rdId r = a at h1 ⊢;cases e1 : pNum 2 0 4095 l with
 | none => rw [e1] at h1; exact gS1_bad h1
 | some z =>
  rw [e1] at h1;rw [Option.bind_some];have h2 := rdUser_at h1.2;unfold gS1;generalize rdUser a.2 = b at h2 ⊢;cases e2 : pNum 1 1 99 z.2 with
  | none => rw [e2] at h2; exact gS2_bad h2
  | some y =>
   rw [e2] at h2;rw [Option.bind_some];have h3 := rdTime_at h2.2;unfold gS2;generalize rdTime b.2 = c at h3 ⊢;cases e3 : pNum 4 0 maxT y.2 with
   | none => rw [e3] at h3; exact gS3_bad h3
   | some x =>
    rw [e3] at h3;rw [Option.bind_some];have h4 := rdTime_at h3.2;unfold gS3;generalize rdTime c.2 = d at h4 ⊢;cases e4 : pNum 4 0 maxT x.2 with
    | none => rw [e4] at h4; exact gS4_bad h4
    | some v =>
     rw [e4] at h4;rw [Option.bind_some];have h5 := rdCount_at (most := 3) h4.2;unfold gS4;generalize rdCount 3 d.2 = e at h5 ⊢;cases e5 : pNum 1 0 3 v.2 with
     | none => rw [e5] at h5; exact gTail_bad h5
     | some u =>
      rw [e5] at h5;rw [Option.bind_some];unfold gTail;rw [h5.1, h4.1, h3.1, h2.1, h1.1];have h6 := gVals_at u.1 [] _ u.2 [] h5.2;generalize gVals u.1 [] e.2 [] = g at h6 ⊢;cases e6 : pVals u.1 [] u.2 with
      | none => rw [e6] at h6; exact h6
      | some f =>
       obtain ⟨f, l6⟩ := f;rw [e6] at h6;obtain ⟨_, _, _, hr, _⟩ := pVals_some e6;simp only at h6;rw [foldl_setVal f [] hr] at h6;rw [Option.bind_some];exact ⟨by rw [h6.1]; rfl, h6.2⟩
theorem gSesss_bad (k lo : Nat) (r : Rd) (T : Tab) (h : r.bad) : (gSesss k lo r T).2.bad := by
 induction k generalizing lo r T with
 | zero => exact h
 | succ k ih => exact ih _ _ _ (rdMust_bad (gSess_bad h))
theorem gSesss_at (k lo : Nat) (r : Rd) (l : Bs) (T : Tab) (h : r.at l) : match pSesss k lo l with
  | some (L, q) => (gSesss k lo r T).1 = L.foldl (fun T x => T.set x.1 (some x.2)) T ∧ (gSesss k lo r T).2.at q
  | none => (gSesss k lo r T).2.bad := by
 induction k generalizing lo r l T with
 | zero => exact ⟨rfl, h⟩
 | succ k ih =>
  have h1 := gSess_at h;simp only [pSesss];unfold gSesss;cases e1 : pSess l with
  | none => rw [e1] at h1; exact gSesss_bad _ _ _ _ (rdMust_bad h1)
  | some a =>
   obtain ⟨⟨i, x⟩, l1⟩ := a;rw [e1] at h1;obtain ⟨hx, h1⟩ := h1;rw [Option.bind_some, hx];simp only;by_cases c : lo ≤ i
   ·rw [if_pos c, decide_eq_true c];have h2 := ih (i + 1) _ l1 (T.set i (some x)) (rdMust_yes h1);cases e2 : pSesss k (i + 1) l1 with
    | none => rw [e2] at h2; exact h2
    | some q =>
     obtain ⟨L, q⟩ := q;rw [e2] at h2;exact h2
   ·rw [if_neg c, decide_eq_false c];exact gSesss_bad _ _ _ _ (rdMust_no _)
theorem gSnap_eq (p : Bs) : gSnap p = parseSnap p := by
 have h0 : (⟨p, false, false⟩ : Rd).at p := ⟨rfl, rfl, rfl⟩;have h1 := rdCount_at (most := 12) h0;unfold gSnap parseSnap;cases e1 : pNum 1 0 12 p with
 | none =>
  rw [e1] at h1;rw [Rd.fit_bad (gSesss_bad _ _ _ _ h1)]; rfl
 | some a =>
  obtain ⟨n, l1⟩ := a;rw [e1] at h1;rw [Option.bind_some, h1.1];have h2 := gSesss_at n 0 _ l1 noTab h1.2;simp only;cases e2 : pSesss n 0 l1 with
  | none =>
   rw [e2] at h2;rw [Rd.fit_bad h2]; rfl
  | some q =>
   obtain ⟨L, q⟩ := q;rw [e2] at h2;rw [Option.bind_some, Rd.fit_at h2.2, h2.1];simp only;by_cases c : q = []
   ·subst c; rfl
   ·rw [if_neg c, if_neg (by simpa using c)]
def lVals : Nat → Sp → List (Bs × Bs) → List (Bs × Bs) × Sp
 | 0, p, vs => (vs, p)
 | k + 1, p, vs => lVals k (spX 0 8 (spX 1 8 p).2).2 (setVal (spX 1 8 p).1 (spX 0 8 (spX 1 8 p).2).1 vs)
def lTail (i u c d : Nat) (e : Nat × Sp) : (Nat × Sess) × Sp := ((i, ⟨u, c, d, (lVals e.1 e.2 []).1⟩), (lVals e.1 e.2 []).2)
def lS4 (i u c : Nat) (d : Nat × Sp) : (Nat × Sess) × Sp := lTail i u c d.1 (spN 1 0 3 d.2)
def lS3 (i u : Nat) (c : Nat × Sp) : (Nat × Sess) × Sp := lS4 i u c.1 (spN 4 0 maxT c.2)
def lS2 (i : Nat) (u : Nat × Sp) : (Nat × Sess) × Sp := lS3 i u.1 (spN 4 0 maxT u.2)
def lS1 (i : Nat × Sp) : (Nat × Sess) × Sp := lS2 i.1 (spN 1 1 99 i.2)
def lSess (p : Sp) : (Nat × Sess) × Sp := lS1 (spN 2 0 4095 p)
def lSesss : Nat → Sp → Tab → Tab × Sp
 | 0, p, T => (T, p)
 | k + 1, p, T => lSesss k (lSess p).2 (T.set (lSess p).1.1 (some (lSess p).1.2))
def lAll (p : Bs) : Tab × Sp := lSesss (spN 1 0 12 ⟨p, 0, false⟩).1 (spN 1 0 12 ⟨p, 0, false⟩).2 noTab
def snapR (p : Bs) : Option Tab := if (lAll p).2.bad = false ∧ snapB (lAll p).1 = p then some (lAll p).1 else none
theorem lVals_bad (k : Nat) (p : Sp) (vs : List (Bs × Bs)) (h : p.bad = true) : (lVals k p vs).2.bad = true := by
 induction k generalizing p vs with
 | zero => exact h
 | succ k ih => exact ih _ _ (spX_bad (spX_bad h))
theorem lTail_bad {i u c d : Nat} {e : Nat × Sp} (h : e.2.bad = true) : (lTail i u c d e).2.bad = true := by unfold lTail; exact lVals_bad _ _ _ h
theorem lS4_bad {i u c : Nat} {d : Nat × Sp} (h : d.2.bad = true) : (lS4 i u c d).2.bad = true := by unfold lS4; exact lTail_bad (spN_bad h)
theorem lS3_bad {i u : Nat} {c : Nat × Sp} (h : c.2.bad = true) : (lS3 i u c).2.bad = true := by unfold lS3; exact lS4_bad (spN_bad h)
theorem lS2_bad {i : Nat} {u : Nat × Sp} (h : u.2.bad = true) : (lS2 i u).2.bad = true := by unfold lS2; exact lS3_bad (spN_bad h)
theorem lS1_bad {i : Nat × Sp} (h : i.2.bad = true) : (lS1 i).2.bad = true := by unfold lS1; exact lS2_bad (spN_bad h)
theorem lSess_bad {p : Sp} (h : p.bad = true) : (lSess p).2.bad = true := by unfold lSess; exact lS1_bad (spN_bad h)
theorem lSesss_bad (k : Nat) (p : Sp) (T : Tab) (h : p.bad = true) : (lSesss k p T).2.bad = true := by
 induction k generalizing p T with
 | zero => exact h
 | succ k ih => exact ih _ _ (lSess_bad h)
theorem lVals_ok (k : Nat) (p : Sp) (l : Bs) (vs : List (Bs × Bs)) (h : p.at l) (hr : rising vs) (hv : ∀ x ∈ vs, valOk x) (hb : (lVals k p vs).2.bad = false) :
  rising (lVals k p vs).1 ∧ (∀ x ∈ (lVals k p vs).1, valOk x) ∧ (lVals k p vs).1.length ≤ vs.length + k ∧ ∃ q, (lVals k p vs).2.at q := by
 induction k generalizing p l vs with
 | zero => exact ⟨hr, hv, Nat.le_refl _, l, h⟩
 | succ k ih =>
  unfold lVals at hb ⊢;have h1 := spX_at (lo := 1) (hi := 8) h;cases e1 : pTxt 1 8 l with
  | none => rw [e1] at h1; rw [lVals_bad _ _ _ (spX_bad h1)] at hb; cases hb
  | some a =>
   obtain ⟨n, l1⟩ := a;rw [e1] at h1;have h2 := spX_at (lo := 0) (hi := 8) h1.2;cases e2 : pTxt 0 8 l1 with
   | none => rw [e2] at h2; rw [lVals_bad _ _ _ h2] at hb; cases hb
   | some b =>
    obtain ⟨v, l2⟩ := b;rw [e2] at h2;rw [h1.1, h2.1] at hb ⊢;obtain ⟨_, n0, n1⟩ := pTxt_some e1;obtain ⟨_, v0, v1⟩ := pTxt_some e2;have := ih _ l2 (setVal n v vs) h2.2 (setVal_rising n v hr) (fun x hx => by
     rcases setVal_names n v vs x hx with rfl | hx
     ·exact ⟨n0, n1, v1⟩
     ·exact hv x hx) hb
    obtain ⟨r1, r2, r3, r4⟩ := this;have := (setVal_length n v vs).1;exact ⟨r1, r2, by omega, r4⟩
theorem lVals_at (k : Nat) (last : Bs) (p : Sp) (l : Bs) (vs ws : List (Bs × Bs)) (q : Bs) (h : p.at l) (e : pVals k last l = some (ws, q)) :
  (lVals k p vs).1 = ws.foldl (fun a x => setVal x.1 x.2 a) vs ∧ (lVals k p vs).2.at q := by
 induction k generalizing last p l vs ws with
 | zero =>
  simp only [pVals, Option.some.injEq, Prod.mk.injEq] at e;obtain ⟨rfl, rfl⟩ := e;exact ⟨rfl, h⟩
 | succ k ih =>
  simp only [pVals, Option.bind_eq_some_iff] at e;obtain ⟨⟨n, l1⟩, e1, ⟨v, l2⟩, e2, e⟩ := e;split at e
  ·simp only [Option.bind_eq_some_iff, Option.some.injEq, Prod.mk.injEq] at e;obtain ⟨⟨us, l3⟩, e3, rfl, rfl⟩ := e;have h1 := spX_at (lo := 1) (hi := 8) h;rw [e1] at h1;have h2 := spX_at (lo := 0) (hi := 8) h1.2;simp only at e2;rw [e2] at h2;have := ih n _ l2 (setVal n v vs) us h2.2 e3;unfold lVals;rw [h1.1, h2.1];exact this
  ·cases e
theorem lSess_steps {p : Sp} {l : Bs} (h : p.at l) : (lSess p).2.bad = true ∨
  ∃ a b c d m : Nat × Bs, pNum 2 0 4095 l = some a ∧ pNum 1 1 99 a.2 = some b ∧ pNum 4 0 maxT b.2 = some c ∧ pNum 4 0 maxT c.2 = some d ∧ pNum 1 0 3 d.2 = some m ∧
   ∃ e : Sp, e.at m.2 ∧ (lSess p) = ((a.1, ⟨b.1, c.1, d.1, (lVals m.1 e []).1⟩), (lVals m.1 e []).2) := by
 have h1 := spN_at (w := 2) (lo := 0) (hi := 4095) h;unfold lSess;generalize spN 2 0 4095 p = a at h1 ⊢;cases e1 : pNum 2 0 4095 l with
 | none => rw [e1] at h1; exact Or.inl (lS1_bad h1)
 | some z =>
  rw [e1] at h1;have h2 := spN_at (w := 1) (lo := 1) (hi := 99) h1.2;unfold lS1;generalize spN 1 1 99 a.2 = b at h2 ⊢;cases e2 : pNum 1 1 99 z.2 with
  | none => rw [e2] at h2; exact Or.inl (lS2_bad h2)
  | some y =>
   rw [e2] at h2;have h3 := spN_at (w := 4) (lo := 0) (hi := maxT) h2.2;unfold lS2;generalize spN 4 0 maxT b.2 = c at h3 ⊢;cases e3 : pNum 4 0 maxT y.2 with
   | none => rw [e3] at h3; exact Or.inl (lS3_bad h3)
   | some x =>
    rw [e3] at h3;have h4 := spN_at (w := 4) (lo := 0) (hi := maxT) h3.2;unfold lS3;generalize spN 4 0 maxT c.2 = d at h4 ⊢;cases e4 : pNum 4 0 maxT x.2 with
    | none => rw [e4] at h4; exact Or.inl (lS4_bad h4)
    | some v =>
     rw [e4] at h4;have h5 := spN_at (w := 1) (lo := 0) (hi := 3) h4.2;unfold lS4;generalize spN 1 0 3 d.2 = e at h5 ⊢;cases e5 : pNum 1 0 3 v.2 with
     | none => rw [e5] at h5; exact Or.inl (lTail_bad h5)
     | some u =>
      rw [e5] at h5;refine Or.inr ⟨z, y, x, v, u, rfl, e2, e3, e4, e5, e.2, h5.2, ?_⟩;unfold lTail;rw [h5.1, h4.1, h3.1, h2.1, h1.1]
theorem lSess_at {p : Sp} {l q : Bs} {x : Nat × Sess} (h : p.at l) (e : pSess l = some (x, q)) : (lSess p).1 = x ∧ (lSess p).2.at q := by
 simp only [pSess, Option.bind_eq_some_iff, Option.some.injEq, Prod.mk.injEq] at e;obtain ⟨a, e1, b, e2, c, e3, d, e4, m, e5, f, e6, rfl, rfl⟩ := e;obtain ⟨f, l6⟩ := f;have key : ∀ (e : Sp), e.at m.2 → (lVals m.1 e []).1 = f ∧ (lVals m.1 e []).2.at l6 := fun e he => by
  have h6 := lVals_at m.1 [] e m.2 [] f l6 he e6;obtain ⟨_, _, _, hr, _⟩ := pVals_some e6;rw [foldl_setVal f [] hr] at h6;exact h6
 rcases lSess_steps h with hb | ⟨a', b', c', d', m', f1, f2, f3, f4, f5, s, hs, hl⟩
 ·-- it was not bad
  exfalso;have h1 := spN_at (w := 2) (lo := 0) (hi := 4095) h;rw [e1] at h1;have h2 := spN_at (w := 1) (lo := 1) (hi := 99) h1.2;rw [e2] at h2;have h3 := spN_at (w := 4) (lo := 0) (hi := maxT) h2.2;rw [e3] at h3;have h4 := spN_at (w := 4) (lo := 0) (hi := maxT) h3.2;rw [e4] at h4;have h5 := spN_at (w := 1) (lo := 0) (hi := 3) h4.2;rw [e5] at h5;unfold lSess lS1 lS2 lS3 lS4 lTail at hb;generalize spN 2 0 4095 p = x1 at h1 h2 h3 h4 h5 hb;generalize spN 1 1 99 x1.2 = x2 at h2 h3 h4 h5 hb;generalize spN 4 0 maxT x2.2 = x3 at h3 h4 h5 hb;generalize spN 4 0 maxT x3.2 = x4 at h4 h5 hb;generalize spN 1 0 3 x4.2 = x5 at h5 hb;rw [h5.1] at hb;simp only at hb;have := (key _ h5.2).2.1;rw [hb] at this; cases this
 ·rw [f1] at e1; obtain rfl := Option.some.inj e1;rw [f2] at e2; obtain rfl := Option.some.inj e2;rw [f3] at e3; obtain rfl := Option.some.inj e3;rw [f4] at e4; obtain rfl := Option.some.inj e4;rw [f5] at e5; obtain rfl := Option.some.inj e5;rw [hl];exact ⟨by rw [(key s hs).1], (key s hs).2⟩
theorem lSess_ok {p : Sp} {l : Bs} (h : p.at l) (hb : (lSess p).2.bad = false) : (lSess p).1.1 < 4096 ∧ (lSess p).1.2.wf ∧ ∃ q, (lSess p).2.at q := by
 rcases lSess_steps h with hb' | ⟨a, b, c, d, m, f1, f2, f3, f4, f5, s, hs, hl⟩
 ·rw [hb'] at hb; cases hb
 ·rw [hl] at hb ⊢;obtain ⟨_, _, i1, _⟩ := pNum_some f1;obtain ⟨_, u0, u1, _⟩ := pNum_some f2;obtain ⟨_, _, c1, _⟩ := pNum_some f3;obtain ⟨_, _, d1, _⟩ := pNum_some f4;obtain ⟨_, _, m1, _⟩ := pNum_some f5;obtain ⟨r1, r2, r3, r4⟩ := lVals_ok _ _ m.2 [] hs (by simp [rising]) (by simp) hb;simp only [List.length_nil, Nat.zero_add] at r3;exact ⟨Nat.lt_succ_of_le i1, ⟨u0, u1, c1, d1, Nat.le_trans r3 m1, r1, r2⟩, r4⟩
theorem live_set (T : Tab) (i : Nat) (x : Option Sess) : (T.set i x).live ≤ T.live + 1 := by
 unfold Tab.live
 suffices h : ∀ n, (List.range n).countP (fun j => ((T.set i x) j).isSome) ≤ (List.range n).countP (fun j => (T j).isSome) + (if i < n then 1 else 0) by
  have := h 4096;split at this <;> omega
 intro n
 induction n with
 | zero => simp
 | succ n ih =>
  rw [List.range_succ, List.countP_append, List.countP_append];by_cases c : i = n
  ·subst c;rw [if_neg (Nat.lt_irrefl _)] at ih;rw [if_pos (Nat.lt_succ_self _)];have : (List.countP (fun j => ((T.set i x) j).isSome) [i]) ≤ 1 := by
    have := List.countP_le_length (p := fun j => ((T.set i x) j).isSome) (l := [i]);simpa using this
   omega
  ·have e : (T.set i x) n = T n := by unfold Tab.set; rw [if_neg (fun h => c h.symm)]
   simp only [List.countP_cons, List.countP_nil, e];by_cases d : i < n
   ·rw [if_pos d] at ih; rw [if_pos (show i < n + 1 by omega)]; omega
   ·rw [if_neg d] at ih; rw [if_neg (show ¬ i < n + 1 by omega)]; omega
theorem lSesss_ok (k : Nat) (p : Sp) (l : Bs) (T : Tab) (h : p.at l) (hT : ∀ i x, T i = some x → i < 4096 ∧ x.wf) (hb : (lSesss k p T).2.bad = false) :
  (∀ i x, (lSesss k p T).1 i = some x → i < 4096 ∧ x.wf) ∧ (lSesss k p T).1.live ≤ T.live + k := by
 induction k generalizing p l T with
 | zero => exact ⟨hT, Nat.le_add_right _ _⟩
 | succ k ih =>
  unfold lSesss at hb ⊢;have b1 : (lSess p).2.bad = false := by
   cases e : (lSess p).2.bad with
   | false => rfl
   | true => rw [lSesss_bad _ _ _ e] at hb; cases hb
  obtain ⟨hi, hx, q, hq⟩ := lSess_ok h b1;have := ih _ q _ hq (fun i x hx' => by
   unfold Tab.set at hx'
   split at hx'
   ·rename_i e; subst e
    obtain rfl := Option.some.inj hx'
    exact ⟨hi, hx⟩
   ·exact hT i x hx') hb
  have h2 := live_set T (lSess p).1.1 (some (lSess p).1.2);exact ⟨this.1, by omega⟩
theorem lSesss_at (k lo : Nat) (p : Sp) (l q : Bs) (T : Tab) (L : List (Nat × Sess)) (h : p.at l) (e : pSesss k lo l = some (L, q)) :
  (lSesss k p T).1 = L.foldl (fun T x => T.set x.1 (some x.2)) T ∧ (lSesss k p T).2.at q := by
 induction k generalizing lo p l T L with
 | zero =>
  simp only [pSesss, Option.some.injEq, Prod.mk.injEq] at e;obtain ⟨rfl, rfl⟩ := e;exact ⟨rfl, h⟩
 | succ k ih =>
  simp only [pSesss, Option.bind_eq_some_iff] at e;obtain ⟨⟨x, l1⟩, e1, e⟩ := e;split at e
  ·simp only [Option.bind_eq_some_iff, Option.some.injEq, Prod.mk.injEq] at e;obtain ⟨⟨M, l2⟩, e2, rfl, rfl⟩ := e;have h1 := lSess_at h e1;have := ih _ _ l1 (T.set x.1 (some x.2)) M h1.2 e2;unfold lSesss;rw [h1.1];exact this
  ·cases e
theorem noTab_live : noTab.live = 0 := by
 unfold Tab.live;rw [List.countP_eq_zero];intro a _ h;cases h
theorem snapR_eq (p : Bs) : snapR p = parseSnap p := by
 have h0 : (⟨p, 0, false⟩ : Sp).at p := ⟨rfl, Nat.zero_le _, rfl⟩;have h1 := spN_at (w := 1) (lo := 0) (hi := 12) h0;cases e : parseSnap p with
 | some T =>
  obtain ⟨hwf, hsn⟩ := parseSnap_some e;simp only [parseSnap, Option.bind_eq_some_iff] at e;obtain ⟨⟨n, l1⟩, e1, ⟨L, l2⟩, e2, e⟩ := e;split at e
  ·obtain rfl := Option.some.inj e;rw [e1] at h1;have h2 := lSesss_at n 0 _ l1 l2 noTab L h1.2 e2;have hA : lAll p = lSesss n (spN 1 0 12 ⟨p, 0, false⟩).2 noTab := by unfold lAll; rw [h1.1]
   have hT : (lAll p).1 = tabOf L := by rw [hA]; exact h2.1
   unfold snapR;rw [if_pos ⟨by rw [hA]; exact h2.2.1, by rw [hT]; exact hsn⟩, hT]
  ·cases e
 | none =>
  unfold snapR;split
  ·rename_i c;exfalso;obtain ⟨hb, hs⟩ := c;cases e1 : pNum 1 0 12 p with
   | none =>
    rw [e1] at h1;rw [show (lAll p).2.bad = true from lSesss_bad _ _ _ h1] at hb; cases hb
   | some a =>
    obtain ⟨n, l1⟩ := a;rw [e1] at h1;obtain ⟨_, _, n1, _⟩ := pNum_some e1;have hA : lAll p = lSesss n (spN 1 0 12 ⟨p, 0, false⟩).2 noTab := by unfold lAll; rw [h1.1]
    have := lSesss_ok n _ l1 noTab h1.2 (fun i x h => by cases h) (by rw [← hA]; exact hb);rw [← hA] at this;have hwf : (lAll p).1.wf := ⟨this.1, by have := this.2; rw [noTab_live] at this; omega⟩;have := parseSnap_of hwf;rw [hs, e] at this;cases this
  ·rfl
end Go.Proofs.YtmnajomkfnkmeaaGreatDoor
namespace Go.Proofs.YtmnajomkfnkmeaaGreatDoor
theorem fit_end {r : Rd} {l : Bs} {α : Type} (x : α) (h : r.at l) : atEnd (some (x, l)) = if r.fit = true then some x else none := by
 rw [Rd.fit_at h];cases l <;> rfl
theorem fit_none {r : Rd} {α : Type} (x : α) (h : r.bad) : (none : Option α) = if r.fit = true then some x else none := by
 rw [Rd.fit_bad h]; rfl
theorem gX_eq {r : Rd} {l : Bs} (h : r.at l) : atEnd (parseX l) = if (rdId r).2.fit = true then some (Chg.X (rdId r).1) else none := by
 have h1 := rdId_at h;unfold parseX;generalize rdId r = a at h1 ⊢;cases e1 : pNum 2 0 4095 l with
 | none => rw [e1] at h1; exact fit_none _ h1
 | some z => rw [e1] at h1; rw [Option.bind_some, h1.1]; exact fit_end _ h1.2
theorem gU_eq {r : Rd} {l : Bs} (h : r.at l) : atEnd (parseU l) = if (rdUser r).2.fit = true then some (Chg.U (rdUser r).1) else none := by
 have h1 := rdUser_at h;unfold parseU;generalize rdUser r = a at h1 ⊢;cases e1 : pNum 1 1 99 l with
 | none => rw [e1] at h1; exact fit_none _ h1
 | some z => rw [e1] at h1; rw [Option.bind_some, h1.1]; exact fit_end _ h1.2
theorem gT_eq {r : Rd} {l : Bs} (h : r.at l) : atEnd (parseT l) = if (rdTime (rdId r).2).2.fit = true then some (Chg.T (rdId r).1 (rdTime (rdId r).2).1) else none := by
 have h1 := rdId_at h;unfold parseT;generalize rdId r = a at h1 ⊢;cases e1 : pNum 2 0 4095 l with
 | none => rw [e1] at h1; exact fit_none _ (rdTime_bad h1)
 | some z =>
  rw [e1] at h1; rw [Option.bind_some, h1.1];have h2 := rdTime_at h1.2;generalize rdTime a.2 = b at h2 ⊢;cases e2 : pNum 4 0 maxT z.2 with
  | none => rw [e2] at h2; exact fit_none _ h2
  | some y => rw [e2] at h2; rw [Option.bind_some, h2.1]; exact fit_end _ h2.2
theorem gL_eq {r : Rd} {l : Bs} (h : r.at l) : atEnd (parseL l) = if (rdTime (rdUser (rdId r).2).2).2.fit = true then some (Chg.L (rdId r).1 (rdUser (rdId r).2).1 (rdTime (rdUser (rdId r).2).2).1) else none := by
 have h1 := rdId_at h;unfold parseL;generalize rdId r = a at h1 ⊢;cases e1 : pNum 2 0 4095 l with
 | none => rw [e1] at h1; exact fit_none _ (rdTime_bad (rdUser_bad h1))
 | some z =>
  rw [e1] at h1; rw [Option.bind_some, h1.1];have h2 := rdUser_at h1.2;generalize rdUser a.2 = b at h2 ⊢;cases e2 : pNum 1 1 99 z.2 with
  | none => rw [e2] at h2; exact fit_none _ (rdTime_bad h2)
  | some y =>
   rw [e2] at h2; rw [Option.bind_some, h2.1];have h3 := rdTime_at h2.2;generalize rdTime b.2 = c at h3 ⊢;cases e3 : pNum 4 0 maxT y.2 with
   | none => rw [e3] at h3; exact fit_none _ h3
   | some x => rw [e3] at h3; rw [Option.bind_some, h3.1]; exact fit_end _ h3.2
theorem gR_eq {r : Rd} {l : Bs} (h : r.at l) : atEnd (parseR l) = if (rdTime (rdId (rdId r).2).2).2.fit = true then some (Chg.R (rdId r).1 (rdId (rdId r).2).1 (rdTime (rdId (rdId r).2).2).1) else none := by
 have h1 := rdId_at h;unfold parseR;generalize rdId r = a at h1 ⊢;cases e1 : pNum 2 0 4095 l with
 | none => rw [e1] at h1; exact fit_none _ (rdTime_bad (rdId_bad h1))
 | some z =>
  rw [e1] at h1; rw [Option.bind_some, h1.1];have h2 := rdId_at h1.2;generalize rdId a.2 = b at h2 ⊢;cases e2 : pNum 2 0 4095 z.2 with
  | none => rw [e2] at h2; exact fit_none _ (rdTime_bad h2)
  | some y =>
   rw [e2] at h2; rw [Option.bind_some, h2.1];have h3 := rdTime_at h2.2;generalize rdTime b.2 = c at h3 ⊢;cases e3 : pNum 4 0 maxT y.2 with
   | none => rw [e3] at h3; exact fit_none _ h3
   | some x => rw [e3] at h3; rw [Option.bind_some, h3.1]; exact fit_end _ h3.2
theorem gS_eq {r : Rd} {l : Bs} (h : r.at l) : atEnd (parseS l) = if (rdTime (rdVal (rdName (rdId r).2).2).2).2.fit = true then some (Chg.S (rdId r).1 (rdName (rdId r).2).1 (rdVal (rdName (rdId r).2).2).1 (rdTime (rdVal (rdName (rdId r).2).2).2).1) else none := by
 have h1 := rdId_at h;unfold parseS;generalize rdId r = a at h1 ⊢;cases e1 : pNum 2 0 4095 l with
 | none => rw [e1] at h1; exact fit_none _ (rdTime_bad (rdVal_bad (rdName_bad h1)))
 | some z =>
  rw [e1] at h1; rw [Option.bind_some, h1.1];have h2 := rdName_at h1.2;generalize rdName a.2 = b at h2 ⊢;cases e2 : pTxt 1 8 z.2 with
  | none => rw [e2] at h2; exact fit_none _ (rdTime_bad (rdVal_bad h2))
  | some y =>
   rw [e2] at h2; rw [Option.bind_some, h2.1];have h3 := rdVal_at h2.2;generalize rdVal b.2 = c at h3 ⊢;cases e3 : pTxt 0 8 y.2 with
   | none => rw [e3] at h3; exact fit_none _ (rdTime_bad h3)
   | some x =>
    rw [e3] at h3; rw [Option.bind_some, h3.1];have h4 := rdTime_at h3.2;generalize rdTime c.2 = d at h4 ⊢;cases e4 : pNum 4 0 maxT x.2 with
    | none => rw [e4] at h4; exact fit_none _ h4
    | some v => rw [e4] at h4; rw [Option.bind_some, h4.1]; exact fit_end _ h4.2
end Go.Proofs.YtmnajomkfnkmeaaGreatDoor
namespace Go.Proofs.YtmnajomkfnkmeaaGreatDoor
def sumB (l : Bs) : Nat := l.foldl (fun s b => (263 * s + b.toNat + 1) % 65521) 1
def sealB (l : Bs) : Bs := l ++ nB 2 (sumB l)
def recB (g k : Nat) (p : Bs) : Bs := sealB (nB 2 p.length ++ nB 4 g ++ nB 2 k ++ p)
def sectB (g r : Nat) : Bs := sealB ([68, 75] ++ nB 4 g ++ nB 1 r) ++ zeros 23
theorem sealB_length (l : Bs) : (sealB l).length = l.length + 2 := by simp [sealB, nB_length]
theorem recB_length (g k : Nat) (p : Bs) : (recB g k p).length = p.length + 10 := by
 simp only [recB, sealB_length, List.length_append, nB_length]; omega
theorem sectB_length (g r : Nat) : (sectB g r).length = 32 := by
 simp [sectB, sealB_length, nB_length, zeros]
theorem zeros_length (n : Nat) : (zeros n).length = n := by simp [zeros]
theorem zeros_drop (n m : Nat) : (zeros n).drop m = zeros (n - m) := by simp [zeros]
def firstB (g k : Nat) (l : Bs) : Option Bs :=
 if numL (l.take 2) + 10 ≤ l.length ∧ l.take (numL (l.take 2) + 10) = recB g k ((l.drop 8).take (numL (l.take 2))) then some ((l.drop 8).take (numL (l.take 2))) else none
theorem firstB_some {g k : Nat} {l p : Bs} (h : firstB g k l = some p) : l = recB g k p ++ l.drop (p.length + 10) ∧ p.length < 65536 := by
 unfold firstB at h;split at h
 ·rename_i c;obtain ⟨c1, c2⟩ := c;simp only [Option.some.injEq] at h;have hlt : numL (l.take 2) < 65536 := by
   have := numL_lt (l.take 2);have h2 : (l.take 2).length ≤ 2 := by simp; omega
   exact Nat.lt_of_lt_of_le this (Nat.pow_le_pow_right (by decide) h2)
  have hl : p.length = numL (l.take 2) := by rw [← h]; simp; omega
  rw [h] at c2;rw [hl, ← c2];exact ⟨(List.take_append_drop _ _).symm, hlt⟩
 ·cases h
def logB (g : Nat) : Nat → List Bs → Bs
 | _, [] => []
 | k, p :: ps => recB g k p ++ logB g (k + 1) ps
theorem logB_append (g k : Nat) (ps qs : List Bs) : logB g k (ps ++ qs) = logB g k ps ++ logB g (k + ps.length) qs := by
 induction ps generalizing k with
 | nil => simp [logB]
 | cons p ps ih => simp only [List.cons_append, logB, ih, List.append_assoc, List.length_cons]; rw [show k + 1 + ps.length = k + (ps.length + 1) by omega]
def Tab.runs (T : Tab) : List Bs → Option Tab
 | [] => some T
 | p :: ps => match T.takes p with | some T' => T'.runs ps | none => none
theorem runs_append (T : Tab) (ps qs : List Bs) : T.runs (ps ++ qs) = (T.runs ps).bind fun T' => T'.runs qs := by
 induction ps generalizing T with
 | nil => rfl
 | cons p ps ih =>
  simp only [List.cons_append, Tab.runs];cases T.takes p with
  | none => rfl
  | some T' => exact ih T'
def replay : Nat → Nat → Nat → Tab → Bs → Tab × Nat × Nat
 | 0, _, k, T, _ => (T, 0, k)
 | f + 1, g, k, T, l =>
  match firstB g k l with
  | none => (T, 0, k)
  | some p =>
   match T.takes p with
   | none => (T, 0, k)
   | some T' => ((replay f g (k + 1) T' (l.drop (p.length + 10))).1, p.length + 10 + (replay f g (k + 1) T' (l.drop (p.length + 10))).2.1, (replay f g (k + 1) T' (l.drop (p.length + 10))).2.2)
theorem replay_none {f g k : Nat} {T : Tab} {l : Bs} (h : firstB g k l = none) : replay (f + 1) g k T l = (T, 0, k) := by
 show (match firstB g k l with | none => _ | some p => _) = _;rw [h]
theorem replay_unfit {f g k : Nat} {T : Tab} {l p : Bs} (h : firstB g k l = some p) (ht : T.takes p = none) : replay (f + 1) g k T l = (T, 0, k) := by
 show (match firstB g k l with | none => _ | some p => _) = _;rw [h];show (match T.takes p with | none => _ | some T' => _) = _;rw [ht]
theorem replay_fit {f g k : Nat} {T T' : Tab} {l p : Bs} (h : firstB g k l = some p) (ht : T.takes p = some T') : replay (f + 1) g k T l = ((replay f g (k + 1) T' (l.drop (p.length + 10))).1, p.length + 10 + (replay f g (k + 1) T' (l.drop (p.length + 10))).2.1, (replay f g (k + 1) T' (l.drop (p.length + 10))).2.2) := by
 show (match firstB g k l with | none => _ | some p => _) = _;rw [h];show (match T.takes p with | none => _ | some T' => _) = _;rw [ht]
def stuck (g k : Nat) (T : Tab) (l : Bs) : Prop := ∀ p, firstB g k l = some p → T.takes p = none
theorem replay_stuck {f g k : Nat} {T : Tab} {l : Bs} (h : stuck g k T l) : replay f g k T l = (T, 0, k) := by
 cases f with
 | zero => rfl
 | succ f =>
  cases hp : firstB g k l with
  | none => exact replay_none hp
  | some p => exact replay_unfit hp (h p hp)
def smallPs (ps : List Bs) : Prop := ∀ p ∈ ps, p.length < 65536
theorem replay_shape (g : Nat) : ∀ (f k : Nat) (T : Tab) (l : Bs), ∃ ps r, l = logB g k ps ++ r ∧ T.runs ps = some (replay f g k T l).1 ∧ smallPs ps ∧ (replay f g k T l).2.1 = (logB g k ps).length ∧ (replay f g k T l).2.2 = k + ps.length ∧
  (l.length < 10 * f → stuck g (k + ps.length) (replay f g k T l).1 r) := by
 intro f
 induction f with
 | zero =>
  intro k T l;exact ⟨[], l, rfl, rfl, fun _ h => (by cases h), rfl, rfl, fun h => by omega⟩
 | succ f ih =>
  intro k T l;cases hp : firstB g k l with
  | none =>
   rw [replay_none hp];exact ⟨[], l, rfl, rfl, fun _ h => (by cases h), rfl, rfl, fun _ q hq => by simp only [List.length_nil, Nat.add_zero] at hq; rw [hp] at hq; cases hq⟩
  | some p =>
   cases ht : T.takes p with
   | none =>
    rw [replay_unfit hp ht];exact ⟨[], l, rfl, rfl, fun _ h => (by cases h), rfl, rfl, fun _ q hq => by simp only [List.length_nil, Nat.add_zero] at hq; rw [hp] at hq; cases hq; exact ht⟩
   | some T1 =>
    rw [replay_fit hp ht];obtain ⟨hl, hsm⟩ := firstB_some hp;obtain ⟨ps, r, e1, e2, e3, e4, e5, e6⟩ := ih (k + 1) T1 (l.drop (p.length + 10));refine ⟨p :: ps, r, ?_, ?_, ?_, ?_, ?_, ?_⟩
    ·simp only [logB, List.append_assoc];rw [← e1]; exact hl
    ·simp only [Tab.runs, ht]; exact e2
    ·intro q hq;rcases List.mem_cons.1 hq with rfl | hq
     ·exact hsm
     ·exact e3 q hq
    ·simp only [logB, List.length_append, recB_length];rw [e4]
    ·rw [e5]; simp only [List.length_cons]; omega
    ·intro hlt;rw [show k + (p :: ps).length = k + 1 + ps.length by simp only [List.length_cons]; omega];refine e6 ?_;simp only [List.length_drop];have := congrArg List.length hl;simp only [List.length_append, recB_length, List.length_drop] at this;omega
end Go.Proofs.YtmnajomkfnkmeaaGreatDoor
namespace Go.Proofs.YtmnajomkfnkmeaaGreatDoor
def headOf (s : Bs) : Option (Nat × Nat) :=
 if 1 ≤ numL ((s.drop 2).take 4) ∧ numL ((s.drop 6).take 1) ≤ 1 ∧ sectB (numL ((s.drop 2).take 4)) (numL ((s.drop 6).take 1)) = s then some (numL ((s.drop 2).take 4), numL ((s.drop 6).take 1)) else none
theorem sectB_parts (g r : Nat) : ((sectB g r).drop 2).take 4 = nB 4 g ∧ ((sectB g r).drop 6).take 1 = nB 1 r := by
 constructor
 ·have e : sectB g r = [68, 75] ++ (nB 4 g ++ (nB 1 r ++ (nB 2 (sumB ([68, 75] ++ nB 4 g ++ nB 1 r)) ++ zeros 23))) := by unfold sectB sealB; simp only [List.append_assoc]
  rw [e, List.drop_append_of_le_length (by simp), List.drop_of_length_le (by simp), List.nil_append, List.take_append_of_le_length (by simp [nB_length]), List.take_of_length_le (by simp [nB_length])]
 ·have e : sectB g r = ([68, 75] ++ nB 4 g) ++ (nB 1 r ++ (nB 2 (sumB ([68, 75] ++ nB 4 g ++ nB 1 r)) ++ zeros 23)) := by unfold sectB sealB; simp only [List.append_assoc]
  rw [e, List.drop_append_of_le_length (by simp [nB_length]), List.drop_of_length_le (by simp [nB_length]), List.nil_append, List.take_append_of_le_length (by simp [nB_length]), List.take_of_length_le (by simp [nB_length])]
theorem headOf_sect (g r : Nat) (h0 : 1 ≤ g) (h1 : g < 4294967296) (h2 : r ≤ 1) : headOf (sectB g r) = some (g, r) := by
 have hp := sectB_parts g r;unfold headOf;rw [hp.1, hp.2, numL_nB 4 g h1, numL_nB 1 r (by omega), if_pos ⟨h0, h2, rfl⟩]
theorem headOf_some {s : Bs} {g r : Nat} (h : headOf s = some (g, r)) : s = sectB g r ∧ 1 ≤ g ∧ g < 4294967296 ∧ r ≤ 1 := by
 unfold headOf at h;split at h
 ·rename_i c;simp only [Option.some.injEq, Prod.mk.injEq] at h;obtain ⟨rfl, rfl⟩ := h;refine ⟨c.2.2.symm, c.1, ?_, c.2.1⟩;have := numL_lt ((s.drop 2).take 4);have h2 : ((s.drop 2).take 4).length ≤ 4 := by simp; omega
  exact Nat.lt_of_lt_of_le this (Nat.pow_le_pow_right (by decide) h2)
 ·cases h
def theHead (d : Bs) : Option (Nat × Nat × Nat) :=
 match headOf (d.take 32), headOf ((d.drop 32).take 32) with
 | none, none => none
 | some a, none => some (a.1, a.2, 0)
 | none, some b => some (b.1, b.2, 1)
 | some a, some b => if a.1 < b.1 then some (b.1, b.2, 1) else some (a.1, a.2, 0)
theorem theHead_bounds {d : Bs} {g r s : Nat} (h : theHead d = some (g, r, s)) : 1 ≤ g ∧ g < 4294967296 ∧ r ≤ 1 ∧ s ≤ 1 ∧ (d.drop (32 * s)).take 32 = sectB g r := by
 unfold theHead at h;cases ha : headOf (d.take 32) with
 | none =>
  cases hb : headOf ((d.drop 32).take 32) with
  | none => rw [ha, hb] at h; cases h
  | some b =>
   rw [ha, hb] at h;simp only [Option.some.injEq, Prod.mk.injEq] at h;obtain ⟨rfl, rfl, rfl⟩ := h;obtain ⟨e, b1, b2, b3⟩ := headOf_some (g := b.1) (r := b.2) hb;exact ⟨b1, b2, b3, by omega, e⟩
 | some a =>
  obtain ⟨e, b1, b2, b3⟩ := headOf_some (g := a.1) (r := a.2) ha;cases hb : headOf ((d.drop 32).take 32) with
  | none =>
   rw [ha, hb] at h;simp only [Option.some.injEq, Prod.mk.injEq] at h;obtain ⟨rfl, rfl, rfl⟩ := h;exact ⟨b1, b2, b3, by omega, by simpa using e⟩
  | some b =>
   rw [ha, hb] at h;simp only at h;split at h
   ·simp only [Option.some.injEq, Prod.mk.injEq] at h;obtain ⟨rfl, rfl, rfl⟩ := h;obtain ⟨e, b1, b2, b3⟩ := headOf_some (g := b.1) (r := b.2) hb;exact ⟨b1, b2, b3, by omega, e⟩
   ·simp only [Option.some.injEq, Prod.mk.injEq] at h;obtain ⟨rfl, rfl, rfl⟩ := h;exact ⟨b1, b2, b3, by omega, by simpa using e⟩
theorem theHead_front {d e : Bs} (h : d.take 64 = e.take 64) : theHead d = theHead e := by
 have h1 : d.take 32 = e.take 32 := by
  have := congrArg (List.take 32) h;simpa [List.take_take] using this
 have h2 : (d.drop 32).take 32 = (e.drop 32).take 32 := by
  have := congrArg (List.drop 32) h;simpa [List.drop_take] using this
 unfold theHead;rw [h1, h2]
def halfN (n : Nat) : Nat := 32 * ((n / 32 - 2) / 2)
def regAt (n r : Nat) : Nat := 64 + halfN n * r
def regionB (d : Bs) (r : Nat) : Bs := (d.drop (regAt d.length r)).take (halfN d.length)
def okSize (n : Nat) : Prop := n % 32 = 0 ∧ 384 ≤ n ∧ n ≤ 6400
theorem half_bounds {n : Nat} (h : okSize n) : 160 ≤ halfN n ∧ halfN n ≤ 3168 ∧ 64 + 2 * halfN n ≤ n ∧ halfN n % 32 = 0 := by
 unfold okSize at h; unfold halfN; omega
theorem regAt_le {n r : Nat} (h : okSize n) (hr : r ≤ 1) : regAt n r + halfN n ≤ n ∧ 64 ≤ regAt n r := by
 have := half_bounds h;unfold regAt
 match r, hr with
 | 0, _ => omega
 | 1, _ => omega
structure St where
 gen : Nat
 reg : Nat
 slot : Nat
 endp : Nat
 next : Nat
 T : Tab
def readReg (g r s : Nat) (l : Bs) : Option St :=
 match firstB g 0 l with
 | none => none
 | some p =>
  match parseSnap p with
  | none => none
  | some T => some ⟨g, r, s, p.length + 10 + (replay l.length g 1 T (l.drop (p.length + 10))).2.1, (replay l.length g 1 T (l.drop (p.length + 10))).2.2, (replay l.length g 1 T (l.drop (p.length + 10))).1⟩
def readD (d : Bs) : Option St :=
 match theHead d with
 | none => none
 | some h => readReg h.1 h.2.1 h.2.2 (regionB d h.2.1)
def cleanD (d : Bs) (s : St) : Bs := d.take (regAt d.length s.reg + s.endp) ++ zeros (halfN d.length - s.endp) ++ d.drop (regAt d.length s.reg + halfN d.length)
structure Told (g : Nat) (l : Bs) (endp next : Nat) (T : Tab) (rest : Bs) : Prop where
 ex : ∃ T0 ps, T0.wf ∧ l = recB g 0 (snapB T0) ++ logB g 1 ps ++ rest ∧ T0.runs ps = some T ∧ smallPs ps ∧ (snapB T0).length < 65536 ∧ endp = (recB g 0 (snapB T0) ++ logB g 1 ps).length ∧ next = ps.length + 1
theorem Told.len {g endp next : Nat} {l rest : Bs} {T : Tab} (h : Told g l endp next T rest) : l.length = endp + rest.length ∧ l.take endp ++ rest = l ∧ l.drop endp = rest ∧ 10 < endp + 1 := by
 obtain ⟨T0, ps, _, hl, _, _, _, he, _⟩ := h.ex;rw [hl, he];refine ⟨by rw [List.length_append], ?_, ?_, ?_⟩
 ·rw [List.take_append_of_le_length (Nat.le_refl _), List.take_of_length_le (Nat.le_refl _)]
 ·rw [List.drop_append_of_le_length (Nat.le_refl _), List.drop_of_length_le (Nat.le_refl _), List.nil_append]
 ·rw [List.length_append, recB_length]; omega
theorem readReg_told {g r s : Nat} {l : Bs} {st : St} (h : readReg g r s l = some st) : st.gen = g ∧ st.reg = r ∧ st.slot = s ∧ Told g l st.endp st.next st.T (l.drop st.endp) ∧ st.endp ≤ l.length ∧ stuck g st.next st.T (l.drop st.endp) := by
 unfold readReg at h;cases hf : firstB g 0 l with
 | none => rw [hf] at h; cases h
 | some p =>
  rw [hf] at h;simp only at h;cases hp : parseSnap p with
  | none => rw [hp] at h; cases h
  | some T =>
   rw [hp] at h;simp only [Option.some.injEq] at h;obtain ⟨hw, hsn⟩ := parseSnap_some hp;obtain ⟨hl, hsm⟩ := firstB_some hf;obtain ⟨ps, q, e1, e2, e3, e4, e5, e6⟩ := replay_shape g l.length 1 T (l.drop (p.length + 10));have hrest : l.drop st.endp = q := by
    rw [← h];simp only;rw [← List.drop_drop, e4, e1, List.drop_append_of_le_length (Nat.le_refl _), List.drop_of_length_le (Nat.le_refl _), List.nil_append]
   have hle : st.endp ≤ l.length := by
    rw [← h]; simp only;have := congrArg List.length e1;have h3 := congrArg List.length hl;simp only [List.length_append, List.length_drop, recB_length] at this h3;rw [e4]; omega
   refine ⟨by rw [← h], by rw [← h], by rw [← h], ⟨T, ps, hw, ?_, ?_, e3, by rw [hsn]; exact hsm, ?_, ?_⟩, hle, ?_⟩
   ·rw [hrest, List.append_assoc, ← e1, hsn]; exact hl
   ·rw [← h]; exact e2
   ·rw [← h]; simp only; rw [List.length_append, recB_length, e4, hsn]
   ·rw [← h]; simp only; rw [e5]; omega
   ·rw [hrest];have := congrArg List.length e1;have h3 := congrArg List.length hl;simp only [List.length_append, List.length_drop, recB_length] at this h3;have hs := e6 (by rw [List.length_drop]; omega);rw [← h]; simp only;rw [e5]; exact hs
theorem Told.more {g endp next : Nat} {l rest : Bs} {T T' : Tab} (h : Told g l endp next T rest) {p : Bs} (ht : T.takes p = some T') (hp : p.length < 65536) (rest' : Bs) :
  Told g (l.take endp ++ recB g next p ++ rest') (endp + p.length + 10) (next + 1) T' rest' := by
 obtain ⟨T0, ps, hw, hl, hr, hs, hsz, he, hn⟩ := h.ex;refine ⟨T0, ps ++ [p], hw, ?_, ?_, ?_, hsz, ?_, ?_⟩
 ·rw [logB_append];have : l.take endp = recB g 0 (snapB T0) ++ logB g 1 ps := by
   rw [hl, he, List.take_append_of_le_length (Nat.le_refl _), List.take_of_length_le (Nat.le_refl _)]
  rw [this, hn, show 1 + ps.length = ps.length + 1 by omega];simp only [logB, List.append_assoc, List.append_nil]
 ·rw [runs_append, hr];show T.runs [p] = _;simp only [Tab.runs, ht]
 ·intro q hq;rcases List.mem_append.1 hq with hq | hq
  ·exact hs q hq
  ·rw [List.mem_singleton.1 hq]; exact hp
 ·rw [he, logB_append];simp only [List.length_append, recB_length, logB, List.append_nil]; omega
 ·rw [hn, List.length_append]; rfl
theorem Told.fresh {g : Nat} {T : Tab} (hw : T.wf) (hsz : (snapB T).length < 65536) (rest : Bs) : Told g (recB g 0 (snapB T) ++ rest) ((snapB T).length + 10) 1 T rest :=
 ⟨T, [], hw, by simp [logB], rfl, fun _ h => (by cases h), hsz, by simp [logB, recB_length], rfl⟩
end Go.Proofs.YtmnajomkfnkmeaaGreatDoor
namespace Go.Proofs.YtmnajomkfnkmeaaGreatDoor
theorem countT_set (T : Tab) (i : Nat) (v : Option Sess) (n : Nat) : (List.range n).countP (fun j => ((T.set i v) j).isSome) + (if i < n ∧ (T i).isSome then 1 else 0) = (List.range n).countP (fun j => (T j).isSome) + (if i < n ∧ v.isSome then 1 else 0) := by
 induction n with
 | zero => simp
 | succ n ih =>
  rw [List.range_succ, List.countP_append, List.countP_append];simp only [List.countP_cons, List.countP_nil, Nat.zero_add];rcases Nat.lt_trichotomy i n with h | h | h
  ·have e : (T.set i v) n = T n := by unfold Tab.set; rw [if_neg (by omega)]
   rw [e];have h2 : i < n + 1 := by omega
   simp only [h, h2, true_and] at ih ⊢;omega
  ·subst h;have e : (T.set i v) i = v := by unfold Tab.set; rw [if_pos rfl]
   rw [e];simp only [Nat.lt_irrefl, false_and, if_false, Nat.add_zero] at ih;simp only [Nat.lt_succ_self, true_and];rw [ih];omega
  ·have e : (T.set i v) n = T n := by unfold Tab.set; rw [if_neg (by omega)]
   rw [e];have h1 : ¬ i < n := by omega
   have h2 : ¬ i < n + 1 := by omega
   simp only [h1, h2, false_and, if_false, Nat.add_zero] at ih ⊢;omega
theorem live_eq (T : Tab) (i : Nat) (v : Option Sess) (hi : i < 4096) : (T.set i v).live + (if (T i).isSome then 1 else 0) = T.live + (if v.isSome then 1 else 0) := by
 have := countT_set T i v 4096;simp only [hi, true_and] at this;exact this
theorem tset_same (T : Tab) (i : Nat) (v : Option Sess) : (T.set i v) i = v := by unfold Tab.set; rw [if_pos rfl]
theorem tset_other (T : Tab) {i j : Nat} (v : Option Sess) (h : j ≠ i) : (T.set i v) j = T j := by unfold Tab.set; rw [if_neg h]
theorem set_each {T : Tab} {i : Nat} {v : Option Sess} (h : ∀ j x, T j = some x → j < 4096 ∧ x.wf) (hv : ∀ x, v = some x → i < 4096 ∧ x.wf) : ∀ j x, (T.set i v) j = some x → j < 4096 ∧ x.wf := by
 intro j x hj;by_cases e : j = i
 ·subst e; rw [tset_same] at hj; exact hv x hj
 ·rw [tset_other T v e] at hj; exact h j x hj
theorem used_wf {x : Sess} (h : x.wf) {t : Nat} (ht : t ≤ maxT) : Sess.wf { x with used := t } := ⟨h.u0, h.u1, h.c1, ht, h.few, h.rise, h.each⟩
theorem setVal_wf {x : Sess} (h : x.wf) {n v : Bs} (hn : x.room n = true) (h1 : 1 ≤ n.length) (h2 : n.length ≤ 8) (h3 : v.length ≤ 8) {t : Nat} (ht : t ≤ maxT) : Sess.wf { x with vals := setVal n v x.vals, used := t } := by
 refine ⟨h.u0, h.u1, h.c1, ht, ?_, setVal_rising n v h.rise, ?_⟩
 ·show (setVal n v x.vals).length ≤ 3;unfold Sess.room at hn;rcases Bool.or_eq_true _ _ ▸ hn with hv | hl
  ·rw [setVal_has n v h.rise hv]; exact h.few
  ·have := (setVal_length n v x.vals).1;have := of_decide_eq_true hl;omega
 ·intro y hy;rcases setVal_names n v x.vals y hy with rfl | hy
  ·exact ⟨h1, h2, h3⟩
  ·exact h.each y hy
theorem live_le {T U : Tab} (h : ∀ i, (U i).isSome = true → (T i).isSome = true) : U.live ≤ T.live := by
 unfold Tab.live;exact List.countP_mono_left fun i _ hi => h i hi
theorem does_wf {T : Tab} {c : Chg} (hw : T.wf) (hc : c.ok) (ha : T.allows c = true) : (T.does c).wf := by
 cases c with
 | L id u t =>
  simp only [Chg.ok] at hc;unfold Tab.allows at ha;simp only [Bool.and_eq_true, decide_eq_true_eq] at ha;refine ⟨set_each hw.each ?_, ?_⟩
  ·intro x hx;simp only [Option.some.injEq] at hx;subst hx;exact ⟨hc.1, ⟨hc.2.1, hc.2.2.1, hc.2.2.2, hc.2.2.2, Nat.zero_le _, List.Pairwise.nil, fun y hy => by cases hy⟩⟩
  ·have := live_eq T id (some ⟨u, t, t, []⟩) hc.1;show (T.set id _).live ≤ 12;simp only [Option.isSome_some, if_true] at this;omega
 | T id t =>
  simp only [Chg.ok] at hc;refine ⟨set_each hw.each ?_, Nat.le_trans (live_le ?_) hw.few⟩
  ·intro x hx;obtain ⟨y, hy, rfl⟩ := Option.map_eq_some_iff.1 hx;exact ⟨hc.1, used_wf (hw.each id y hy).2 hc.2⟩
  ·intro i hi;by_cases e : i = id
   ·subst e; rw [show (T.does (.T i t)) i = _ from tset_same T i _, Option.isSome_map] at hi; exact hi
   ·rwa [show (T.does (.T id t)) i = _ from tset_other T _ e] at hi
 | R id to t =>
  simp only [Chg.ok] at hc;unfold Tab.allows at ha;simp only [Bool.and_eq_true] at ha;refine ⟨set_each (set_each hw.each (fun x hx => by cases hx)) ?_, ?_⟩
  ·intro x hx;obtain ⟨y, hy, rfl⟩ := Option.map_eq_some_iff.1 hx;exact ⟨hc.2.1, used_wf (hw.each id y hy).2 hc.2.2⟩
  ·have h1 := live_eq T id none hc.1;have h2 := live_eq (T.set id none) to ((T id).map fun x => { x with used := t }) hc.2.1;have h3 := hw.few;show ((T.set id none).set to _).live ≤ 12;rw [if_pos ha.1] at h1;simp only [Option.isSome_none, Bool.false_eq_true, if_false, Option.isSome_map, ha.1, if_true] at h1 h2;omega
 | S id n v t =>
  simp only [Chg.ok] at hc;replace ha : (match T id with | some x => x.room n | none => false) = true := ha;refine ⟨set_each hw.each ?_, Nat.le_trans (live_le ?_) hw.few⟩
  ·intro x hx;obtain ⟨y, hy, rfl⟩ := Option.map_eq_some_iff.1 hx;rw [hy] at ha;exact ⟨hc.1, setVal_wf (hw.each id y hy).2 ha hc.2.1 hc.2.2.1 hc.2.2.2.1 hc.2.2.2.2⟩
  ·intro i hi;by_cases e : i = id
   ·subst e; rw [show (T.does (.S i n v t)) i = _ from tset_same T i _, Option.isSome_map] at hi; exact hi
   ·rwa [show (T.does (.S id n v t)) i = _ from tset_other T _ e] at hi
 | X id =>
  refine ⟨set_each hw.each (fun x hx => by cases hx), Nat.le_trans (live_le ?_) hw.few⟩;intro i hi;by_cases e : i = id
  ·subst e; rw [show (T.does (.X i)) i = _ from tset_same T i _] at hi; cases hi
  ·rwa [show (T.does (.X id)) i = _ from tset_other T _ e] at hi
 | U u =>
  have key : ∀ i x, (T.does (.U u)) i = some x → T i = some x := by
   intro i x h;simp only [Tab.does] at h;cases hi : T i with
   | none => rw [hi] at h; cases h
   | some y =>
    rw [hi] at h;simp only at h;split at h
    ·cases h
    ·exact h
  refine ⟨fun i x h => hw.each i x (key i x h), Nat.le_trans (live_le ?_) hw.few⟩;intro i hi;obtain ⟨x, hx⟩ := Option.isSome_iff_exists.1 hi;rw [key i x hx]; rfl
theorem takes_some {T T' : Tab} {p : Bs} (h : T.takes p = some T') : ∃ c, p = chgB c ∧ c.ok ∧ T.allows c = true ∧ T' = T.does c := by
 unfold Tab.takes at h;cases hp : parseChg p with
 | none => rw [hp] at h; cases h
 | some c =>
  rw [hp] at h;simp only at h;obtain ⟨e, hc⟩ := parseChg_some hp;split at h
  ·rename_i ha;exact ⟨c, e, hc, ha, (Option.some.inj h).symm⟩
  ·cases h
theorem takes_of {T : Tab} {c : Chg} (hc : c.ok) (ha : T.allows c = true) : T.takes (chgB c) = some (T.does c) := by
 unfold Tab.takes;rw [parseChg_of c hc];simp only [ha, if_true]
theorem takes_wf {T T' : Tab} {p : Bs} (hw : T.wf) (h : T.takes p = some T') : T'.wf := by
 obtain ⟨c, _, hc, ha, rfl⟩ := takes_some h;exact does_wf hw hc ha
theorem tB_length (s : Bs) : (tB s).length = s.length + 1 := by simp [tB, nB_length]; omega
theorem chgB_length (c : Chg) (h : c.ok) : 2 ≤ (chgB c).length ∧ (chgB c).length ≤ 25 := by
 cases c <;> simp only [Chg.ok] at h <;> simp only [chgB, List.length_cons, List.length_append, nB_length, tB_length] <;> omega
end Go.Proofs.YtmnajomkfnkmeaaGreatDoor
namespace Go.Proofs.YtmnajomkfnkmeaaGreatDoor
def laidB (s : Bs) (p : Nat) (r : Bs) : Bs := s.take p ++ r ++ s.drop (p + r.length)
theorem laidB_length {s r : Bs} {p : Nat} (h : p + r.length ≤ s.length) : (laidB s p r).length = s.length := by
 simp only [laidB, List.length_append, List.length_take, List.length_drop]; omega
theorem laidB_get {s r : Bs} {p : Nat} (h : p + r.length ≤ s.length) (i : Nat) : (laidB s p r)[i]? = if i < p then s[i]? else if i < p + r.length then r[i - p]? else s[i]? := by
 have e1 : (s.take p).length = p := by rw [List.length_take]; omega
 unfold laidB;rw [List.append_assoc, List.getElem?_append, e1];split
 ·rw [List.getElem?_take, if_pos (by assumption)]
 ·rw [List.getElem?_append];split
  ·rw [if_pos (by omega)]
  ·rw [if_neg (by omega), List.getElem?_drop];congr 1; omega
theorem region_get (d : Bs) (r i : Nat) : (regionB d r)[i]? = if i < halfN d.length then d[regAt d.length r + i]? else none := by
 unfold regionB;rw [List.getElem?_take];split
 ·rw [List.getElem?_drop]
 ·rfl
theorem region_length {d : Bs} {r : Nat} (h : okSize d.length) (hr : r ≤ 1) : (regionB d r).length = halfN d.length := by
 have := regAt_le h hr;unfold regionB;rw [List.length_take, List.length_drop]; omega
theorem laid_region {d r : Bs} {g off : Nat} (h : okSize d.length) (hg : g ≤ 1) (ho : off + r.length ≤ halfN d.length) :
  regionB (laidB d (regAt d.length g + off) r) g = laidB (regionB d g) off r := by
 have hb := regAt_le h hg;have hl : (laidB d (regAt d.length g + off) r).length = d.length := laidB_length (by omega);apply List.ext_getElem?;intro i;rw [region_get, hl, laidB_get (by omega), laidB_get (by rw [region_length h hg]; omega), region_get];by_cases c1 : i < off
 ·simp only [c1, if_true];rw [if_pos (show regAt d.length g + i < regAt d.length g + off by omega)]
 ·by_cases c2 : i < off + r.length
  ·rw [if_neg c1, if_pos c2, if_pos (by omega), if_neg (by omega), if_pos (by omega)];congr 1; omega
  ·rw [if_neg c1, if_neg c2];split
   ·rw [if_neg (by omega), if_neg (by omega)]
   ·rfl
theorem laid_region_other {d r : Bs} {g o off : Nat} (h : okSize d.length) (hg : g ≤ 1) (ho : o ≤ 1) (hne : o ≠ g) (hoff : off + r.length ≤ halfN d.length) :
  regionB (laidB d (regAt d.length g + off) r) o = regionB d o := by
 have hb := regAt_le h hg;have hb2 := half_bounds h;have hl : (laidB d (regAt d.length g + off) r).length = d.length := laidB_length (by omega);apply List.ext_getElem?;intro i;rw [region_get, hl, laidB_get (by omega), region_get];split
 ·have hr : regAt d.length o + i < regAt d.length g + off ∨ ¬ regAt d.length o + i < regAt d.length g + off + r.length := by
   have hh : (g = 0 ∧ o = 1) ∨ (g = 1 ∧ o = 0) := by omega
   unfold regAt;rcases hh with ⟨rfl, rfl⟩ | ⟨rfl, rfl⟩
   ·right; omega
   ·left; omega
  rcases hr with c | c
  ·rw [if_pos c]
  ·rw [if_neg (by omega), if_neg c]
 ·rfl
theorem laid_front {d r : Bs} {p : Nat} (hp : 64 ≤ p) (h : p + r.length ≤ d.length) : (laidB d p r).take 64 = d.take 64 := by
 apply List.ext_getElem?;intro i;rw [List.getElem?_take, List.getElem?_take, laidB_get h];split
 ·rw [if_pos (by omega)]
 ·rfl
theorem laid_head_region {d r : Bs} {p g : Nat} (hd : okSize d.length) (hg : g ≤ 1) (hp : p + r.length ≤ 64) : regionB (laidB d p r) g = regionB d g := by
 have hb := regAt_le hd hg;have hb2 := half_bounds hd;have hl : (laidB d p r).length = d.length := laidB_length (by omega);apply List.ext_getElem?;intro i;rw [region_get, hl, laidB_get (by omega), region_get];split
 ·rw [if_neg (by omega), if_neg (by omega)]
 ·rfl
theorem laidB_tail {l r : Bs} {p z : Nat} (h : l.drop p = zeros z) : laidB l p r = l.take p ++ r ++ zeros (z - r.length) := by
 unfold laidB;rw [← List.drop_drop, h, zeros_drop]
structure Holds (d : Bs) (st : St) : Prop where
 size : okSize d.length
 head : theHead d = some (st.gen, st.reg, st.slot)
 told : Told st.gen (regionB d st.reg) st.endp st.next st.T (zeros (halfN d.length - st.endp))
 wf : st.T.wf
theorem Holds.bounds {d : Bs} {st : St} (h : Holds d st) : 1 ≤ st.gen ∧ st.gen < 4294967296 ∧ st.reg ≤ 1 ∧ st.slot ≤ 1 ∧ st.endp ≤ halfN d.length ∧ 11 ≤ st.endp + 1 := by
 have hb := theHead_bounds h.head;have hl := h.told.len;rw [region_length h.size hb.2.2.1, zeros_length] at hl;exact ⟨hb.1, hb.2.1, hb.2.2.1, hb.2.2.2.1, by omega, by omega⟩
theorem runs_wf {T T' : Tab} {ps : List Bs} (hw : T.wf) (h : T.runs ps = some T') : T'.wf := by
 induction ps generalizing T with
 | nil => cases h; exact hw
 | cons p ps ih =>
  simp only [Tab.runs] at h;cases hp : T.takes p with
  | none => rw [hp] at h; cases h
  | some T1 => rw [hp] at h; exact ih (takes_wf hw hp) h
theorem Told.wf {g endp next : Nat} {l rest : Bs} {T : Tab} (h : Told g l endp next T rest) : T.wf := by
 obtain ⟨T0, ps, hw, _, hr, _⟩ := h.ex;exact runs_wf hw hr
theorem read_holds {d : Bs} {st : St} (hs : okSize d.length) (h : readD d = some st) : Holds (cleanD d st) st ∧ (cleanD d st).length = d.length := by
 unfold readD at h;cases hh : theHead d with
 | none => rw [hh] at h; cases h
 | some x =>
  obtain ⟨g, r, s⟩ := x;rw [hh] at h;simp only at h;obtain ⟨e1, e2, e3, e4, e5, e6⟩ := readReg_told h;obtain ⟨b1, b2, b3, b4, _⟩ := theHead_bounds hh;subst e1 e2 e3;rw [region_length hs b3] at e5;have hrb := regAt_le hs b3;have hlen : (cleanD d st).length = d.length := by
   unfold cleanD;simp only [List.length_append, List.length_take, List.length_drop, zeros_length]; omega
  have hcl : cleanD d st = laidB d (regAt d.length st.reg + st.endp) (zeros (halfN d.length - st.endp)) := by
   unfold cleanD laidB;rw [zeros_length, show regAt d.length st.reg + st.endp + (halfN d.length - st.endp) = regAt d.length st.reg + halfN d.length by omega]
  refine ⟨⟨by rw [hlen]; exact hs, ?_, ?_, e4.wf⟩, hlen⟩
  ·rw [← hh];refine theHead_front ?_;rw [hcl];exact laid_front (by omega) (by rw [zeros_length]; omega)
  ·rw [hlen, hcl, laid_region hs b3 (by rw [zeros_length]; omega)];obtain ⟨T0, ps, t1, t2, t3, t4, t5, t6, t7⟩ := e4.ex;refine ⟨T0, ps, t1, ?_, t3, t4, t5, t6, t7⟩;unfold laidB;have ht : (regionB d st.reg).take st.endp = recB st.gen 0 (snapB T0) ++ logB st.gen 1 ps := by
    rw [t2, t6, List.take_append_of_le_length (Nat.le_refl _), List.take_of_length_le (Nat.le_refl _)]
   rw [ht, zeros_length, List.drop_of_length_le (by rw [region_length hs b3]; omega), List.append_nil]
def St.does (st : St) (c : Chg) : St := { st with endp := st.endp + (chgB c).length + 10, next := st.next + 1, T := st.T.does c }
theorem Holds.change {d : Bs} {st : St} (h : Holds d st) {c : Chg} (hc : c.ok) (ha : st.T.allows c = true) (hr : st.endp + (chgB c).length + 10 ≤ halfN d.length) :
  Holds (laidB d (regAt d.length st.reg + st.endp) (recB st.gen st.next (chgB c))) (st.does c) := by
 have hb := h.bounds;have hrb := regAt_le h.size hb.2.2.1;have hlen : (laidB d (regAt d.length st.reg + st.endp) (recB st.gen st.next (chgB c))).length = d.length := laidB_length (by rw [recB_length]; omega);refine ⟨by rw [hlen]; exact h.size, ?_, ?_, does_wf h.wf hc ha⟩
 ·rw [theHead_front (laid_front (by omega) (by rw [recB_length]; omega))]; exact h.head
 ·have hl := h.told.len;rw [hlen];show Told st.gen (regionB _ st.reg) (st.endp + (chgB c).length + 10) (st.next + 1) (st.T.does c) (zeros (halfN d.length - (st.endp + (chgB c).length + 10)));rw [laid_region h.size hb.2.2.1 (by rw [recB_length]; omega), laidB_tail hl.2.2.1, recB_length];rw [show halfN d.length - st.endp - ((chgB c).length + 10) = halfN d.length - (st.endp + (chgB c).length + 10) by omega];exact h.told.more (takes_of hc ha) (by have := (chgB_length c hc).2; omega) _
def St.next2 (st : St) : St := ⟨st.gen + 1, 1 - st.reg, 1 - st.slot, (snapB st.T).length + 10, 1, st.T⟩
theorem Holds.half {d : Bs} {st : St} (h : Holds d st) {l : Bs} (hl : l.length ≤ halfN d.length) : Holds (laidB d (regAt d.length (1 - st.reg)) l) st := by
 have hb := h.bounds;have hrb := regAt_le h.size (show 1 - st.reg ≤ 1 by omega);have hlen : (laidB d (regAt d.length (1 - st.reg)) l).length = d.length := laidB_length (by omega);refine ⟨by rw [hlen]; exact h.size, ?_, ?_, h.wf⟩
 ·rw [theHead_front (laid_front (by omega) (by omega))]; exact h.head
 ·rw [hlen];have := laid_region_other (d := d) (r := l) (g := 1 - st.reg) (o := st.reg) (off := 0) h.size (by omega) hb.2.2.1 (by omega) (by omega);rw [Nat.add_zero] at this;rw [this]; exact h.told
theorem laid_sector {d r : Bs} {s : Nat} (hd : 64 ≤ d.length) (hs : s ≤ 1) (hr : r.length = 32) : ((laidB d (32 * s) r).drop (32 * s)).take 32 = r ∧ ((laidB d (32 * s) r).drop (32 * (1 - s))).take 32 = (d.drop (32 * (1 - s))).take 32 := by
 constructor
 ·apply List.ext_getElem?;intro i;rw [List.getElem?_take];split
  ·rw [List.getElem?_drop, laidB_get (by omega), if_neg (by omega), if_pos (by omega)];congr 1; omega
  ·rw [List.getElem?_eq_none (by omega)]
 ·apply List.ext_getElem?;intro i;rw [List.getElem?_take, List.getElem?_take];split
  ·rw [List.getElem?_drop, List.getElem?_drop, laidB_get (by omega)]
   match s, hs with
   | 0, _ => rw [if_neg (by omega), if_neg (by omega)]
   | 1, _ => rw [if_pos (by omega)]
  ·rfl
theorem theHead_laid {d : Bs} {g r s : Nat} (h : theHead d = some (g, r, s)) (hd : 64 ≤ d.length) (h1 : g + 1 < 4294967296) {q : Nat} (hq : q ≤ 1) : theHead (laidB d (32 * (1 - s)) (sectB (g + 1) q)) = some (g + 1, q, 1 - s) := by
 have hb := theHead_bounds h;have hl := laid_sector (s := 1 - s) hd (by omega) (sectB_length (g + 1) q);have ho := headOf_sect (g + 1) q (by omega) h1 hq;have hold := headOf_sect g r hb.1 hb.2.1 hb.2.2.1;rw [← hb.2.2.2.2] at hold;have hs := hb.2.2.2.1;generalize laidB d (32 * (1 - s)) (sectB (g + 1) q) = d' at *
 match s, hs with
 | 0, _ =>
  have e0 : headOf (d'.take 32) = some (g, r) := by
   have := hl.2;simp only [Nat.sub_zero, Nat.sub_self, Nat.mul_zero, List.drop_zero] at this hold;rw [this]; exact hold
  have e1 : headOf ((d'.drop 32).take 32) = some (g + 1, q) := by rw [hl.1]; exact ho
  unfold theHead;rw [e0, e1];simp
 | 1, _ =>
  have e1 : headOf ((d'.drop 32).take 32) = some (g, r) := by
   have := hl.2;rw [this]; exact hold
  have e0 : headOf (d'.take 32) = some (g + 1, q) := by
   have := hl.1;simp only [Nat.sub_self, Nat.mul_zero, List.drop_zero] at this;rw [this]; exact ho
  unfold theHead;rw [e0, e1];simp
theorem Holds.turn {d : Bs} {st : St} (h : Holds d st) (hg : st.gen + 1 < 4294967296) (hr : (snapB st.T).length + 10 ≤ halfN d.length) :
  Holds (laidB (laidB d (regAt d.length (1 - st.reg)) (recB (st.gen + 1) 0 (snapB st.T) ++ zeros (halfN d.length - ((snapB st.T).length + 10)))) (32 * (1 - st.slot)) (sectB (st.gen + 1) (1 - st.reg))) st.next2 := by
 have hb := h.bounds;have hhb := half_bounds h.size;have hrb := regAt_le h.size (show 1 - st.reg ≤ 1 by omega);have hll : (recB (st.gen + 1) 0 (snapB st.T) ++ zeros (halfN d.length - ((snapB st.T).length + 10))).length = halfN d.length := by rw [List.length_append, recB_length, zeros_length]; omega
 have h1 := h.half (l := recB (st.gen + 1) 0 (snapB st.T) ++ zeros (halfN d.length - ((snapB st.T).length + 10))) (by omega);have hlen : (laidB d (regAt d.length (1 - st.reg)) (recB (st.gen + 1) 0 (snapB st.T) ++ zeros (halfN d.length - ((snapB st.T).length + 10)))).length = d.length := laidB_length (by omega);have hreg := laid_region (d := d) (r := recB (st.gen + 1) 0 (snapB st.T) ++ zeros (halfN d.length - ((snapB st.T).length + 10))) (g := 1 - st.reg) (off := 0) h.size (by omega) (by omega);rw [Nat.add_zero] at hreg;generalize laidB d (regAt d.length (1 - st.reg)) (recB (st.gen + 1) 0 (snapB st.T) ++ zeros (halfN d.length - ((snapB st.T).length + 10))) = e at *
 have hlen2 : (laidB e (32 * (1 - st.slot)) (sectB (st.gen + 1) (1 - st.reg))).length = d.length := by rw [laidB_length (by rw [sectB_length]; omega)]; exact hlen
 refine ⟨by rw [hlen2]; exact h.size, ?_, ?_, h.wf⟩
 ·exact theHead_laid h1.head (by omega) hg (by omega)
 ·rw [hlen2];show Told (st.gen + 1) (regionB _ (1 - st.reg)) ((snapB st.T).length + 10) 1 st.T (zeros (halfN d.length - ((snapB st.T).length + 10)));rw [laid_head_region h1.size (by omega) (by rw [sectB_length]; omega), hreg];unfold laidB;rw [List.take_zero, List.nil_append, List.drop_of_length_le (by rw [region_length h.size (by omega)]; omega), List.append_nil];exact Told.fresh h.wf (by omega) _
end Go.Proofs.YtmnajomkfnkmeaaGreatDoor
namespace Go.Proofs.YtmnajomkfnkmeaaGreatDoor
def withRec (d : Bs) (st : St) (c : Chg) : Bs := laidB d (regAt d.length st.reg + st.endp) (recB st.gen st.next (chgB c))
structure Fits (d : Bs) (st : St) (c : Chg) : Prop where
 holds : Holds d st
 ok : c.ok
 allows : st.T.allows c = true
 room : st.endp + (chgB c).length + 10 ≤ halfN d.length
end Go.Proofs.YtmnajomkfnkmeaaGreatDoor
