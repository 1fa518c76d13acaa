import GoSem.Op.String
namespace Go.Proofs.YtmnajomkfnkmeaaGreatDoor
theorem gT {α : Type} {l : List α} {i : Nat} : l.toArray[i]? = l[i]? := List.getElem?_toArray
theorem gZ {α : Type} {a : α} {l : List α} : (a :: l)[0]? = some a := List.getElem?_cons_zero
theorem gS {α : Type} {a : α} {l : List α} {i : Nat} : (a :: l)[i + 1]? = l[i]? := List.getElem?_cons_succ
abbrev Bs := List UInt8
def ofL (l : Bs) : ByteArray := ⟨l.toArray⟩
def toL (s : ByteArray) : Bs := s.data.toList
theorem toL_ofL (l : Bs) : toL (ofL l) = l := rfl
theorem ofL_toL (s : ByteArray) : ofL (toL s) = s := rfl
theorem ofL_inj {a b : Bs} (h : ofL a = ofL b) : a = b := congrArg toL h
theorem toL_inj {a b : ByteArray} (h : toL a = toL b) : a = b := congrArg ofL h
theorem toL_length (s : ByteArray) : (toL s).length = s.size := rfl
theorem ofL_size (l : Bs) : (ofL l).size = l.length := rfl
theorem toL_append (a b : ByteArray) : toL (a ++ b) = toL a ++ toL b := by simp [toL]
theorem ofL_append (a b : Bs) : ofL (a ++ b) = ofL a ++ ofL b := toL_inj (by rw [toL_append]; rfl)
theorem toL_extract (s : ByteArray) (a b : Nat) : toL (s.extract a b) = ((toL s).drop a).take (b - a) := by
 simp [toL, ByteArray.data_extract, Array.toList_extract]
theorem extract_ofL (l : Bs) (a b : Nat) : (ofL l).extract a b = ofL ((l.drop a).take (b - a)) := toL_inj (by rw [toL_extract]; rfl)
theorem toListAux (s : ByteArray) : ∀ (n i : Nat) (r : Bs), s.size - i = n → i ≤ s.size → ByteArray.toList.loop s i r = r.reverse ++ (toL s).drop i := by
 intro n
 induction n with
 | zero =>
  intro i r h hi;unfold ByteArray.toList.loop;rw [if_neg (by omega), List.drop_of_length_le (by rw [toL_length]; omega), List.append_nil]
 | succ n ih =>
  intro i r h hi;unfold ByteArray.toList.loop;rw [if_pos (by omega), ih (i + 1) _ (by omega) (by omega)];have hlt : i < (toL s).length := by rw [toL_length]; omega
  rw [List.drop_eq_getElem_cons hlt];have : s.get! i = (toL s)[i] := by
   have hs : i < s.data.size := by simpa [toL] using hlt
   show s.data[i]! = _;rw [getElem!_pos s.data i hs];simp [toL]
  rw [this]; simp
theorem toList_toL (s : ByteArray) : s.toList = toL s := by
 unfold ByteArray.toList;rw [toListAux s _ 0 [] rfl (Nat.zero_le _)]; rfl
theorem eq_toList (a b : ByteArray) : (a.toList == b.toList) = (toL a == toL b) := by rw [toList_toL, toList_toL]
def nB : Nat → Int → List UInt8
 | 0, _ => []
 | w + 1, n => UInt8.ofNat (n % 256).toNat :: nB w (n / 256)
def nA (w : Nat) (n : Int) : ByteArray := ⟨(nB w n).toArray⟩
theorem nB_length (w : Nat) (n : Int) : (nB w n).length = w := by
 induction w generalizing n with
 | zero => rfl
 | succ w ih => simp [nB, ih]
theorem nA_size (w : Nat) (n : Int) : (nA w n).size = w := by simp [nA, ByteArray.size, nB_length]
theorem toL_nA (w : Nat) (n : Int) : toL (nA w n) = nB w n := rfl
def numL : Bs → Nat
 | [] => 0
 | b :: l => b.toNat + 256 * numL l
theorem numL_lt (l : Bs) : numL l < 256 ^ l.length := by
 induction l with
 | nil => simp [numL]
 | cons b l ih =>
  have hb := b.toNat_lt;simp only [numL, List.length_cons, Nat.pow_succ];omega
theorem numL_append (a b : Bs) : numL (a ++ b) = numL a + 256 ^ a.length * numL b := by
 induction a with
 | nil => simp [numL]
 | cons x a ih =>
  simp only [List.cons_append, numL, ih, List.length_cons, Nat.pow_succ, Nat.mul_add, ← Nat.mul_assoc];rw [Nat.mul_comm 256 (256 ^ a.length)];omega
theorem nB_numL (l : Bs) : nB l.length (numL l) = l := by
 induction l with
 | nil => rfl
 | cons b l ih =>
  have hb := b.toNat_lt;simp only [List.length_cons, nB, numL];have e1 : ((b.toNat + 256 * numL l : Nat) : Int) % 256 = b.toNat := by omega
  have e2 : ((b.toNat + 256 * numL l : Nat) : Int) / 256 = numL l := by omega
  rw [e1, e2, ih]; simp
theorem numL_nB (w : Nat) (n : Nat) (h : n < 256 ^ w) : numL (nB w n) = n := by
 induction w generalizing n with
 | zero => simp at h; subst h; rfl
 | succ w ih =>
  simp only [nB, numL];have e2 : ((n : Int) / 256) = ((n / 256 : Nat) : Int) := by omega
  rw [e2, ih (n / 256) (by rw [Nat.pow_succ] at h; omega)];have : (UInt8.ofNat ((n : Int) % 256).toNat).toNat = n % 256 := by
   simp; omega
  rw [this]; omega
def pNum (w lo hi : Nat) (l : Bs) : Option (Nat × Bs) :=
 if w ≤ l.length ∧ lo ≤ numL (l.take w) ∧ numL (l.take w) ≤ hi then some (numL (l.take w), l.drop w) else none
def pTxt (lo hi : Nat) (l : Bs) : Option (Bs × Bs) :=
 match pNum 1 lo hi l with
 | none => none
 | some (n, r) => if n ≤ r.length then some (r.take n, r.drop n) else none
theorem pNum_some {w lo hi : Nat} {l r : Bs} {n : Nat} (h : pNum w lo hi l = some (n, r)) : l = nB w n ++ r ∧ lo ≤ n ∧ n ≤ hi ∧ n < 256 ^ w := by
 unfold pNum at h;split at h
 ·rename_i c;simp only [Option.some.injEq, Prod.mk.injEq] at h;obtain ⟨rfl, rfl⟩ := h;refine ⟨?_, c.2.1, c.2.2, ?_⟩
  ·have := nB_numL (l.take w);rw [List.length_take_of_le c.1] at this;rw [this, List.take_append_drop]
  ·have := numL_lt (l.take w)
   rwa [List.length_take_of_le c.1] at this
 ·cases h
theorem pNum_of {w lo hi n : Nat} (r : Bs) (h0 : lo ≤ n) (h1 : n ≤ hi) (h2 : n < 256 ^ w) : pNum w lo hi (nB w n ++ r) = some (n, r) := by
 unfold pNum;have e : (nB w (n : Int) ++ r).take w = nB w n := by rw [List.take_append_of_le_length (by rw [nB_length]; exact Nat.le_refl _), List.take_of_length_le (by rw [nB_length]; exact Nat.le_refl _)]
 have e2 : (nB w (n : Int) ++ r).drop w = r := by rw [List.drop_append_of_le_length (by rw [nB_length]; exact Nat.le_refl _), List.drop_of_length_le (by rw [nB_length]; exact Nat.le_refl _)]; rfl
 rw [e, e2, numL_nB w n h2, if_pos ⟨by simp [nB_length], h0, h1⟩]
def tB (s : Bs) : Bs := nB 1 s.length ++ s
theorem pTxt_some {lo hi : Nat} {l r s : Bs} (h : pTxt lo hi l = some (s, r)) : l = tB s ++ r ∧ lo ≤ s.length ∧ s.length ≤ hi := by
 unfold pTxt at h;split at h
 ·cases h
 ·rename_i n q hq;obtain ⟨rfl, h0, h1, h2⟩ := pNum_some hq;split at h
  ·rename_i hn;simp only [Option.some.injEq, Prod.mk.injEq] at h;obtain ⟨rfl, rfl⟩ := h;rw [List.length_take_of_le hn];refine ⟨?_, h0, h1⟩;unfold tB;rw [List.length_take_of_le hn, List.append_assoc, List.take_append_drop]
  ·cases h
theorem pTxt_of {lo hi : Nat} (s r : Bs) (h0 : lo ≤ s.length) (h1 : s.length ≤ hi) (h2 : s.length < 256) : pTxt lo hi (tB s ++ r) = some (s, r) := by
 unfold pTxt tB;rw [List.append_assoc, pNum_of (s ++ r) h0 h1 (by omega)];simp
structure Sess where
 user : Nat
 created : Nat
 used : Nat
 vals : List (Bs × Bs)
 deriving Inhabited, DecidableEq
abbrev Tab := Nat → Option Sess
def noTab : Tab := fun _ => none
def Tab.set (T : Tab) (i : Nat) (x : Option Sess) : Tab := fun j => if j = i then x else T j
def Tab.live (T : Tab) : Nat := (List.range 4096).countP fun i => (T i).isSome
def Tab.ofUser (T : Tab) (u : Nat) : Nat := (List.range 4096).countP fun i => match T i with | some x => x.user == u | none => false
def valAt (n : Bs) : List (Bs × Bs) → Option Bs
 | [] => none
 | (m, v) :: r => if m = n then some v else valAt n r
def setVal (n v : Bs) : List (Bs × Bs) → List (Bs × Bs)
 | [] => [(n, v)]
 | (m, u) :: r => if m = n then (n, v) :: r else if Op.bytesLess m n then (m, u) :: setVal n v r else (n, v) :: (m, u) :: r
def Sess.room (x : Sess) (n : Bs) : Bool := (valAt n x.vals).isSome || decide (x.vals.length < 3)
inductive Chg where
 | L (id user time : Nat)
 | T (id time : Nat)
 | R (id to time : Nat)
 | S (id : Nat) (name value : Bs) (time : Nat)
 | X (id : Nat)
 | U (user : Nat)
def Tab.allows (T : Tab) : Chg → Bool
 | .L id _ _ => (T id).isNone && decide (T.live < 12)
 | .T id _ => (T id).isSome
 | .X id => (T id).isSome
 | .R id to _ => (T id).isSome && (T to).isNone
 | .S id n _ _ => match T id with | some x => x.room n | none => false
 | .U u => decide (0 < T.ofUser u)
def Tab.does (T : Tab) : Chg → Tab
 | .L id u t => T.set id (some ⟨u, t, t, []⟩)
 | .T id t => T.set id ((T id).map fun x => { x with used := t })
 | .R id to t => (T.set id none).set to ((T id).map fun x => { x with used := t })
 | .S id n v t => T.set id ((T id).map fun x => { x with vals := setVal n v x.vals, used := t })
 | .X id => T.set id none
 | .U u => fun i => match T i with | some x => if x.user = u then none else some x | none => none
def chgB : Chg → Bs
 | .L id u t => 76 :: (nB 2 id ++ nB 1 u ++ nB 4 t)
 | .T id t => 84 :: (nB 2 id ++ nB 4 t)
 | .R id to t => 82 :: (nB 2 id ++ nB 2 to ++ nB 4 t)
 | .S id n v t => 83 :: (nB 2 id ++ tB n ++ tB v ++ nB 4 t)
 | .X id => 88 :: nB 2 id
 | .U u => 85 :: nB 1 u
def maxT : Nat := 1000000000
def Chg.ok : Chg → Prop
 | .L id u t => id < 4096 ∧ 1 ≤ u ∧ u ≤ 99 ∧ t ≤ maxT
 | .T id t => id < 4096 ∧ t ≤ maxT
 | .R id to t => id < 4096 ∧ to < 4096 ∧ t ≤ maxT
 | .S id n v t => id < 4096 ∧ 1 ≤ n.length ∧ n.length ≤ 8 ∧ v.length ≤ 8 ∧ t ≤ maxT
 | .X id => id < 4096
 | .U u => 1 ≤ u ∧ u ≤ 99
def atEnd {α : Type} : Option (α × Bs) → Option α
 | some (x, []) => some x
 | _ => none
def parseL (l : Bs) : Option (Chg × Bs) :=
 (pNum 2 0 4095 l).bind fun a => (pNum 1 1 99 a.2).bind fun b => (pNum 4 0 maxT b.2).bind fun c => some (.L a.1 b.1 c.1, c.2)
def parseT (l : Bs) : Option (Chg × Bs) :=
 (pNum 2 0 4095 l).bind fun a => (pNum 4 0 maxT a.2).bind fun c => some (.T a.1 c.1, c.2)
def parseR (l : Bs) : Option (Chg × Bs) :=
 (pNum 2 0 4095 l).bind fun a => (pNum 2 0 4095 a.2).bind fun b => (pNum 4 0 maxT b.2).bind fun c => some (.R a.1 b.1 c.1, c.2)
def parseS (l : Bs) : Option (Chg × Bs) :=
 (pNum 2 0 4095 l).bind fun a => (pTxt 1 8 a.2).bind fun b => (pTxt 0 8 b.2).bind fun d => (pNum 4 0 maxT d.2).bind fun c => some (.S a.1 b.1 d.1 c.1, c.2)
def parseX (l : Bs) : Option (Chg × Bs) := (pNum 2 0 4095 l).bind fun a => some (.X a.1, a.2)
def parseU (l : Bs) : Option (Chg × Bs) := (pNum 1 1 99 l).bind fun a => some (.U a.1, a.2)
def parseKind (k : UInt8) (l : Bs) : Option (Chg × Bs) :=
 if k = 76 then parseL l else if k = 84 then parseT l else if k = 82 then parseR l else if k = 83 then parseS l
 else if k = 88 then parseX l else if k = 85 then parseU l else none
def parseChg : Bs → Option Chg
 | [] => none
 | k :: l => atEnd (parseKind k l)
theorem atEnd_some {α : Type} {o : Option (α × Bs)} {c : α} (h : atEnd o = some c) : o = some (c, []) := by
 match o, h with
 | some (x, []), h => simp only [atEnd, Option.some.injEq] at h; rw [h]
theorem parseKind_some {k : UInt8} {l r : Bs} {c : Chg} (h : parseKind k l = some (c, r)) : k :: l = chgB c ++ r ∧ c.ok := by
 unfold parseKind at h;split at h
 ·rename_i hk; subst hk;simp only [parseL, Option.bind_eq_some_iff] at h;obtain ⟨⟨a, l1⟩, h1, ⟨b, l2⟩, h2, ⟨d, l3⟩, h3, h⟩ := h;simp only [Option.some.injEq, Prod.mk.injEq] at h h1 h2 h3;obtain ⟨rfl, rfl⟩ := h;obtain ⟨e1, a0, a1, _⟩ := pNum_some h1;obtain ⟨e2, b0, b1, _⟩ := pNum_some h2;obtain ⟨e3, d0, d1, _⟩ := pNum_some h3;rw [e1, e2, e3];exact ⟨by simp [chgB], by simp only [Chg.ok]; omega⟩
 split at h
 ·rename_i hk; subst hk;simp only [parseT, Option.bind_eq_some_iff] at h;obtain ⟨⟨a, l1⟩, h1, ⟨d, l3⟩, h3, h⟩ := h;simp only [Option.some.injEq, Prod.mk.injEq] at h h1 h3;obtain ⟨rfl, rfl⟩ := h;obtain ⟨e1, a0, a1, _⟩ := pNum_some h1;obtain ⟨e3, d0, d1, _⟩ := pNum_some h3;rw [e1, e3];exact ⟨by simp [chgB], by simp only [Chg.ok]; omega⟩
 split at h
 ·rename_i hk; subst hk;simp only [parseR, Option.bind_eq_some_iff] at h;obtain ⟨⟨a, l1⟩, h1, ⟨b, l2⟩, h2, ⟨d, l3⟩, h3, h⟩ := h;simp only [Option.some.injEq, Prod.mk.injEq] at h h1 h2 h3;obtain ⟨rfl, rfl⟩ := h;obtain ⟨e1, a0, a1, _⟩ := pNum_some h1;obtain ⟨e2, b0, b1, _⟩ := pNum_some h2;obtain ⟨e3, d0, d1, _⟩ := pNum_some h3;rw [e1, e2, e3];exact ⟨by simp [chgB], by simp only [Chg.ok]; omega⟩
 split at h
 ·rename_i hk; subst hk;simp only [parseS, Option.bind_eq_some_iff] at h;obtain ⟨⟨a, l1⟩, h1, ⟨b, l2⟩, h2, ⟨b', l2'⟩, h2', ⟨d, l3⟩, h3, h⟩ := h;simp only [Option.some.injEq, Prod.mk.injEq] at h h1 h2 h2' h3;obtain ⟨rfl, rfl⟩ := h;obtain ⟨e1, a0, a1, _⟩ := pNum_some h1;obtain ⟨e2, b0, b1⟩ := pTxt_some h2;obtain ⟨e2', b0', b1'⟩ := pTxt_some h2';obtain ⟨e3, d0, d1, _⟩ := pNum_some h3;rw [e1, e2, e2', e3];exact ⟨by simp [chgB], by simp only [Chg.ok]; omega⟩
 split at h
 ·rename_i hk; subst hk;simp only [parseX, Option.bind_eq_some_iff] at h;obtain ⟨⟨a, l1⟩, h1, h⟩ := h;simp only [Option.some.injEq, Prod.mk.injEq] at h h1;obtain ⟨rfl, rfl⟩ := h;obtain ⟨e1, a0, a1, _⟩ := pNum_some h1;rw [e1];exact ⟨by simp [chgB], by simp only [Chg.ok]; omega⟩
 split at h
 ·rename_i hk; subst hk;simp only [parseU, Option.bind_eq_some_iff] at h;obtain ⟨⟨a, l1⟩, h1, h⟩ := h;simp only [Option.some.injEq, Prod.mk.injEq] at h h1;obtain ⟨rfl, rfl⟩ := h;obtain ⟨e1, a0, a1, _⟩ := pNum_some h1;rw [e1];exact ⟨by simp [chgB], by simp only [Chg.ok]; omega⟩
 ·cases h
theorem parseChg_some {p : Bs} {c : Chg} (h : parseChg p = some c) : p = chgB c ∧ c.ok := by
 match p, h with
 | k :: l, h =>
  have := parseKind_some (atEnd_some h)
  rwa [List.append_nil] at this
theorem parseChg_of (c : Chg) (h : c.ok) : parseChg (chgB c) = some c := by
 have four : ∀ t : Nat, t ≤ 1000000000 → pNum 4 0 maxT (nB 4 t) = some (t, []) := fun t ht => by
  have := pNum_of (w := 4) (lo := 0) (hi := maxT) (n := t) [] (by omega) (by unfold maxT; omega) (by omega)
  rwa [List.append_nil] at this
 cases c <;> simp only [Chg.ok, maxT] at h <;> simp only [chgB, parseChg, parseKind]
 case L id u t =>
  rw [if_pos trivial];simp only [parseL, List.append_assoc];rw [pNum_of _ (by omega) (by omega) (by omega), Option.bind_some, pNum_of _ (by omega) (by omega) (by omega), Option.bind_some, four t (by omega)]; rfl
 case T id t =>
  rw [if_neg (by decide), if_pos trivial];simp only [parseT];rw [pNum_of _ (by omega) (by omega) (by omega), Option.bind_some, four t (by omega)]; rfl
 case R id to t =>
  rw [if_neg (by decide), if_neg (by decide), if_pos trivial];simp only [parseR, List.append_assoc];rw [pNum_of _ (by omega) (by omega) (by omega), Option.bind_some, pNum_of _ (by omega) (by omega) (by omega), Option.bind_some, four t (by omega)]; rfl
 case S id n v t =>
  rw [if_neg (by decide), if_neg (by decide), if_neg (by decide), if_pos trivial];simp only [parseS, List.append_assoc];rw [pNum_of _ (by omega) (by omega) (by omega), Option.bind_some, pTxt_of _ _ (by omega) (by omega) (by omega), Option.bind_some, pTxt_of _ _ (by omega) (by omega) (by omega), Option.bind_some, four t (by omega)]; rfl
 case X id =>
  rw [if_neg (by decide), if_neg (by decide), if_neg (by decide), if_neg (by decide), if_pos trivial];have := pNum_of (w := 2) (lo := 0) (hi := 4095) (n := id) [] (by omega) (by omega) (by omega);rw [List.append_nil] at this;simp only [parseX, this]; rfl
 case U u =>
  rw [if_neg (by decide), if_neg (by decide), if_neg (by decide), if_neg (by decide), if_neg (by decide), if_pos trivial];have := pNum_of (w := 1) (lo := 1) (hi := 99) (n := u) [] (by omega) (by omega) (by omega);rw [List.append_nil] at this;simp only [parseU, this]; rfl
def Tab.takes (T : Tab) (p : Bs) : Option Tab :=
 match parseChg p with
 | none => none
 | some c => if T.allows c then some (T.does c) else none
end Go.Proofs.YtmnajomkfnkmeaaGreatDoor
