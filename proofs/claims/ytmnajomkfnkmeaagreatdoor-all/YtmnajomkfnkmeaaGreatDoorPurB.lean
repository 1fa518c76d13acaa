import Derived.Test.YtmnajomkfnkmeaaGreatDoorPurA
namespace Go.Proofs.YtmnajomkfnkmeaaGreatDoor
def dig (n : Nat) : UInt8 := [48, 49, 50, 51, 52, 53, 54, 55, 56, 57, 97, 98, 99, 100, 101, 102].getD n 0
def undig (b : UInt8) : Nat := if 48 ≤ b.toNat ∧ b.toNat ≤ 57 then b.toNat - 48 else if 97 ≤ b.toNat ∧ b.toNat ≤ 102 then b.toNat - 97 + 10 else 0
theorem undig_dig (n : Nat) (h : n < 16) : undig (dig n) = n := by
 have : ∀ k : Fin 16, undig (dig k.val) = k.val := by decide
 exact this ⟨n, h⟩
theorem undig_lt (b : UInt8) : undig b < 16 := by unfold undig; split <;> (try split) <;> omega
def passF (id : Nat) : Bs := [118, 49, dig (id / 256 % 16), dig (id / 16 % 16), dig (id % 16)]
def passN (s : Bs) (id : Nat) : Nat := sumB (s ++ passF id)
def passL (s : Bs) (id : Nat) : Bs := passF id ++ [dig (passN s id % 256 / 16), dig (passN s id % 256 % 16), dig (passN s id / 256 / 16), dig (passN s id / 256 % 16)]
def passId (t : Bs) : Nat := 256 * undig (t.getD 2 0) + 16 * undig (t.getD 3 0) + undig (t.getD 4 0)
def passOf (s t : Bs) : Option Nat := if t.length = 9 ∧ passL s (passId t) = t then some (passId t) else none
theorem passId_lt (t : Bs) : passId t < 4096 := by
 have h1 := undig_lt (t.getD 2 0);have h2 := undig_lt (t.getD 3 0);have h3 := undig_lt (t.getD 4 0);unfold passId; omega
theorem passOf_some {s t : Bs} {id : Nat} (h : passOf s t = some id) : t = passL s id ∧ id < 4096 := by
 unfold passOf at h;split at h
 ·rename_i c;cases h;exact ⟨c.2.symm, passId_lt t⟩
 ·cases h
def drawX (x : Nat) : Nat := (75 * x + 74) % 65537
def drawN : Nat → Nat → Tab → Option Nat × Nat
 | 0, x, _ => (none, x)
 | n + 1, x, T => if (T (drawX x % 4096)).isNone then (some (drawX x % 4096), drawX x) else drawN n (drawX x) T
theorem drawX_lt (x : Nat) : drawX x < 65537 := Nat.mod_lt _ (by decide)
theorem drawN_free {n x y id : Nat} {T : Tab} (h : drawN n x T = (some id, y)) : T id = none ∧ id < 4096 ∧ y < 65537 := by
 induction n generalizing x with
 | zero => cases h
 | succ n ih =>
  unfold drawN at h;split at h
  ·rename_i c;cases h;exact ⟨Option.isNone_iff_eq_none.1 c, Nat.mod_lt _ (by decide), drawX_lt x⟩
  ·exact ih h
theorem drawN_lt {n x : Nat} {T : Tab} (hx : x < 65537) : (drawN n x T).2 < 65537 := by
 induction n generalizing x with
 | zero => exact hx
 | succ n ih =>
  unfold drawN;split
  ·exact drawX_lt x
  ·exact ih (drawX_lt x)
structure Kp where
 secret : Bs
 idle : Nat
 abs : Nat
 now : Nat
 drawn : Nat
 disk : Bs
 way : List (Nat × Bs)
 fuse : Nat
 down : Bool
 st : St
def Kp.step (m : Kp) : Bool × Kp := if m.fuse = 0 then (!m.down, m) else (decide (m.fuse ≠ 1), { m with fuse := m.fuse - 1, down := decide (m.fuse = 1) })
def offs (p n : Nat) : List Nat := (List.range' (p / 32) ((p + n + 31) / 32 - p / 32)).map (32 * ·)
def Kp.puts (s : Bs) : List Nat → Kp → Bool × Kp
 | [], m => (true, m)
 | o :: os, m => if ({ m with way := m.way ++ [(o, (s.drop o).take 32)] } : Kp).step.1 then Kp.puts s os ({ m with way := m.way ++ [(o, (s.drop o).take 32)] } : Kp).step.2 else (false, ({ m with way := m.way ++ [(o, (s.drop o).take 32)] } : Kp).step.2)
def Kp.flush (s : Bs) (m : Kp) : Bool × Kp := if m.step.1 then (true, { m.step.2 with disk := s, way := [] }) else (false, m.step.2)
def Kp.writes (m : Kp) (p : Nat) (r : Bs) : Bool × Kp :=
 if (Kp.puts (laidB m.disk p r) (offs p r.length) m).1 then Kp.flush (laidB m.disk p r) (Kp.puts (laidB m.disk p r) (offs p r.length) m).2 else (false, (Kp.puts (laidB m.disk p r) (offs p r.length) m).2)
def Kp.full (m : Kp) (c : Chg) : Bool := decide (halfN m.disk.length < m.st.endp + (chgB c).length + 10) || decide (65535 < m.st.next)
def Kp.change (m : Kp) (c : Chg) : Nat × Kp :=
 if m.full c then (9, m)
 else if (m.writes (regAt m.disk.length m.st.reg + m.st.endp) (recB m.st.gen m.st.next (chgB c))).1 then
  (0, { (m.writes (regAt m.disk.length m.st.reg + m.st.endp) (recB m.st.gen m.st.next (chgB c))).2 with st := m.st.does c })
 else (4, (m.writes (regAt m.disk.length m.st.reg + m.st.endp) (recB m.st.gen m.st.next (chgB c))).2)
def Kp.over (m : Kp) (x : Sess) : Bool := decide ((m.idle : Int) ≤ (m.now : Int) - x.used) || decide ((m.abs : Int) ≤ (m.now : Int) - x.created)
def Kp.find (m : Kp) (p : Bs) : Nat × Nat :=
 if m.down then (0, 4)
 else match passOf m.secret p with
  | none => (0, 5)
  | some id =>
   match m.st.T id with
   | none => (0, 6)
   | some x => if m.over x then (id, 7) else (id, 0)
def Kp.look (m : Kp) (p : Bs) : Nat × Nat × Kp :=
 if (m.find p).2 = 7 then (if (m.change (.X (m.find p).1)).1 = 0 then (0, 7, (m.change (.X (m.find p).1)).2) else (0, (m.change (.X (m.find p).1)).1, (m.change (.X (m.find p).1)).2))
 else ((m.find p).1, (m.find p).2, m)
def Kp.draw (m : Kp) : Option Nat × Kp := ((drawN 8 m.drawn m.st.T).1, { m with drawn := (drawN 8 m.drawn m.st.T).2 })
def Kp.login (m : Kp) (user : Int) : Bs × Nat × Kp :=
 if m.down then ([], 4, m)
 else if ¬ (1 ≤ user ∧ user ≤ 99) then ([], 1, m)
 else if 12 ≤ m.st.T.live then ([], 8, m)
 else match m.draw with
  | (none, m1) => ([], 8, m1)
  | (some id, m1) => if (m1.change (.L id user.toNat m.now)).1 = 0 then (passL m.secret id, 0, (m1.change (.L id user.toNat m.now)).2) else ([], (m1.change (.L id user.toNat m.now)).1, (m1.change (.L id user.toNat m.now)).2)
def Kp.touch (m : Kp) (p : Bs) : Nat × Kp :=
 if (m.look p).2.1 = 0 then (m.look p).2.2.change (.T (m.look p).1 m.now) else ((m.look p).2.1, (m.look p).2.2)
def Kp.rotate (m : Kp) (p : Bs) : Bs × Nat × Kp :=
 if (m.look p).2.1 = 0 then
  match m.draw with
  | (none, m1) => ([], 8, m1)
  | (some to, m1) => if (m1.change (.R (m.look p).1 to m.now)).1 = 0 then (passL m.secret to, 0, (m1.change (.R (m.look p).1 to m.now)).2) else ([], (m1.change (.R (m.look p).1 to m.now)).1, (m1.change (.R (m.look p).1 to m.now)).2)
 else ([], (m.look p).2.1, (m.look p).2.2)
def Kp.set (m : Kp) (p n v : Bs) : Nat × Kp :=
 if n.length = 0 ∨ 8 < n.length ∨ 8 < v.length then (1, m)
 else if (m.look p).2.1 = 0 then
  (if (match m.st.T (m.look p).1 with | some x => x.room n | none => false) then m.change (.S (m.look p).1 n v m.now) else (8, m))
 else ((m.look p).2.1, (m.look p).2.2)
def Kp.get (m : Kp) (p n : Bs) : Bs × Nat :=
 if (m.find p).2 = 0 then
  match m.st.T (m.find p).1 with
  | some x => (match valAt n x.vals with | some v => (v, 0) | none => ([], 6))
  | none => ([], 6)
 else ([], (m.find p).2)
def Kp.logout (m : Kp) (p : Bs) : Nat × Kp :=
 if (m.look p).2.1 = 0 then m.change (.X (m.look p).1) else ((m.look p).2.1, (m.look p).2.2)
def Kp.logoutAll (m : Kp) (user : Int) : Nat × Nat × Kp :=
 if m.down then (0, 4, m)
 else if ¬ (1 ≤ user ∧ user ≤ 99) then (0, 1, m)
 else if m.st.T.ofUser user.toNat = 0 then (0, 0, m)
 else if (m.change (.U user.toNat)).1 = 0 then (m.st.T.ofUser user.toNat, 0, (m.change (.U user.toNat)).2)
 else (0, (m.change (.U user.toNat)).1, (m.change (.U user.toNat)).2)
def Kp.tick (m : Kp) (n : Int) : Nat × Kp :=
 if m.down then (4, m)
 else if n < 0 ∨ 1000000000 < (m.now : Int) + n then (1, m)
 else (0, { m with now := m.now + n.toNat })
def Kp.live (m : Kp) : Nat × Nat := if m.down then (0, 4) else (m.st.T.live, 0)
def Kp.compact (m : Kp) : Nat × Kp :=
 if m.down then (4, m)
 else if halfN m.disk.length < (snapB m.st.T).length + 10 ∨ 1000000000 < m.st.gen + 1 then (9, m)
 else
  let w1 := m.writes (regAt m.disk.length (1 - m.st.reg)) (recB (m.st.gen + 1) 0 (snapB m.st.T) ++ zeros (halfN m.disk.length - ((snapB m.st.T).length + 10)))
  if w1.1 then
   let w2 := w1.2.writes (32 * (1 - m.st.slot)) (sectB (m.st.gen + 1) (1 - m.st.reg))
   if w2.1 then (0, { w2.2 with st := m.st.next2 }) else (4, w2.2)
  else (4, w1.2)
def Kp.arm (m : Kp) (n : Int) : Kp := if m.down then m else { m with fuse := n.toNat }
def clampP (part : Int) : Nat := min part.toNat 32
def leftAux (keep torn part : Int) : Nat → Bs → List (Nat × Bs) → Bs
 | _, s, [] => s
 | i, s, (a, b) :: r => leftAux keep torn part (i + 1) (if (i : Int) = torn then laidB s a (b.take (clampP part)) else if (keep / (2 ^ (min i 62) : Nat)) % 2 ≠ 0 then laidB s a b else s) r
def Kp.left (m : Kp) (keep torn part : Int) : Bs := leftAux keep torn part 0 m.disk m.way
structure Cfg where
 secret : Bs
 seed : Int
 idle : Int
 abs : Int
 now : Int
def Cfg.ok (c : Cfg) : Bool := decide (1 ≤ c.secret.length ∧ c.secret.length ≤ 16) && decide (0 ≤ c.seed ∧ c.seed ≤ 65536) && decide (1 ≤ c.idle ∧ c.idle ≤ 1000000000) && decide (1 ≤ c.abs ∧ c.abs ≤ 1000000000) && decide (0 ≤ c.now ∧ c.now ≤ 1000000000)
def openK (d : Bs) (c : Cfg) : Nat × Option Kp :=
 if c.ok = false then (2, none)
 else if ¬ (d.length % 32 = 0 ∧ 384 ≤ d.length ∧ d.length ≤ 6400) then (3, none)
 else match readD d with
  | none => (3, none)
  | some st => (0, some ⟨c.secret, c.idle.toNat, c.abs.toNat, c.now.toNat, c.seed.toNat, cleanD d st, [], 0, false, st⟩)
end Go.Proofs.YtmnajomkfnkmeaaGreatDoor
namespace Go.Proofs.YtmnajomkfnkmeaaGreatDoor
def slice (s : Bs) (o : Nat) : Nat × Bs := (o, (s.drop o).take 32)
theorem step_yes {m : Kp} (h : m.down = false) (hs : m.step.1 = true) : m.step.2 = { m with fuse := m.fuse - 1 } := by
 unfold Kp.step at hs ⊢;by_cases c : m.fuse = 0
 ·rw [if_pos c]; cases m; simp_all
 ·rw [if_neg c] at hs ⊢;simp only [decide_eq_true_eq] at hs;simp only [hs, decide_false, h]
theorem step_no {m : Kp} (h : m.down = false) (hs : m.step.1 = false) : m.step.2 = { m with fuse := 0, down := true } := by
 unfold Kp.step at hs ⊢;by_cases c : m.fuse = 0
 ·rw [if_pos c] at hs; simp [h] at hs
 ·rw [if_neg c] at hs ⊢;simp only [decide_eq_false_iff_not, Decidable.not_not] at hs;simp [hs]
theorem puts_yes (s : Bs) : ∀ (os : List Nat) (m : Kp), m.down = false → (Kp.puts s os m).1 = true → (Kp.puts s os m).2 = { m with way := m.way ++ os.map (slice s), fuse := m.fuse - os.length }
 | [], m, _, _ => by simp [Kp.puts]
 | o :: os, m, h, hs => by
  unfold Kp.puts at hs ⊢;by_cases c : ({ m with way := m.way ++ [(o, (s.drop o).take 32)] } : Kp).step.1 = true
  ·rw [if_pos c] at hs ⊢;have e := step_yes (m := { m with way := m.way ++ [(o, (s.drop o).take 32)] }) h c;rw [e] at hs ⊢;rw [puts_yes s os { m with way := m.way ++ [(o, (s.drop o).take 32)], fuse := m.fuse - 1 } h hs];simp only [List.map_cons, List.append_assoc, List.cons_append, List.nil_append, List.length_cons, slice];rw [show m.fuse - 1 - os.length = m.fuse - (os.length + 1) by omega]
  ·rw [if_neg c] at hs; cases hs
theorem puts_no (s : Bs) : ∀ (os : List Nat) (m : Kp), m.down = false → (Kp.puts s os m).1 = false → ∃ qs rs, os = qs ++ rs ∧ qs ≠ [] ∧ (Kp.puts s os m).2 = { m with way := m.way ++ qs.map (slice s), fuse := 0, down := true }
 | [], m, _, hs => by cases hs
 | o :: os, m, h, hs => by
  unfold Kp.puts at hs ⊢;by_cases c : ({ m with way := m.way ++ [(o, (s.drop o).take 32)] } : Kp).step.1 = true
  ·rw [if_pos c] at hs ⊢;have e := step_yes (m := { m with way := m.way ++ [(o, (s.drop o).take 32)] }) h c;rw [e] at hs ⊢;obtain ⟨qs, rs, e1, e2, e3⟩ := puts_no s os { m with way := m.way ++ [(o, (s.drop o).take 32)], fuse := m.fuse - 1 } h hs;refine ⟨o :: qs, rs, by rw [e1]; rfl, by simp, ?_⟩;rw [e3];simp only [List.map_cons, List.append_assoc, List.cons_append, List.nil_append, slice]
  ·rw [if_neg c];refine ⟨[o], os, rfl, by simp, ?_⟩;rw [step_no (m := { m with way := m.way ++ [(o, (s.drop o).take 32)] }) h (by simpa using c)];simp [slice]
theorem flush_yes {m : Kp} {s : Bs} (h : m.down = false) (hs : (Kp.flush s m).1 = true) : (Kp.flush s m).2 = { m with disk := s, way := [], fuse := m.fuse - 1 } := by
 unfold Kp.flush at hs ⊢;by_cases c : m.step.1 = true
 ·rw [if_pos c, step_yes h c]
 ·rw [if_neg c] at hs; cases hs
theorem flush_no {m : Kp} {s : Bs} (h : m.down = false) (hs : (Kp.flush s m).1 = false) : (Kp.flush s m).2 = { m with fuse := 0, down := true } := by
 unfold Kp.flush at hs ⊢;by_cases c : m.step.1 = true
 ·rw [if_pos c] at hs; cases hs
 ·rw [if_neg c, step_no h (by simpa using c)]
theorem writes_yes {m : Kp} {p : Nat} {r : Bs} (h : m.down = false) (hs : (m.writes p r).1 = true) : (m.writes p r).2 = { m with disk := laidB m.disk p r, way := [], fuse := m.fuse - ((offs p r.length).length + 1) } := by
 unfold Kp.writes at hs ⊢;by_cases c : (Kp.puts (laidB m.disk p r) (offs p r.length) m).1 = true
 ·rw [if_pos c] at hs ⊢;have e := puts_yes _ _ _ h c;rw [e] at hs ⊢;rw [flush_yes (m := { m with way := m.way ++ (offs p r.length).map (slice (laidB m.disk p r)), fuse := m.fuse - (offs p r.length).length }) h hs];rw [show m.fuse - (offs p r.length).length - 1 = m.fuse - ((offs p r.length).length + 1) by omega]
 ·rw [if_neg c] at hs; cases hs
theorem writes_no {m : Kp} {p : Nat} {r : Bs} (h : m.down = false) (hw : m.way = []) (hs : (m.writes p r).1 = false) : ∃ qs rs, offs p r.length = qs ++ rs ∧ (offs p r.length ≠ [] → qs ≠ []) ∧ (m.writes p r).2 = { m with way := qs.map (slice (laidB m.disk p r)), fuse := 0, down := true } := by
 unfold Kp.writes at hs ⊢;by_cases c : (Kp.puts (laidB m.disk p r) (offs p r.length) m).1 = true
 ·rw [if_pos c] at hs ⊢;have e := puts_yes _ _ _ h c;rw [e] at hs ⊢;refine ⟨offs p r.length, [], by simp, fun h => h, ?_⟩;rw [flush_no (m := { m with way := m.way ++ (offs p r.length).map (slice (laidB m.disk p r)), fuse := m.fuse - (offs p r.length).length }) h hs, hw];rfl
 ·rw [if_neg c];obtain ⟨qs, rs, e1, e2, e3⟩ := puts_no _ _ _ h (by simpa using c);exact ⟨qs, rs, e1, fun _ => e2, by rw [e3, hw]; rfl⟩
structure Broke (m m' : Kp) (p : Nat) (r : Bs) : Prop where
 ex : ∃ qs rs, offs p r.length = qs ++ rs ∧ (offs p r.length ≠ [] → qs ≠ []) ∧ m' = { m with way := qs.map (slice (laidB m.disk p r)), fuse := 0, down := true }
theorem mem_offs {p n o : Nat} : o ∈ offs p n ↔ o % 32 = 0 ∧ p / 32 * 32 ≤ o ∧ o < (p + n + 31) / 32 * 32 := by
 unfold offs;rw [List.mem_map];constructor
 ·rintro ⟨a, ha, rfl⟩;rw [List.mem_range'_1] at ha;omega
 ·rintro ⟨h1, h2, h3⟩;exact ⟨o / 32, List.mem_range'_1.2 (by omega), by omega⟩
theorem leftAux_cons (keep torn part : Int) (i : Nat) (b s : Bs) (o : Nat) (r : List (Nat × Bs)) : leftAux keep torn part i b (slice s o :: r) = leftAux keep torn part (i + 1) (if (i : Int) = torn then laidB b o ((slice s o).2.take (clampP part)) else if (keep / (2 ^ (min i 62) : Nat)) % 2 ≠ 0 then laidB b o (slice s o).2 else b) r := rfl
end Go.Proofs.YtmnajomkfnkmeaaGreatDoor
namespace Go.Proofs.YtmnajomkfnkmeaaGreatDoor
structure Good (m : Kp) : Prop where
 up : m.down = false
 way : m.way = []
 holds : Holds m.disk m.st
 now : m.now ≤ maxT
 drawn : m.drawn < 65537
theorem step_calm {m : Kp} (h : m.down = false) (hf : m.fuse = 0) : m.step = (true, m) := by
 unfold Kp.step; rw [if_pos hf, h]; rfl
theorem puts_calm (s : Bs) : ∀ (os : List Nat) (m : Kp), m.down = false → m.fuse = 0 → (Kp.puts s os m).1 = true
 | [], _, _, _ => rfl
 | o :: os, m, h, hf => by
  unfold Kp.puts;have e := step_calm (m := { m with way := m.way ++ [(o, (s.drop o).take 32)] }) h hf;rw [e, if_pos rfl];exact puts_calm s os _ h hf
theorem writes_calm {m : Kp} {p : Nat} {r : Bs} (h : m.down = false) (hf : m.fuse = 0) : (m.writes p r).1 = true := by
 unfold Kp.writes;have c := puts_calm (laidB m.disk p r) (offs p r.length) m h hf;rw [if_pos c, puts_yes _ _ _ h c];unfold Kp.flush;have e := step_calm (m := { m with way := m.way ++ (offs p r.length).map (slice (laidB m.disk p r)), fuse := m.fuse - (offs p r.length).length }) h (show m.fuse - _ = 0 by omega);rw [e]; rfl
def Kp.done (m : Kp) (c : Chg) (f : Nat) : Kp := { m with disk := withRec m.disk m.st c, fuse := f, st := m.st.does c }
theorem full_no {m : Kp} {c : Chg} (h : m.full c = false) : m.st.endp + (chgB c).length + 10 ≤ halfN m.disk.length ∧ m.st.next ≤ 65535 := by
 unfold Kp.full at h;simp only [Bool.or_eq_false_iff, decide_eq_false_iff_not] at h;omega
inductive Chd (m : Kp) (c : Chg) : Prop
 | full : m.full c = true → m.change c = (9, m) → Chd m c
 | done (f : Nat) : m.full c = false → m.change c = (0, m.done c f) → Good (m.done c f) → (m.fuse = 0 → f = 0) → Fits m.disk m.st c → Chd m c
 | down (m' : Kp) : m.full c = false → m.change c = (4, m') → m.fuse ≠ 0 → m'.down = true → Fits m.disk m.st c → Broke m m' (regAt m.disk.length m.st.reg + m.st.endp) (recB m.st.gen m.st.next (chgB c)) → Chd m c
theorem Good.change {m : Kp} (h : Good m) {c : Chg} (hc : c.ok) (ha : m.st.T.allows c = true) : Chd m c := by
 cases hf : m.full c with
 | true => exact .full hf (by unfold Kp.change; rw [if_pos hf])
 | false =>
  have hr := full_no hf;have hfit : Fits m.disk m.st c := ⟨h.holds, hc, ha, hr.1⟩;cases hw : (m.writes (regAt m.disk.length m.st.reg + m.st.endp) (recB m.st.gen m.st.next (chgB c))).1 with
  | true =>
   refine .done (m.fuse - ((offs (regAt m.disk.length m.st.reg + m.st.endp) (recB m.st.gen m.st.next (chgB c)).length).length + 1)) hf ?_ ?_ (by omega) hfit
   ·unfold Kp.change;rw [if_neg (by rw [hf]; decide), if_pos hw, writes_yes h.up hw];unfold Kp.done withRec;rw [h.way]
   ·exact ⟨h.up, h.way, h.holds.change hc ha hr.1, h.now, h.drawn⟩
  | false =>
   obtain ⟨qs, rs, e1, e2, e3⟩ := writes_no h.up h.way hw;refine .down (m.writes (regAt m.disk.length m.st.reg + m.st.endp) (recB m.st.gen m.st.next (chgB c))).2 hf ?_ ?_ ?_ hfit ⟨qs, rs, e1, e2, e3⟩
   ·unfold Kp.change;rw [if_neg (by rw [hf]; decide), if_neg (by rw [hw]; decide)]
   ·intro hz;rw [writes_calm h.up hz] at hw;cases hw
   ·rw [e3]
theorem kfind_none {m : Kp} {p : Bs} (h : Good m) (hp : passOf m.secret p = none) : m.find p = (0, 5) := by
 unfold Kp.find; rw [h.up, hp]; rfl
theorem find_dead {m : Kp} {p : Bs} {id : Nat} (h : Good m) (hp : passOf m.secret p = some id) (ht : m.st.T id = none) : m.find p = (0, 6) := by
 unfold Kp.find; rw [h.up, hp]; simp only [ht]; rfl
theorem find_live {m : Kp} {p : Bs} {id : Nat} {x : Sess} (h : Good m) (hp : passOf m.secret p = some id) (ht : m.st.T id = some x) : m.find p = if m.over x then (id, 7) else (id, 0) := by
 unfold Kp.find; rw [h.up, hp]; simp only [ht]; rfl
theorem find_cases {m : Kp} (h : Good m) (p : Bs) : (m.find p = (0, 5) ∧ passOf m.secret p = none) ∨ (∃ id, m.find p = (0, 6) ∧ passOf m.secret p = some id ∧ m.st.T id = none) ∨ (∃ id x, passOf m.secret p = some id ∧ id < 4096 ∧ m.st.T id = some x ∧ ((m.find p = (id, 7) ∧ m.over x = true) ∨ (m.find p = (id, 0) ∧ m.over x = false))) := by
 cases hp : passOf m.secret p with
 | none => exact Or.inl ⟨kfind_none h hp, rfl⟩
 | some id =>
  cases ht : m.st.T id with
  | none => exact Or.inr (Or.inl ⟨id, find_dead h hp ht, rfl, ht⟩)
  | some x =>
   refine Or.inr (Or.inr ⟨id, x, rfl, (passOf_some hp).2, ht, ?_⟩);have := find_live h hp ht;cases ho : m.over x with
   | true => rw [ho, if_pos rfl] at this; exact Or.inl ⟨this, rfl⟩
   | false => rw [ho] at this; exact Or.inr ⟨this, rfl⟩
theorem look_same {m : Kp} {p : Bs} (h : (m.find p).2 ≠ 7) : m.look p = ((m.find p).1, (m.find p).2, m) := by
 unfold Kp.look; rw [if_neg h]
theorem look_over {m : Kp} {p : Bs} {id : Nat} (h : m.find p = (id, 7)) : m.look p = (0, (if (m.change (.X id)).1 = 0 then 7 else (m.change (.X id)).1), (m.change (.X id)).2) := by
 unfold Kp.look;rw [h];simp only [if_true];split <;> rfl
theorem open_good {d : Bs} {c : Cfg} {st : St} (hc : c.ok = true) (hs : okSize d.length) (hr : readD d = some st) :
  ∃ m, openK d c = (0, some m) ∧ Good m ∧ m.st = st ∧ m.secret = c.secret ∧ m.idle = c.idle.toNat ∧ m.abs = c.abs.toNat ∧ m.now = c.now.toNat ∧ m.drawn = c.seed.toNat ∧ m.fuse = 0 := by
 have hb := hc;unfold Cfg.ok at hb;simp only [Bool.and_eq_true, decide_eq_true_eq] at hb;obtain ⟨⟨⟨⟨_, b2⟩, _⟩, _⟩, b5⟩ := hb;unfold openK;rw [if_neg (by rw [hc]; decide), if_neg (fun h => h hs), hr];refine ⟨_, rfl, ⟨rfl, rfl, (read_holds hs hr).1, ?_, ?_⟩, rfl, rfl, rfl, rfl, rfl, rfl, rfl⟩
 ·unfold maxT; show c.now.toNat ≤ _; omega
 ·show c.seed.toNat < _; omega
def blankB (n : Nat) : Bs := sectB 1 0 ++ zeros 32 ++ recB 1 0 [0] ++ zeros (32 * n - 75)
end Go.Proofs.YtmnajomkfnkmeaaGreatDoor
namespace Go.Proofs.YtmnajomkfnkmeaaGreatDoor
structure Same (m m' : Kp) : Prop where
 secret : m'.secret = m.secret
 idle : m'.idle = m.idle
 abs : m'.abs = m.abs
 now : m'.now = m.now
 fuse : m.fuse = 0 → m'.fuse = 0
theorem Same.refl (m : Kp) : Same m m := ⟨rfl, rfl, rfl, rfl, fun h => h⟩
theorem Same.trans {a b c : Kp} (h : Same a b) (k : Same b c) : Same a c := ⟨k.secret.trans h.secret, k.idle.trans h.idle, k.abs.trans h.abs, k.now.trans h.now, fun x => k.fuse (h.fuse x)⟩
inductive Lost (d : Bs) (st : St) (m' : Kp) : Prop
 | chg (m0 : Kp) (c : Chg) : m0.disk = d → Fits d st c → Broke m0 m' (regAt d.length st.reg + st.endp) (recB st.gen st.next (chgB c)) → Lost d st m'
 | half (m0 : Kp) (t : Bs) : m0.disk = d → Holds d st → t.length ≤ halfN d.length → Broke m0 m' (regAt d.length (1 - st.reg)) t → Lost d st m'
 | head (m0 : Kp) (t : Bs) (g : Nat) : Holds d st → t.length ≤ halfN d.length → m0.disk = laidB d (regAt d.length (1 - st.reg)) t → Holds (laidB m0.disk (32 * (1 - st.slot)) (sectB g (1 - st.reg))) st.next2 → Broke m0 m' (32 * (1 - st.slot)) (sectB g (1 - st.reg)) → Lost d st m'
theorem Good.drew {m : Kp} (h : Good m) : Good m.draw.2 := ⟨h.up, h.way, h.holds, h.now, drawN_lt h.drawn⟩
theorem Same.drew (m : Kp) : Same m m.draw.2 := ⟨rfl, rfl, rfl, rfl, fun h => h⟩
theorem Good.out {m : Kp} (h : Good m) {c : Chg} (hc : c.ok) (ha : m.st.T.allows c = true) :
  ((m.change c).1 = 4 ∧ m.fuse ≠ 0 ∧ Lost m.disk m.st (m.change c).2) ∨ ((m.change c).1 = 9 ∧ m.full c = true ∧ (m.change c).2 = m) ∨ ((m.change c).1 = 0 ∧ m.full c = false ∧ Good (m.change c).2 ∧ Same m (m.change c).2 ∧ (m.change c).2.st = m.st.does c ∧ (m.change c).2.drawn = m.drawn) := by
 cases h.change hc ha with
 | full a b => rw [b]; exact Or.inr (Or.inl ⟨rfl, a, rfl⟩)
 | done f a b g hf _ => rw [b]; exact Or.inr (Or.inr ⟨rfl, a, g, ⟨rfl, rfl, rfl, rfl, hf⟩, rfl, rfl⟩)
 | down m' a b hz hd hf hb => rw [b]; exact Or.inl ⟨rfl, hz, .chg m c rfl hf hb⟩
def Out (m : Kp) (e : Nat) (m' : Kp) : Prop := (e = 4 ∧ m.fuse ≠ 0 ∧ Lost m.disk m.st m') ∨ (e ≠ 4 ∧ Good m' ∧ Same m m')
theorem Good.out2 {m : Kp} (h : Good m) {c : Chg} (hc : c.ok) (ha : m.st.T.allows c = true) : Out m (m.change c).1 (m.change c).2 := by
 rcases h.out hc ha with a | a | a
 ·exact Or.inl a
 ·exact Or.inr ⟨by rw [a.1]; decide, by rw [a.2.2]; exact h, by rw [a.2.2]; exact Same.refl m⟩
 ·exact Or.inr ⟨by rw [a.1]; decide, a.2.2.1, a.2.2.2.1⟩
theorem Out.of_drew {m : Kp} {e : Nat} {m' : Kp} (h : Out m.draw.2 e m') : Out m e m' := by
 rcases h with a | a
 ·exact Or.inl a
 ·exact Or.inr ⟨a.1, a.2.1, (Same.drew m).trans a.2.2⟩
theorem look_cases {m : Kp} (h : Good m) (p : Bs) :
  (∃ e, (e = 5 ∨ e = 6) ∧ m.look p = (0, e, m) ∧ (e = 5 → passOf m.secret p = none) ∧ (e = 6 → ∃ id, passOf m.secret p = some id ∧ m.st.T id = none)) ∨
  (∃ id x, passOf m.secret p = some id ∧ id < 4096 ∧ m.st.T id = some x ∧
   ((m.over x = true ∧ Chg.ok (.X id) ∧ m.st.T.allows (.X id) = true ∧ m.look p = (0, (if (m.change (.X id)).1 = 0 then 7 else (m.change (.X id)).1), (m.change (.X id)).2)) ∨ (m.over x = false ∧ m.look p = (id, 0, m)))) := by
 rcases find_cases h p with ⟨e, a⟩ | ⟨id, e, a, b⟩ | ⟨id, x, a, b, c, d⟩
 ·left;exact ⟨5, Or.inl rfl, by rw [look_same (by rw [e]; decide), e], fun _ => a, fun h => (by cases h)⟩
 ·left;exact ⟨6, Or.inr rfl, by rw [look_same (by rw [e]; decide), e], fun h => (by cases h), fun _ => ⟨id, a, b⟩⟩
 ·right;refine ⟨id, x, a, b, c, ?_⟩;rcases d with ⟨d1, d2⟩ | ⟨d1, d2⟩
  ·left;refine ⟨d2, b, ?_, look_over d1⟩;show (m.st.T id).isSome = true;rw [c]; rfl
  ·right;exact ⟨d2, by rw [look_same (by rw [d1]; simp), d1]⟩
theorem out_if7 {m : Kp} {e : Nat} {m' : Kp} (h : Out m e m') : Out m (if e = 0 then 7 else e) m' := by
 rcases h with a | a
 ·rw [a.1]; exact Or.inl ⟨rfl, a.2⟩
 ·refine Or.inr ⟨?_, a.2⟩;split
  ·decide
  ·exact a.1
theorem look_out {m : Kp} (h : Good m) (p : Bs) :
  (∃ id x, m.look p = (id, 0, m) ∧ passOf m.secret p = some id ∧ id < 4096 ∧ m.st.T id = some x ∧ m.over x = false) ∨ ((m.look p).2.1 ≠ 0 ∧ Out m (m.look p).2.1 (m.look p).2.2) := by
 rcases look_cases h p with ⟨e, he, hl, _⟩ | ⟨id, x, a, b, c, ⟨ho, h1, h2, hl⟩ | ⟨ho, hl⟩⟩
 ·right;rw [hl];rcases he with rfl | rfl <;> exact ⟨by simp, Or.inr ⟨by simp, h, Same.refl m⟩⟩
 ·right;rw [hl];refine ⟨?_, out_if7 (h.out2 h1 h2)⟩;show (if (m.change (Chg.X id)).1 = 0 then 7 else (m.change (Chg.X id)).1) ≠ 0;split
  ·decide
  ·assumption
 ·exact Or.inl ⟨id, x, hl, a, b, c, ho⟩
theorem touch_out {m : Kp} (h : Good m) (p : Bs) : Out m (m.touch p).1 (m.touch p).2 := by
 unfold Kp.touch;rcases look_out h p with ⟨id, x, hl, a, b, c, ho⟩ | ⟨hn, ho⟩
 ·rw [hl, if_pos rfl];exact h.out2 (c := .T id m.now) ⟨b, h.now⟩ (by show (m.st.T id).isSome = true; rw [c]; rfl)
 ·rw [if_neg hn]; exact ho
theorem logout_out {m : Kp} (h : Good m) (p : Bs) : Out m (m.logout p).1 (m.logout p).2 := by
 unfold Kp.logout;rcases look_out h p with ⟨id, x, hl, a, b, c, ho⟩ | ⟨hn, ho⟩
 ·rw [hl, if_pos rfl];exact h.out2 (c := .X id) b (by show (m.st.T id).isSome = true; rw [c]; rfl)
 ·rw [if_neg hn]; exact ho
theorem set_out {m : Kp} (h : Good m) (p n v : Bs) : Out m (m.set p n v).1 (m.set p n v).2 := by
 unfold Kp.set;split
 ·exact Or.inr ⟨by simp, h, Same.refl m⟩
 ·rename_i hb;rcases look_out h p with ⟨id, x, hl, a, b, c, ho⟩ | ⟨hn, ho⟩
  ·rw [hl, if_pos rfl];simp only [c];split
   ·rename_i hr;refine h.out2 (c := .S id n v m.now) ⟨b, by omega, by omega, by omega, h.now⟩ ?_;show (match m.st.T id with | some x => x.room n | none => false) = true;rw [c]; exact hr
   ·exact Or.inr ⟨by simp, h, Same.refl m⟩
  ·rw [if_neg hn]; exact ho
theorem drew_eq {m m1 : Kp} {o : Option Nat} (h : m.draw = (o, m1)) : m1 = m.draw.2 := by rw [h]
theorem drew_free {m m1 : Kp} {id : Nat} (h : m.draw = (some id, m1)) : m.st.T id = none ∧ id < 4096 ∧ m1.st = m.st ∧ m1.now = m.now ∧ m1.secret = m.secret := by
 unfold Kp.draw at h;have h1 := congrArg Prod.fst h;have h2 := congrArg Prod.snd h;simp only at h1 h2;have := drawN_free (n := 8) (x := m.drawn) (y := (drawN 8 m.drawn m.st.T).2) (id := id) (T := m.st.T) (Prod.ext h1 rfl);exact ⟨this.1, this.2.1, by rw [← h2], by rw [← h2], by rw [← h2]⟩
theorem rotate_out {m : Kp} (h : Good m) (p : Bs) : Out m (m.rotate p).2.1 (m.rotate p).2.2 := by
 unfold Kp.rotate;rcases look_out h p with ⟨id, x, hl, a, b, c, ho⟩ | ⟨hn, ho⟩
 ·rw [hl, if_pos rfl];split
  ·rename_i m1 hd;rw [drew_eq hd];exact Or.inr ⟨by simp, h.drew, Same.drew m⟩
  ·rename_i to m1 hd;obtain ⟨f1, f2, f3, f4, f5⟩ := drew_free hd;have hm1 := drew_eq hd;have key : Out m (m1.change (.R id to m.now)).1 (m1.change (.R id to m.now)).2 := by
    subst hm1;refine Out.of_drew (h.drew.out2 (c := .R id to m.now) ⟨b, f2, h.now⟩ ?_);show ((m.st.T id).isSome && (m.st.T to).isNone) = true;rw [c, f1]; rfl
   simp only;split
   ·rename_i hz;rw [hz] at key; exact key
   ·exact key
 ·rw [if_neg hn]; exact ho
theorem login_out {m : Kp} (h : Good m) (u : Int) : Out m (m.login u).2.1 (m.login u).2.2 := by
 unfold Kp.login;rw [if_neg (by rw [h.up]; decide)];split
 ·exact Or.inr ⟨by simp, h, Same.refl m⟩
 ·rename_i hu;split
  ·exact Or.inr ⟨by simp, h, Same.refl m⟩
  ·rename_i hlv;split
   ·rename_i m1 hd;rw [drew_eq hd];exact Or.inr ⟨by simp, h.drew, Same.drew m⟩
   ·rename_i to m1 hd;obtain ⟨f1, f2, f3, f4, f5⟩ := drew_free hd;have hm1 := drew_eq hd;have key : Out m (m1.change (.L to u.toNat m.now)).1 (m1.change (.L to u.toNat m.now)).2 := by
     subst hm1;refine Out.of_drew (h.drew.out2 (c := .L to u.toNat m.now) ⟨f2, by omega, by omega, h.now⟩ ?_);show ((m.st.T to).isNone && decide (m.st.T.live < 12)) = true;rw [f1, decide_eq_true (by omega)]; rfl
    split
    ·rename_i hz;rw [hz] at key; exact key
    ·exact key
theorem logoutAll_out {m : Kp} (h : Good m) (u : Int) : Out m (m.logoutAll u).2.1 (m.logoutAll u).2.2 := by
 unfold Kp.logoutAll;rw [if_neg (by rw [h.up]; decide)];split
 ·exact Or.inr ⟨by simp, h, Same.refl m⟩
 ·rename_i hu;split
  ·exact Or.inr ⟨by simp, h, Same.refl m⟩
  ·rename_i hz;have key := h.out2 (c := .U u.toNat) ⟨by omega, by omega⟩ (show decide (0 < m.st.T.ofUser u.toNat) = true from decide_eq_true (by omega));split
   ·rename_i hz;rw [hz] at key; exact key
   ·exact key
theorem compact_out {m : Kp} (h : Good m) : Out m m.compact.1 m.compact.2 ∧ (m.compact.1 = 0 → m.compact.2.st.T = m.st.T) ∧ (m.compact.1 ≠ 0 → m.compact.1 ≠ 4 → m.compact.1 = 9 ∧ m.compact.2 = m) ∧ m.compact.2.drawn = m.drawn := by
 have hb := h.holds.bounds;have hhb := half_bounds h.holds.size;have hrb := regAt_le h.holds.size (show 1 - m.st.reg ≤ 1 by omega);unfold Kp.compact;rw [if_neg (by rw [h.up]; decide)];split
 ·exact ⟨Or.inr ⟨by simp, h, Same.refl m⟩, (fun _ => rfl), (fun _ _ => ⟨rfl, rfl⟩), rfl⟩
 ·rename_i hno;have hlen : (snapB m.st.T).length + 10 ≤ halfN m.disk.length := by omega
  have hg : m.st.gen + 1 < 4294967296 := by omega
  have htl : (recB (m.st.gen + 1) 0 (snapB m.st.T) ++ zeros (halfN m.disk.length - ((snapB m.st.T).length + 10))).length = halfN m.disk.length := by rw [List.length_append, recB_length, zeros_length]; omega
  have hturn := h.holds.turn hg hlen;have hhalf := h.holds.half (l := recB (m.st.gen + 1) 0 (snapB m.st.T) ++ zeros (halfN m.disk.length - ((snapB m.st.T).length + 10))) (by omega);generalize recB (m.st.gen + 1) 0 (snapB m.st.T) ++ zeros (halfN m.disk.length - ((snapB m.st.T).length + 10)) = t at *
  simp only;cases hw : (m.writes (regAt m.disk.length (1 - m.st.reg)) t).1 with
  | false =>
   obtain ⟨qs, rs, e1, e2, e3⟩ := writes_no h.up h.way hw;rw [if_neg (by decide)];refine ⟨Or.inl ⟨rfl, ?_, .half m t rfl h.holds (by omega) ⟨qs, rs, e1, e2, e3⟩⟩, (fun x => by cases x), (fun _ x => absurd rfl x), by rw [e3]⟩;intro hz;rw [writes_calm h.up hz] at hw; cases hw
  | true =>
   rw [if_pos rfl];have ew := writes_yes h.up hw;generalize hw1 : (m.writes (regAt m.disk.length (1 - m.st.reg)) t).2 = m1 at *
   have hup1 : m1.down = false := by rw [ew]; exact h.up
   have hway1 : m1.way = [] := by rw [ew]
   have hdisk1 : m1.disk = laidB m.disk (regAt m.disk.length (1 - m.st.reg)) t := by rw [ew]
   cases hw2 : (m1.writes (32 * (1 - m.st.slot)) (sectB (m.st.gen + 1) (1 - m.st.reg))).1 with
   | false =>
    obtain ⟨qs, rs, e1, e2, e3⟩ := writes_no hup1 hway1 hw2;rw [if_neg (by decide)];refine ⟨Or.inl ⟨rfl, ?_, .head m1 t (m.st.gen + 1) h.holds (by omega) hdisk1 (by rw [hdisk1]; exact hturn) ⟨qs, rs, e1, e2, e3⟩⟩, (fun x => by cases x), (fun _ x => absurd rfl x), by rw [e3, ew]⟩;intro hz;rw [writes_calm hup1 (by rw [ew]; show m.fuse - _ = 0; omega)] at hw2; cases hw2
   | true =>
    rw [if_pos rfl];have ew2 := writes_yes hup1 hw2;rw [ew2];refine ⟨Or.inr ⟨by simp, ⟨hup1, rfl, ?_, ?_, ?_⟩, ⟨by rw [ew], by rw [ew], by rw [ew], by rw [ew], ?_⟩⟩, (fun _ => rfl), (fun x => absurd rfl x), by rw [ew]⟩
    ·show Holds (laidB m1.disk _ _) _;rw [hdisk1]; exact hturn
    ·rw [ew]; exact h.now
    ·rw [ew]; exact h.drawn
    ·intro hz;rw [ew];show m.fuse - _ - _ = 0;omega
end Go.Proofs.YtmnajomkfnkmeaaGreatDoor
namespace Go.Proofs.YtmnajomkfnkmeaaGreatDoor
def pickN (c : Int) (n : Nat) : Nat := ((if c < 0 then -(c + 1) else c) % n).toNat
theorem pickN_lt (c : Int) {n : Nat} (h : 0 < n) : pickN c n < n := by
 unfold pickN;have : ((if c < 0 then -(c + 1) else c) % (n : Int)) < n := Int.emod_lt_of_pos _ (by omega);have h2 : 0 ≤ ((if c < 0 then -(c + 1) else c) % (n : Int)) := Int.emod_nonneg _ (by omega);omega
end Go.Proofs.YtmnajomkfnkmeaaGreatDoor
namespace Go.Proofs.YtmnajomkfnkmeaaGreatDoor
end Go.Proofs.YtmnajomkfnkmeaaGreatDoor
namespace Go.Proofs.YtmnajomkfnkmeaaGreatDoor
end Go.Proofs.YtmnajomkfnkmeaaGreatDoor
namespace Go.Proofs.YtmnajomkfnkmeaaGreatDoor
end Go.Proofs.YtmnajomkfnkmeaaGreatDoor
namespace Go.Proofs.YtmnajomkfnkmeaaGreatDoor
end Go.Proofs.YtmnajomkfnkmeaaGreatDoor
namespace Go.Proofs.YtmnajomkfnkmeaaGreatDoor
structure Dv where
 stable : Bs
 written : Bs
 way : List Nat
 fuse : Nat
 down : Bool
def Dv.step (d : Dv) : Bool × Dv := if d.fuse = 0 then (!d.down, d) else (decide (d.fuse ≠ 1), { d with fuse := d.fuse - 1, down := decide (d.fuse = 1) })
def Dv.wrote (d : Dv) (s a : Nat) (t : Bs) : Dv := { d with written := laidB d.written a t, way := if s ∈ d.way then d.way else d.way ++ [s] }
def Dv.write (d : Dv) (s a : Nat) (t : Bs) : Bool × Dv := if d.down then (false, d) else (d.wrote s a t).step
def chunk (a n : Nat) : Nat := min (32 - a % 32) n
def Dv.puts : Nat → Dv → Nat → Bs → Bool × Dv
 | 0, d, _, _ => (true, d)
 | k + 1, d, a, t => if t.length = 0 then (true, d) else if (d.write (a / 32) a (t.take (chunk a t.length))).1 then Dv.puts k (d.write (a / 32) a (t.take (chunk a t.length))).2 (a + chunk a t.length) (t.drop (chunk a t.length)) else (false, (d.write (a / 32) a (t.take (chunk a t.length))).2)
def Dv.put (d : Dv) (a : Nat) (t : Bs) : Bool × Dv := Dv.puts t.length d a t
def syncB (wr : Bs) : List Nat → Bs → Bs
 | [], st => st
 | s :: ss, st => syncB wr ss (laidB st (32 * s) ((wr.drop (32 * s)).take 32))
def Dv.flush (d : Dv) : Bool × Dv := if d.step.1 then (true, { d.step.2 with stable := syncB d.written d.way d.stable, way := [] }) else (false, d.step.2)
def Dv.store (d : Dv) (a : Nat) (t : Bs) : Bool × Dv := if (d.put a t).1 then (d.put a t).2.flush else (false, (d.put a t).2)
def Dv.left (d : Dv) (keep torn part : Int) : Bs := leftAux keep torn part 0 d.stable (d.way.map fun s => slice d.written (32 * s))
def Dv.arm (d : Dv) (n : Int) : Dv := if d.down then d else { d with fuse := n.toNat }
structure Dv.ok (d : Dv) : Prop where
 size : okSize d.stable.length
 wsize : d.written.length = d.stable.length
 way : ∀ s ∈ d.way, 32 * s + 32 ≤ d.stable.length
 nodup : d.way.Nodup
 fuse : d.down = true → d.fuse = 0
theorem Dv.step_same (d : Dv) : d.step.2 = { d with fuse := d.step.2.fuse, down := d.step.2.down } := by unfold Dv.step; split <;> rfl
theorem Dv.step_ok {d : Dv} (h : d.ok) : d.step.2.ok := by
 rw [Dv.step_same];refine ⟨h.size, h.wsize, h.way, h.nodup, ?_⟩;show d.step.2.down = true → d.step.2.fuse = 0;unfold Dv.step;split
 ·exact h.fuse
 ·simp only [decide_eq_true_eq]; omega
theorem Dv.wrote_ok {d : Dv} (h : d.ok) {s a : Nat} {t : Bs} (hs : 32 * s + 32 ≤ d.stable.length) (ha : a + t.length ≤ d.stable.length) : (d.wrote s a t).ok := by
 refine ⟨h.size, ?_, ?_, ?_, h.fuse⟩
 ·show (laidB d.written a t).length = d.stable.length;rw [laidB_length (by rw [h.wsize]; exact ha)]; exact h.wsize
 ·intro x hx;show 32 * x + 32 ≤ d.stable.length;unfold Dv.wrote at hx;simp only at hx;split at hx
  ·exact h.way x hx
  ·rcases List.mem_append.1 hx with hx | hx
   ·exact h.way x hx
   ·rw [List.mem_singleton.1 hx]; exact hs
 ·unfold Dv.wrote;simp only;split
  ·exact h.nodup
  ·rename_i hn;rw [List.nodup_append];exact ⟨h.nodup, by simp, fun x hx y hy => by rw [List.mem_singleton.1 hy]; exact fun e => hn (e ▸ hx)⟩
theorem Dv.write_ok {d : Dv} (h : d.ok) {s a : Nat} {t : Bs} (hs : 32 * s + 32 ≤ d.stable.length) (ha : a + t.length ≤ d.stable.length) : (d.write s a t).2.ok := by
 unfold Dv.write;split
 ·exact h
 ·exact Dv.step_ok (Dv.wrote_ok h hs ha)
theorem Dv.write_stable (d : Dv) (s a : Nat) (t : Bs) : (d.write s a t).2.stable = d.stable := by
 unfold Dv.write;split
 ·rfl
 ·rw [Dv.step_same]; rfl
theorem chunk_le (a n : Nat) : chunk a n ≤ n := by unfold chunk; omega
theorem chunk_pos {a n : Nat} (h : 0 < n) : 0 < chunk a n := by unfold chunk; omega
theorem chunk_in (a n : Nat) : a + chunk a n ≤ 32 * (a / 32) + 32 := by unfold chunk; omega
theorem Dv.puts_ok : ∀ (k : Nat) {d : Dv} {a : Nat} {t : Bs}, d.ok → a + t.length ≤ d.stable.length → (Dv.puts k d a t).2.ok ∧ (Dv.puts k d a t).2.stable = d.stable
 | 0, _, _, _, h, _ => ⟨h, rfl⟩
 | k + 1, d, a, t, h, ha => by
  unfold Dv.puts;split
  ·exact ⟨h, rfl⟩
  ·rename_i hne;have h32 : d.stable.length % 32 = 0 := h.size.1;have hc := chunk_le a t.length;have hw := Dv.write_ok h (s := a / 32) (a := a) (t := t.take (chunk a t.length)) (by omega) (by rw [List.length_take]; omega);have hst := Dv.write_stable d (a / 32) a (t.take (chunk a t.length));split
   ·have := Dv.puts_ok k (a := a + chunk a t.length) (t := t.drop (chunk a t.length)) hw (by rw [hst, List.length_drop]; omega);exact ⟨this.1, this.2.trans hst⟩
   ·exact ⟨hw, hst⟩
theorem Dv.put_ok {d : Dv} (h : d.ok) {a : Nat} {t : Bs} (ha : a + t.length ≤ d.stable.length) : (d.put a t).2.ok ∧ (d.put a t).2.stable = d.stable := Dv.puts_ok _ h ha
theorem syncB_length (wr : Bs) : ∀ (ss : List Nat) (st : Bs), wr.length = st.length → (∀ s ∈ ss, 32 * s + 32 ≤ st.length) → (syncB wr ss st).length = st.length
 | [], _, _, _ => rfl
 | s :: ss, st, hl, h => by
  unfold syncB;have h1 := h s (by simp);have hx : ((wr.drop (32 * s)).take 32).length = 32 := by rw [List.length_take, List.length_drop]; omega
  have e : (laidB st (32 * s) ((wr.drop (32 * s)).take 32)).length = st.length := laidB_length (by rw [hx]; omega);rw [syncB_length wr ss _ (by rw [e]; exact hl) (fun x hx => by rw [e]; exact h x (by simp [hx])), e]
theorem Dv.flush_ok {d : Dv} (h : d.ok) : d.flush.2.ok ∧ d.flush.2.stable.length = d.stable.length := by
 unfold Dv.flush;have hs := Dv.step_ok h;have e := Dv.step_same d;split
 ·have hl := syncB_length d.written d.way d.stable h.wsize h.way;refine ⟨⟨?_, ?_, ?_, List.nodup_nil, hs.fuse⟩, hl⟩
  ·show okSize (syncB d.written d.way d.stable).length;rw [hl]; exact h.size
  ·show d.step.2.written.length = (syncB d.written d.way d.stable).length;rw [e, hl]; exact h.wsize
  ·intro x hx; cases hx
 ·exact ⟨hs, by rw [e]⟩
structure KD (m : Kp) (d : Dv) : Prop where
 stable : d.stable = m.disk
 fuse : d.fuse = m.fuse
 down : d.down = m.down
 way : m.way = d.way.map fun s => slice d.written (32 * s)
 rest : d.down = false → d.way = [] ∧ d.written = d.stable
theorem KD.left {m : Kp} {d : Dv} (h : KD m d) (keep torn part : Int) : d.left keep torn part = m.left keep torn part := by
 unfold Dv.left Kp.left;rw [h.stable, h.way]
theorem KD.arm {m : Kp} {d : Dv} (h : KD m d) (n : Int) : KD (m.arm n) (d.arm n) := by
 unfold Kp.arm Dv.arm;have hdd := h.down;by_cases hd : m.down = true
 ·rw [if_pos hd, if_pos (hdd.trans hd)]; exact h
 ·rw [if_neg hd, if_neg (fun x => hd (hdd ▸ x))]; exact ⟨h.stable, rfl, hdd, h.way, h.rest⟩
structure KM (s : Bs) (a : Nat) (m : Kp) (d : Dv) : Prop where
 stable : d.stable = m.disk
 fuse : d.fuse = m.fuse
 down : d.down = false
 mdown : m.down = false
 way : m.way = d.way.map fun x => slice s (32 * x)
 got : ∀ i : Nat, d.written[i]? = if i < a then s[i]? else m.disk[i]?
 front : ∀ x ∈ d.way, 32 * x + 32 ≤ a
structure KE (s : Bs) (m : Kp) (d : Dv) : Prop where
 stable : d.stable = m.disk
 fuse : d.fuse = m.fuse
 down : d.down = m.down
 way : m.way = d.way.map fun x => slice s (32 * x)
 got : ∀ x ∈ d.way, slice d.written (32 * x) = slice s (32 * x)
theorem slice_congr {a b : Bs} {o : Nat} (h : ∀ i, o ≤ i → i < o + 32 → a[i]? = b[i]?) : slice a o = slice b o := by
 unfold slice;congr 1;apply List.ext_getElem?;intro i;rw [List.getElem?_take, List.getElem?_take];split
 ·rw [List.getElem?_drop, List.getElem?_drop]; exact h _ (by omega) (by omega)
 ·rfl
def offs0 (a n : Nat) : List Nat := if n = 0 then [] else offs a n
theorem offs_cons {a n : Nat} (h : 0 < n) : offs a n = 32 * (a / 32) :: offs0 (a + chunk a n) (n - chunk a n) := by
 unfold offs0 offs;rw [show (a + n + 31) / 32 - a / 32 = ((a + n + 31) / 32 - a / 32 - 1) + 1 by omega, List.range'_succ, List.map_cons];congr 1;by_cases c : n ≤ 32 - a % 32
 ·have e : chunk a n = n := by unfold chunk; omega
  rw [e, Nat.sub_self, if_pos rfl, show (a + n + 31) / 32 - a / 32 - 1 = 0 by omega]; rfl
 ·have e : chunk a n = 32 - a % 32 := by unfold chunk; omega
  rw [e, if_neg (by omega), show (a + (32 - a % 32)) / 32 = a / 32 + 1 by omega, show (a + (32 - a % 32) + (n - (32 - a % 32)) + 31) / 32 - (a / 32 + 1) = (a + n + 31) / 32 - a / 32 - 1 by omega]
theorem KM.stepped {m : Kp} {d : Dv} (h1 : d.fuse = m.fuse) (h2 : d.down = m.down) : d.step.1 = m.step.1 ∧ d.step.2.fuse = m.step.2.fuse ∧ d.step.2.down = m.step.2.down := by
 unfold Dv.step Kp.step;rw [h1, h2];split
 ·exact ⟨rfl, h1, h2⟩
 ·exact ⟨rfl, rfl, rfl⟩
theorem kstep_same (m : Kp) : m.step.2 = { m with fuse := m.step.2.fuse, down := m.step.2.down } := by unfold Kp.step; split <;> rfl
theorem kstep_down {m : Kp} (h : m.down = false) : m.step.2.down = !m.step.1 := by
 unfold Kp.step;split
 ·simp [h]
 ·simp
theorem puts_eq (s : Bs) : ∀ (k : Nat) (a : Nat) (t : Bs) (m : Kp) (d : Dv), KM s a m d → t.length ≤ k → s.length = m.disk.length → d.written.length = m.disk.length → a + t.length ≤ m.disk.length →
  (∀ i : Nat, a ≤ i → s[i]? = if i < a + t.length then t[i - a]? else m.disk[i]?) →
  (Dv.puts k d a t).1 = (Kp.puts s (offs0 a t.length) m).1 ∧ KE s (Kp.puts s (offs0 a t.length) m).2 (Dv.puts k d a t).2 ∧ ((Dv.puts k d a t).1 = true → (Dv.puts k d a t).2.written = s ∧ (Dv.puts k d a t).2.down = false) := by
 intro k
 induction k with
 | zero =>
  intro a t m d h hk _ _ _ hs;have e : t.length = 0 := by omega
  rw [e];have hw : d.written = s := by
   apply List.ext_getElem?;intro i;rw [h.got i];split
   ·rfl
   ·rw [hs i (by omega), if_neg (by omega)]
  exact ⟨rfl, ⟨h.stable, h.fuse, h.down.trans h.mdown.symm, h.way, fun x _ => (by show slice d.written _ = _; rw [hw])⟩, fun _ => ⟨hw, h.down⟩⟩
 | succ k ih =>
  intro a t m d h hk hsl hwl hat hs;by_cases e : t.length = 0
  ·have hw : d.written = s := by
    apply List.ext_getElem?;intro i;rw [h.got i];split
    ·rfl
    ·rw [hs i (by omega), if_neg (by omega)]
   unfold Dv.puts;rw [if_pos e, e];exact ⟨rfl, ⟨h.stable, h.fuse, h.down.trans h.mdown.symm, h.way, fun x _ => (by show slice d.written _ = _; rw [hw])⟩, fun _ => ⟨hw, h.down⟩⟩
  ·have hpos : 0 < t.length := by omega
   have hc := chunk_le a t.length;have hcp := chunk_pos (a := a) hpos;have hci := chunk_in a t.length;have hoff : offs0 a t.length = 32 * (a / 32) :: offs0 (a + chunk a t.length) (t.length - chunk a t.length) := by
    rw [show offs0 a t.length = offs a t.length from if_neg e]; exact offs_cons hpos
   have hnew : a / 32 ∉ d.way := fun hx => by have := h.front _ hx; omega
   have hch : a + chunk a t.length = a + t.length ∨ a + chunk a t.length = 32 * (a / 32) + 32 := by unfold chunk; omega
   generalize hcc : chunk a t.length = c at *
   have htk : (t.take c).length = c := by rw [List.length_take]; omega
   have hwr : d.write (a / 32) a (t.take c) = (d.wrote (a / 32) a (t.take c)).step := by unfold Dv.write; rw [h.down]; rfl
   have hway : (d.wrote (a / 32) a (t.take c)).way = d.way ++ [a / 32] := by unfold Dv.wrote; simp only [if_neg hnew]
   have hwrit : ∀ i : Nat, (d.wrote (a / 32) a (t.take c)).written[i]? = if i < a + c then s[i]? else m.disk[i]? := by
    intro i;show (laidB d.written a (t.take c))[i]? = _;rw [laidB_get (by rw [htk]; omega), htk, h.got i];by_cases c1 : i < a
    ·rw [if_pos c1, if_pos c1, if_pos (by omega)]
    ·rw [if_neg c1];by_cases c2 : i < a + c
     ·rw [if_pos c2, if_pos c2, hs i (by omega), if_pos (by omega), List.getElem?_take, if_pos (by omega)]
     ·rw [if_neg c2, if_neg c2, if_neg (by omega)]
   have hst := KM.stepped (m := { m with way := m.way ++ [slice s (32 * (a / 32))] }) (d := d.wrote (a / 32) a (t.take c)) h.fuse (h.down.trans h.mdown.symm);have hd1 := Dv.step_same (d.wrote (a / 32) a (t.take c));have hm1 := kstep_same { m with way := m.way ++ [slice s (32 * (a / 32))] };have hdn := kstep_down (m := { m with way := m.way ++ [slice s (32 * (a / 32))] }) h.mdown;have hway1 : m.way ++ [slice s (32 * (a / 32))] = ((d.wrote (a / 32) a (t.take c)).way).map fun x => slice s (32 * x) := by rw [hway, h.way]; simp
   have hp : Dv.puts (k + 1) d a t = if ((d.wrote (a / 32) a (t.take c)).step).1 then Dv.puts k ((d.wrote (a / 32) a (t.take c)).step).2 (a + c) (t.drop c) else (false, ((d.wrote (a / 32) a (t.take c)).step).2) := by
    conv => lhs; unfold Dv.puts
    rw [if_neg e, hcc, hwr]
   have hq : Kp.puts s (offs0 a t.length) m = if ({ m with way := m.way ++ [slice s (32 * (a / 32))] } : Kp).step.1 then Kp.puts s (offs0 (a + c) (t.length - c)) ({ m with way := m.way ++ [slice s (32 * (a / 32))] } : Kp).step.2 else (false, ({ m with way := m.way ++ [slice s (32 * (a / 32))] } : Kp).step.2) := by
    rw [hoff]; rfl
   have hin : ∀ x ∈ (d.wrote (a / 32) a (t.take c)).way, slice (d.wrote (a / 32) a (t.take c)).written (32 * x) = slice s (32 * x) := by
    intro x hx;apply slice_congr;intro i h1 h2;rw [hwrit i];split
    ·rfl
    ·rename_i hge;rw [hway] at hx;rcases List.mem_append.1 hx with hx | hx
     ·have := h.front x hx; omega
     ·rw [List.mem_singleton.1 hx] at h1 h2;rw [hs i (by omega), if_neg (by omega)]
   rw [hp, hq, ← hst.1];by_cases hb : (d.wrote (a / 32) a (t.take c)).step.1 = true
   ·rw [if_pos hb, if_pos hb];have hlen : (t.drop c).length = t.length - c := List.length_drop;rw [← hlen];have hdn1 : ({ m with way := m.way ++ [slice s (32 * (a / 32))] } : Kp).step.2.down = false := by rw [hdn, ← hst.1, hb]; rfl
    have hdisk : ({ m with way := m.way ++ [slice s (32 * (a / 32))] } : Kp).step.2.disk = m.disk := by rw [hm1]
    have hwlen : (d.wrote (a / 32) a (t.take c)).written.length = m.disk.length := by
     show (laidB d.written a (t.take c)).length = _;rw [laidB_length (by rw [htk]; omega)]; exact hwl
    by_cases hz : t.length - c = 0
    ·have hno : t.drop c = [] := List.eq_nil_of_length_eq_zero (by rw [hlen]; exact hz);rw [hno];have hw : (d.wrote (a / 32) a (t.take c)).written = s := by
      apply List.ext_getElem?;intro i;rw [hwrit i];split
      ·rfl
      ·rw [hs i (by omega), if_neg (by omega)]
     have hpk : Dv.puts k (d.wrote (a / 32) a (t.take c)).step.2 (a + c) [] = (true, (d.wrote (a / 32) a (t.take c)).step.2) := by cases k <;> rfl
     rw [hpk];refine ⟨rfl, ⟨?_, hst.2.1, hst.2.2, ?_, ?_⟩, fun _ => ⟨?_, ?_⟩⟩
     ·show (d.wrote (a / 32) a (t.take c)).step.2.stable = ({ m with way := m.way ++ [slice s (32 * (a / 32))] } : Kp).step.2.disk;rw [hdisk, hd1]; exact h.stable
     ·show ({ m with way := m.way ++ [slice s (32 * (a / 32))] } : Kp).step.2.way = _;rw [hm1, hd1]; exact hway1
     ·rw [hd1]; exact hin
     ·rw [hd1]; exact hw
     ·exact hst.2.2.trans hdn1
    ·refine ih (a + c) (t.drop c) _ _ ⟨?_, hst.2.1, hst.2.2.trans hdn1, hdn1, ?_, ?_, ?_⟩ (by rw [hlen]; omega) (by rw [hdisk]; exact hsl) (by rw [hd1, hdisk]; exact hwlen) (by rw [hdisk, hlen]; omega) ?_
     ·rw [hdisk, hd1]; exact h.stable
     ·rw [hm1, hd1]; exact hway1
     ·rw [hdisk, hd1]; exact hwrit
     ·rw [hd1];intro x hx;have hx : x ∈ (d.wrote (a / 32) a (t.take c)).way := hx;rw [hway] at hx;rcases List.mem_append.1 hx with hx | hx
      ·have := h.front x hx; omega
      ·rw [List.mem_singleton.1 hx]; omega
     ·intro i hi;rw [hs i (by omega), hdisk, hlen];by_cases c1 : i < a + t.length
      ·rw [if_pos c1, if_pos (by omega), List.getElem?_drop];congr 1; omega
      ·rw [if_neg c1, if_neg (by omega)]
   ·rw [if_neg hb, if_neg hb];refine ⟨rfl, ⟨?_, hst.2.1, hst.2.2, ?_, ?_⟩, fun x => (by cases x)⟩
    ·show (d.wrote (a / 32) a (t.take c)).step.2.stable = ({ m with way := m.way ++ [slice s (32 * (a / 32))] } : Kp).step.2.disk;rw [hd1, hm1]; exact h.stable
    ·show ({ m with way := m.way ++ [slice s (32 * (a / 32))] } : Kp).step.2.way = _;rw [hm1, hd1]; exact hway1
    ·rw [hd1]; exact hin
theorem sync_get (s : Bs) : ∀ (ss : List Nat) (st : Bs), s.length = st.length → (∀ x ∈ ss, 32 * x + 32 ≤ st.length) →
  ∀ i : Nat, (syncB s ss st)[i]? = if ∃ x ∈ ss, 32 * x ≤ i ∧ i < 32 * x + 32 then s[i]? else st[i]?
 | [], st, _, _ => fun i => by rw [if_neg (by rintro ⟨x, hx, _⟩; cases hx)]; rfl
 | x :: ss, st, hl, h => fun i => by
  have h1 := h x (by simp);have hx : ((s.drop (32 * x)).take 32).length = 32 := by rw [List.length_take, List.length_drop]; omega
  have e : (laidB st (32 * x) ((s.drop (32 * x)).take 32)).length = st.length := laidB_length (by rw [hx]; omega);unfold syncB;rw [sync_get s ss _ (by rw [e]; exact hl) (fun y hy => by rw [e]; exact h y (by simp [hy])) i, laidB_get (by rw [hx]; omega), hx];by_cases c : ∃ y ∈ ss, 32 * y ≤ i ∧ i < 32 * y + 32
  ·rw [if_pos c, if_pos (by obtain ⟨y, h1, h2⟩ := c; exact ⟨y, by simp [h1], h2⟩)]
  ·rw [if_neg c];by_cases c2 : 32 * x ≤ i ∧ i < 32 * x + 32
   ·rw [if_neg (by omega), if_pos (by omega), if_pos ⟨x, by simp, c2⟩, List.getElem?_take, if_pos (by omega), List.getElem?_drop];congr 1; omega
   ·have hno : ¬ ∃ y ∈ x :: ss, 32 * y ≤ i ∧ i < 32 * y + 32 := by
     rintro ⟨y, hy, h3⟩;rcases List.mem_cons.1 hy with e2 | hy
     ·subst e2; exact c2 h3
     ·exact c ⟨y, hy, h3⟩
    rw [if_neg hno];by_cases c3 : i < 32 * x
    ·rw [if_pos c3]
    ·rw [if_neg c3, if_neg (by omega)]
theorem KD.store {m : Kp} {d : Dv} (h : KD m d) (hd : d.ok) (hu : m.down = false) {p : Nat} {r : Bs} (hr : 0 < r.length) (hp : p + r.length ≤ m.disk.length) :
  (d.store p r).1 = (m.writes p r).1 ∧ KD (m.writes p r).2 (d.store p r).2 := by
 have hdd : d.down = false := h.down.trans hu;obtain ⟨hw0, hwr⟩ := h.rest hdd;have hm0 : m.way = [] := by rw [h.way, hw0]; rfl
 have hsl : (laidB m.disk p r).length = m.disk.length := laidB_length hp;have hst : d.stable.length = m.disk.length := by rw [h.stable]
 have hsget := fun i => laidB_get (s := m.disk) (r := r) (p := p) hp i;have hkm : KM (laidB m.disk p r) p m d := ⟨h.stable, h.fuse, hdd, hu, by rw [hm0, hw0]; rfl, fun i => by
  rw [hwr, h.stable, hsget i]
  split
  ·rfl
  ·rfl, fun x hx => by rw [hw0] at hx; cases hx⟩
 obtain ⟨e1, e2, e3⟩ := puts_eq (laidB m.disk p r) r.length p r m d hkm (Nat.le_refl _) hsl (by rw [hd.wsize]; exact hst) hp (fun i hi => by rw [hsget i, if_neg (by omega)]);rw [show offs0 p r.length = offs p r.length from if_neg (by omega)] at e1 e2;have hput : Dv.puts r.length d p r = d.put p r := rfl;rw [hput] at e1 e2 e3;have hok := Dv.put_ok hd (a := p) (t := r) (by omega);unfold Dv.store Kp.writes;rw [e1];by_cases c : (Kp.puts (laidB m.disk p r) (offs p r.length) m).1 = true
 ·rw [if_pos c, if_pos c];obtain ⟨w1, w2⟩ := e3 (e1.trans c);have hpy := puts_yes _ _ _ hu c;have hs2 := KM.stepped (m := (Kp.puts (laidB m.disk p r) (offs p r.length) m).2) (d := (d.put p r).2) e2.fuse e2.down;have hmd : (Kp.puts (laidB m.disk p r) (offs p r.length) m).2.disk = m.disk := by rw [hpy]
  have hmw : (Kp.puts (laidB m.disk p r) (offs p r.length) m).2.way = (offs p r.length).map (slice (laidB m.disk p r)) := by rw [hpy, hm0]; rfl
  have hdwn : (Kp.puts (laidB m.disk p r) (offs p r.length) m).2.down = false := by rw [← e2.down]; exact w2
  unfold Dv.flush Kp.flush;rw [hs2.1];by_cases c2 : (Kp.puts (laidB m.disk p r) (offs p r.length) m).2.step.1 = true
  ·rw [if_pos c2, if_pos c2];have hoffs : ∀ i : Nat, (∃ x ∈ (d.put p r).2.way, 32 * x ≤ i ∧ i < 32 * x + 32) ↔ (p / 32 * 32 ≤ i ∧ i < (p + r.length + 31) / 32 * 32) := by
    have hfst : (d.put p r).2.way.map (32 * ·) = offs p r.length := by
     have := congrArg (List.map Prod.fst) (e2.way.symm.trans hmw);rw [List.map_map, List.map_map] at this;have e : (Prod.fst ∘ slice (laidB m.disk p r)) = id := rfl;rw [e, List.map_id] at this;exact this
    intro i;constructor
    ·rintro ⟨x, hx, h1, h2⟩;have : 32 * x ∈ offs p r.length := by rw [← hfst]; exact List.mem_map.2 ⟨x, hx, rfl⟩
     rw [mem_offs] at this;omega
    ·rintro ⟨h1, h2⟩;have : 32 * (i / 32) ∈ offs p r.length := by rw [mem_offs]; omega
     rw [← hfst] at this;obtain ⟨x, hx, e⟩ := List.mem_map.1 this;exact ⟨x, hx, by omega, by omega⟩
   have hsy : syncB (d.put p r).2.written (d.put p r).2.way (d.put p r).2.stable = laidB m.disk p r := by
    rw [w1, e2.stable, hmd];apply List.ext_getElem?;intro i;rw [sync_get _ _ _ hsl (fun x hx => by have := hok.1.way x hx; rw [e2.stable, hmd] at this; exact this) i];split
    ·rfl
    ·rename_i hn;rw [hoffs i] at hn;rw [hsget i];split
     ·rfl
     ·rw [if_neg (by omega)]
   refine ⟨rfl, ⟨hsy, hs2.2.1, hs2.2.2, rfl, fun _ => ⟨rfl, ?_⟩⟩⟩;show (d.put p r).2.step.2.written = syncB _ _ _;rw [Dv.step_same, hsy]; exact w1
  ·rw [if_neg c2, if_neg c2];refine ⟨rfl, ⟨?_, hs2.2.1, hs2.2.2, ?_, fun hx => ?_⟩⟩
   ·rw [Dv.step_same, kstep_same]; exact e2.stable
   ·rw [Dv.step_same, kstep_same];show (Kp.puts (laidB m.disk p r) (offs p r.length) m).2.way = _;rw [e2.way];exact List.map_congr_left fun x hx => (e2.got x hx).symm
   ·exfalso;have hx : (d.put p r).2.step.2.down = false := hx;rw [hs2.2.2, kstep_down hdwn] at hx;simp [c2] at hx
 ·rw [if_neg c, if_neg c];refine ⟨rfl, ⟨e2.stable, e2.fuse, e2.down, ?_, fun hx => ?_⟩⟩
  ·rw [e2.way];exact List.map_congr_left fun x hx => (e2.got x hx).symm
  ·exfalso;obtain ⟨qs, rs, _, _, e⟩ := puts_no _ _ _ hu (by simpa using c);have hx : (d.put p r).2.down = false := hx;rw [e2.down, e] at hx;cases hx
end Go.Proofs.YtmnajomkfnkmeaaGreatDoor
