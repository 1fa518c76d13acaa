import Derived.Test.YtmnajomkfnkmeaaGreatDoorPurA
namespace Go.Proofs.YtmnajomkfnkmeaaGreatDoor
/-! ### the keeper, call by call (plain mathematics) -/
def dig (n : Nat) : UInt8 := [48, 49, 50, 51, 52, 53, 54, 55, 56, 57, 97, 98, 99, 100, 101, 102].getD n 0
def undig (b : UInt8) : Nat := if 48 ≤ b.toNat ∧ b.toNat ≤ 57 then b.toNat - 48 else if 97 ≤ b.toNat ∧ b.toNat ≤ 102 then b.toNat - 97 + 10 else 0
theorem undig_dig (n : Nat) (h : n < 16) : undig (dig n) = n := by
  have : ∀ k : Fin 16, undig (dig k.val) = k.val := by decide
  exact this ⟨n, h⟩
theorem undig_lt (b : UInt8) : undig b < 16 := by unfold undig; split <;> (try split) <;> omega
def passF (id : Nat) : Bs := [118, 49, dig (id / 256 % 16), dig (id / 16 % 16), dig (id % 16)]
def passN (s : Bs) (id : Nat) : Nat := sumB (s ++ passF id)
def passL (s : Bs) (id : Nat) : Bs := passF id ++ [dig (passN s id % 256 / 16), dig (passN s id % 256 % 16), dig (passN s id / 256 / 16), dig (passN s id / 256 % 16)]
theorem passL_length (s : Bs) (id : Nat) : (passL s id).length = 9 := rfl
def passId (t : Bs) : Nat := 256 * undig (t.getD 2 0) + 16 * undig (t.getD 3 0) + undig (t.getD 4 0)
def passOf (s t : Bs) : Option Nat := if t.length = 9 ∧ passL s (passId t) = t then some (passId t) else none
theorem passId_lt (t : Bs) : passId t < 4096 := by
  have h1 := undig_lt (t.getD 2 0)
  have h2 := undig_lt (t.getD 3 0)
  have h3 := undig_lt (t.getD 4 0)
  unfold passId; omega
theorem passId_pass (s : Bs) (id : Nat) (h : id < 4096) : passId (passL s id) = id := by
  show 256 * undig (dig (id / 256 % 16)) + 16 * undig (dig (id / 16 % 16)) + undig (dig (id % 16)) = id
  rw [undig_dig _ (by omega), undig_dig _ (by omega), undig_dig _ (by omega)]; omega
theorem passOf_pass (s : Bs) (id : Nat) (h : id < 4096) : passOf s (passL s id) = some id := by
  unfold passOf
  rw [passId_pass s id h, if_pos ⟨rfl, rfl⟩]
theorem passOf_some {s t : Bs} {id : Nat} (h : passOf s t = some id) : t = passL s id ∧ id < 4096 := by
  unfold passOf at h
  split at h
  · rename_i c
    cases h
    exact ⟨c.2.symm, passId_lt t⟩
  · cases h
theorem passL_inj {s : Bs} {i j : Nat} (hi : i < 4096) (hj : j < 4096) (h : passL s i = passL s j) : i = j := by
  have := passOf_pass s i hi
  rw [h, passOf_pass s j hj] at this
  cases this; rfl

def drawX (x : Nat) : Nat := (75 * x + 74) % 65537
def drawN : Nat → Nat → Tab → Option Nat × Nat
  | 0, x, _ => (none, x)
  | n + 1, x, T => if (T (drawX x % 4096)).isNone then (some (drawX x % 4096), drawX x) else drawN n (drawX x) T
theorem drawX_lt (x : Nat) : drawX x < 65537 := Nat.mod_lt _ (by decide)
theorem drawN_free {n x y id : Nat} {T : Tab} (h : drawN n x T = (some id, y)) : T id = none ∧ id < 4096 ∧ y < 65537 := by
  induction n generalizing x with
  | zero => cases h
  | succ n ih =>
    unfold drawN at h
    split at h
    · rename_i c
      cases h
      exact ⟨Option.isNone_iff_eq_none.1 c, Nat.mod_lt _ (by decide), drawX_lt x⟩
    · exact ih h
theorem drawN_lt {n x : Nat} {T : Tab} (hx : x < 65537) : (drawN n x T).2 < 65537 := by
  induction n generalizing x with
  | zero => exact hx
  | succ n ih =>
    unfold drawN
    split
    · exact drawX_lt x
    · exact ih (drawX_lt x)

structure Kp where
  secret : Bs
  idle : Nat
  abs : Nat
  now : Nat
  drawn : Nat
  disk : Bs
  way : List (Nat × Bs)
  fuse : Nat
  down : Bool
  st : St
/-- a disk step -/
def Kp.step (m : Kp) : Bool × Kp := if m.fuse = 0 then (!m.down, m) else (decide (m.fuse ≠ 1), { m with fuse := m.fuse - 1, down := decide (m.fuse = 1) })
/-- the places of the sectors in which some bytes lie -/
def offs (p n : Nat) : List Nat := (List.range' (p / 32) ((p + n + 31) / 32 - p / 32)).map (32 * ·)
def Kp.puts (s : Bs) : List Nat → Kp → Bool × Kp
  | [], m => (true, m)
  | o :: os, m => if ({ m with way := m.way ++ [(o, (s.drop o).take 32)] } : Kp).step.1 then Kp.puts s os ({ m with way := m.way ++ [(o, (s.drop o).take 32)] } : Kp).step.2 else (false, ({ m with way := m.way ++ [(o, (s.drop o).take 32)] } : Kp).step.2)
def Kp.flush (s : Bs) (m : Kp) : Bool × Kp := if m.step.1 then (true, { m.step.2 with disk := s, way := [] }) else (false, m.step.2)
def Kp.writes (m : Kp) (p : Nat) (r : Bs) : Bool × Kp :=
  if (Kp.puts (laidB m.disk p r) (offs p r.length) m).1 then Kp.flush (laidB m.disk p r) (Kp.puts (laidB m.disk p r) (offs p r.length) m).2 else (false, (Kp.puts (laidB m.disk p r) (offs p r.length) m).2)
def Kp.full (m : Kp) (c : Chg) : Bool := decide (halfN m.disk.length < m.st.endp + (chgB c).length + 10) || decide (65535 < m.st.next)
def Kp.change (m : Kp) (c : Chg) : Nat × Kp :=
  if m.full c then (9, m)
  else if (m.writes (regAt m.disk.length m.st.reg + m.st.endp) (recB m.st.gen m.st.next (chgB c))).1 then
    (0, { (m.writes (regAt m.disk.length m.st.reg + m.st.endp) (recB m.st.gen m.st.next (chgB c))).2 with st := m.st.does c })
  else (4, (m.writes (regAt m.disk.length m.st.reg + m.st.endp) (recB m.st.gen m.st.next (chgB c))).2)
def Kp.over (m : Kp) (x : Sess) : Bool := decide ((m.idle : Int) ≤ (m.now : Int) - x.used) || decide ((m.abs : Int) ≤ (m.now : Int) - x.created)
/-- a pass is found: the number, or the error -/
def Kp.find (m : Kp) (p : Bs) : Nat × Nat :=
  if m.down then (0, 4)
  else match passOf m.secret p with
    | none => (0, 5)
    | some id =>
      match m.st.T id with
      | none => (0, 6)
      | some x => if m.over x then (id, 7) else (id, 0)
/-- and looked at -/
def Kp.look (m : Kp) (p : Bs) : Nat × Nat × Kp :=
  if (m.find p).2 = 7 then (if (m.change (.X (m.find p).1)).1 = 0 then (0, 7, (m.change (.X (m.find p).1)).2) else (0, (m.change (.X (m.find p).1)).1, (m.change (.X (m.find p).1)).2))
  else ((m.find p).1, (m.find p).2, m)
def Kp.draw (m : Kp) : Option Nat × Kp := ((drawN 8 m.drawn m.st.T).1, { m with drawn := (drawN 8 m.drawn m.st.T).2 })
def Kp.login (m : Kp) (user : Int) : Bs × Nat × Kp :=
  if m.down then ([], 4, m)
  else if ¬ (1 ≤ user ∧ user ≤ 99) then ([], 1, m)
  else if 12 ≤ m.st.T.live then ([], 8, m)
  else match m.draw with
    | (none, m1) => ([], 8, m1)
    | (some id, m1) => if (m1.change (.L id user.toNat m.now)).1 = 0 then (passL m.secret id, 0, (m1.change (.L id user.toNat m.now)).2) else ([], (m1.change (.L id user.toNat m.now)).1, (m1.change (.L id user.toNat m.now)).2)
def Kp.touch (m : Kp) (p : Bs) : Nat × Kp :=
  if (m.look p).2.1 = 0 then (m.look p).2.2.change (.T (m.look p).1 m.now) else ((m.look p).2.1, (m.look p).2.2)
def Kp.rotate (m : Kp) (p : Bs) : Bs × Nat × Kp :=
  if (m.look p).2.1 = 0 then
    match m.draw with
    | (none, m1) => ([], 8, m1)
    | (some to, m1) => if (m1.change (.R (m.look p).1 to m.now)).1 = 0 then (passL m.secret to, 0, (m1.change (.R (m.look p).1 to m.now)).2) else ([], (m1.change (.R (m.look p).1 to m.now)).1, (m1.change (.R (m.look p).1 to m.now)).2)
  else ([], (m.look p).2.1, (m.look p).2.2)
def Kp.set (m : Kp) (p n v : Bs) : Nat × Kp :=
  if n.length = 0 ∨ 8 < n.length ∨ 8 < v.length then (1, m)
  else if (m.look p).2.1 = 0 then
    (if (match m.st.T (m.look p).1 with | some x => x.room n | none => false) then m.change (.S (m.look p).1 n v m.now) else (8, m))
  else ((m.look p).2.1, (m.look p).2.2)
def Kp.get (m : Kp) (p n : Bs) : Bs × Nat :=
  if (m.find p).2 = 0 then
    match m.st.T (m.find p).1 with
    | some x => (match valAt n x.vals with | some v => (v, 0) | none => ([], 6))
    | none => ([], 6)
  else ([], (m.find p).2)
def Kp.logout (m : Kp) (p : Bs) : Nat × Kp :=
  if (m.look p).2.1 = 0 then m.change (.X (m.look p).1) else ((m.look p).2.1, (m.look p).2.2)
def Kp.logoutAll (m : Kp) (user : Int) : Nat × Nat × Kp :=
  if m.down then (0, 4, m)
  else if ¬ (1 ≤ user ∧ user ≤ 99) then (0, 1, m)
  else if m.st.T.ofUser user.toNat = 0 then (0, 0, m)
  else if (m.change (.U user.toNat)).1 = 0 then (m.st.T.ofUser user.toNat, 0, (m.change (.U user.toNat)).2)
  else (0, (m.change (.U user.toNat)).1, (m.change (.U user.toNat)).2)
def Kp.tick (m : Kp) (n : Int) : Nat × Kp :=
  if m.down then (4, m)
  else if n < 0 ∨ 1000000000 < (m.now : Int) + n then (1, m)
  else (0, { m with now := m.now + n.toNat })
def Kp.live (m : Kp) : Nat × Nat := if m.down then (0, 4) else (m.st.T.live, 0)
def Kp.compact (m : Kp) : Nat × Kp :=
  if m.down then (4, m)
  else if halfN m.disk.length < (snapB m.st.T).length + 10 ∨ 1000000000 < m.st.gen + 1 then (9, m)
  else
    let w1 := m.writes (regAt m.disk.length (1 - m.st.reg)) (recB (m.st.gen + 1) 0 (snapB m.st.T) ++ zeros (halfN m.disk.length - ((snapB m.st.T).length + 10)))
    if w1.1 then
      let w2 := w1.2.writes (32 * (1 - m.st.slot)) (sectB (m.st.gen + 1) (1 - m.st.reg))
      if w2.1 then (0, { w2.2 with st := m.st.next2 }) else (4, w2.2)
    else (4, w1.2)
def Kp.arm (m : Kp) (n : Int) : Kp := if m.down then m else { m with fuse := n.toNat }
def clampP (part : Int) : Nat := min part.toNat 32
def leftAux (keep torn part : Int) : Nat → Bs → List (Nat × Bs) → Bs
  | _, s, [] => s
  | i, s, (a, b) :: r => leftAux keep torn part (i + 1) (if (i : Int) = torn then laidB s a (b.take (clampP part)) else if (keep / (2 ^ (min i 62) : Nat)) % 2 ≠ 0 then laidB s a b else s) r
def Kp.left (m : Kp) (keep torn part : Int) : Bs := leftAux keep torn part 0 m.disk m.way
structure Cfg where
  secret : Bs
  seed : Int
  idle : Int
  abs : Int
  now : Int
def Cfg.ok (c : Cfg) : Bool := decide (1 ≤ c.secret.length ∧ c.secret.length ≤ 16) && decide (0 ≤ c.seed ∧ c.seed ≤ 65536) && decide (1 ≤ c.idle ∧ c.idle ≤ 1000000000) && decide (1 ≤ c.abs ∧ c.abs ≤ 1000000000) && decide (0 ≤ c.now ∧ c.now ≤ 1000000000)
def openK (d : Bs) (c : Cfg) : Nat × Option Kp :=
  if c.ok = false then (2, none)
  else if ¬ (d.length % 32 = 0 ∧ 384 ≤ d.length ∧ d.length ≤ 6400) then (3, none)
  else match readD d with
    | none => (3, none)
    | some st => (0, some ⟨c.secret, c.idle.toNat, c.abs.toNat, c.now.toNat, c.seed.toNat, cleanD d st, [], 0, false, st⟩)
end Go.Proofs.YtmnajomkfnkmeaaGreatDoor
namespace Go.Proofs.YtmnajomkfnkmeaaGreatDoor
/-! ### the power; what is under way -/
def slice (s : Bs) (o : Nat) : Nat × Bs := (o, (s.drop o).take 32)
theorem step_yes {m : Kp} (h : m.down = false) (hs : m.step.1 = true) : m.step.2 = { m with fuse := m.fuse - 1 } := by
  unfold Kp.step at hs ⊢
  by_cases c : m.fuse = 0
  · rw [if_pos c]; cases m; simp_all
  · rw [if_neg c] at hs ⊢
    simp only [decide_eq_true_eq] at hs
    simp only [hs, decide_false, h]
theorem step_no {m : Kp} (h : m.down = false) (hs : m.step.1 = false) : m.step.2 = { m with fuse := 0, down := true } := by
  unfold Kp.step at hs ⊢
  by_cases c : m.fuse = 0
  · rw [if_pos c] at hs; simp [h] at hs
  · rw [if_neg c] at hs ⊢
    simp only [decide_eq_false_iff_not, Decidable.not_not] at hs
    simp [hs]
theorem puts_yes (s : Bs) : ∀ (os : List Nat) (m : Kp), m.down = false → (Kp.puts s os m).1 = true → (Kp.puts s os m).2 = { m with way := m.way ++ os.map (slice s), fuse := m.fuse - os.length }
  | [], m, _, _ => by simp [Kp.puts]
  | o :: os, m, h, hs => by
    unfold Kp.puts at hs ⊢
    by_cases c : ({ m with way := m.way ++ [(o, (s.drop o).take 32)] } : Kp).step.1 = true
    · rw [if_pos c] at hs ⊢
      have e := step_yes (m := { m with way := m.way ++ [(o, (s.drop o).take 32)] }) h c
      rw [e] at hs ⊢
      rw [puts_yes s os { m with way := m.way ++ [(o, (s.drop o).take 32)], fuse := m.fuse - 1 } h hs]
      simp only [List.map_cons, List.append_assoc, List.cons_append, List.nil_append, List.length_cons, slice]
      rw [show m.fuse - 1 - os.length = m.fuse - (os.length + 1) by omega]
    · rw [if_neg c] at hs; cases hs
theorem puts_no (s : Bs) : ∀ (os : List Nat) (m : Kp), m.down = false → (Kp.puts s os m).1 = false → ∃ qs rs, os = qs ++ rs ∧ qs ≠ [] ∧ (Kp.puts s os m).2 = { m with way := m.way ++ qs.map (slice s), fuse := 0, down := true }
  | [], m, _, hs => by cases hs
  | o :: os, m, h, hs => by
    unfold Kp.puts at hs ⊢
    by_cases c : ({ m with way := m.way ++ [(o, (s.drop o).take 32)] } : Kp).step.1 = true
    · rw [if_pos c] at hs ⊢
      have e := step_yes (m := { m with way := m.way ++ [(o, (s.drop o).take 32)] }) h c
      rw [e] at hs ⊢
      obtain ⟨qs, rs, e1, e2, e3⟩ := puts_no s os { m with way := m.way ++ [(o, (s.drop o).take 32)], fuse := m.fuse - 1 } h hs
      refine ⟨o :: qs, rs, by rw [e1]; rfl, by simp, ?_⟩
      rw [e3]
      simp only [List.map_cons, List.append_assoc, List.cons_append, List.nil_append, slice]
    · rw [if_neg c]
      refine ⟨[o], os, rfl, by simp, ?_⟩
      rw [step_no (m := { m with way := m.way ++ [(o, (s.drop o).take 32)] }) h (by simpa using c)]
      simp [slice]
theorem flush_yes {m : Kp} {s : Bs} (h : m.down = false) (hs : (Kp.flush s m).1 = true) : (Kp.flush s m).2 = { m with disk := s, way := [], fuse := m.fuse - 1 } := by
  unfold Kp.flush at hs ⊢
  by_cases c : m.step.1 = true
  · rw [if_pos c, step_yes h c]
  · rw [if_neg c] at hs; cases hs
theorem flush_no {m : Kp} {s : Bs} (h : m.down = false) (hs : (Kp.flush s m).1 = false) : (Kp.flush s m).2 = { m with fuse := 0, down := true } := by
  unfold Kp.flush at hs ⊢
  by_cases c : m.step.1 = true
  · rw [if_pos c] at hs; cases hs
  · rw [if_neg c, step_no h (by simpa using c)]
theorem writes_yes {m : Kp} {p : Nat} {r : Bs} (h : m.down = false) (hs : (m.writes p r).1 = true) : (m.writes p r).2 = { m with disk := laidB m.disk p r, way := [], fuse := m.fuse - ((offs p r.length).length + 1) } := by
  unfold Kp.writes at hs ⊢
  by_cases c : (Kp.puts (laidB m.disk p r) (offs p r.length) m).1 = true
  · rw [if_pos c] at hs ⊢
    have e := puts_yes _ _ _ h c
    rw [e] at hs ⊢
    rw [flush_yes (m := { m with way := m.way ++ (offs p r.length).map (slice (laidB m.disk p r)), fuse := m.fuse - (offs p r.length).length }) h hs]
    rw [show m.fuse - (offs p r.length).length - 1 = m.fuse - ((offs p r.length).length + 1) by omega]
  · rw [if_neg c] at hs; cases hs
theorem writes_no {m : Kp} {p : Nat} {r : Bs} (h : m.down = false) (hw : m.way = []) (hs : (m.writes p r).1 = false) : ∃ qs rs, offs p r.length = qs ++ rs ∧ (offs p r.length ≠ [] → qs ≠ []) ∧ (m.writes p r).2 = { m with way := qs.map (slice (laidB m.disk p r)), fuse := 0, down := true } := by
  unfold Kp.writes at hs ⊢
  by_cases c : (Kp.puts (laidB m.disk p r) (offs p r.length) m).1 = true
  · rw [if_pos c] at hs ⊢
    have e := puts_yes _ _ _ h c
    rw [e] at hs ⊢
    refine ⟨offs p r.length, [], by simp, fun h => h, ?_⟩
    rw [flush_no (m := { m with way := m.way ++ (offs p r.length).map (slice (laidB m.disk p r)), fuse := m.fuse - (offs p r.length).length }) h hs, hw]
    rfl
  · rw [if_neg c]
    obtain ⟨qs, rs, e1, e2, e3⟩ := puts_no _ _ _ h (by simpa using c)
    exact ⟨qs, rs, e1, fun _ => e2, by rw [e3, hw]; rfl⟩
/-- a machine whose power went at a write of a text -/
structure Broke (m m' : Kp) (p : Nat) (r : Bs) : Prop where
  ex : ∃ qs rs, offs p r.length = qs ++ rs ∧ (offs p r.length ≠ [] → qs ≠ []) ∧ m' = { m with way := qs.map (slice (laidB m.disk p r)), fuse := 0, down := true }
theorem mem_offs {p n o : Nat} : o ∈ offs p n ↔ o % 32 = 0 ∧ p / 32 * 32 ≤ o ∧ o < (p + n + 31) / 32 * 32 := by
  unfold offs
  rw [List.mem_map]
  constructor
  · rintro ⟨a, ha, rfl⟩
    rw [List.mem_range'_1] at ha
    omega
  · rintro ⟨h1, h2, h3⟩
    exact ⟨o / 32, List.mem_range'_1.2 (by omega), by omega⟩
theorem offs_ne {p n : Nat} (h : 0 < n) : ∃ os, offs p n = 32 * (p / 32) :: os := by
  unfold offs
  rw [show (p + n + 31) / 32 - p / 32 = ((p + n + 31) / 32 - p / 32 - 1) + 1 by omega, List.range'_succ, List.map_cons]
  exact ⟨_, rfl⟩
theorem leftAux_cons (keep torn part : Int) (i : Nat) (b s : Bs) (o : Nat) (r : List (Nat × Bs)) : leftAux keep torn part i b (slice s o :: r) = leftAux keep torn part (i + 1) (if (i : Int) = torn then laidB b o ((slice s o).2.take (clampP part)) else if (keep / (2 ^ (min i 62) : Nat)) % 2 ≠ 0 then laidB b o (slice s o).2 else b) r := rfl
/-- sectors that are laid: what stands at a place -/
theorem leftAux_get (keep torn part : Int) (s : Bs) : ∀ (qs : List Nat) (i : Nat) (b : Bs), b.length = s.length → (∀ o ∈ qs, o + 32 ≤ s.length) →
    (leftAux keep torn part i b (qs.map (slice s))).length = s.length ∧ ∀ k : Nat, ((∃ o ∈ qs, o ≤ k ∧ k < o + 32) → (leftAux keep torn part i b (qs.map (slice s)))[k]? = b[k]? ∨ (leftAux keep torn part i b (qs.map (slice s)))[k]? = s[k]?) ∧ ((¬ ∃ o ∈ qs, o ≤ k ∧ k < o + 32) → (leftAux keep torn part i b (qs.map (slice s)))[k]? = b[k]?)
  | [], i, b, hb, _ => ⟨hb, fun k => ⟨fun h => (by obtain ⟨o, ho, _⟩ := h; cases ho), fun _ => rfl⟩⟩
  | o :: qs, i, b, hb, ho => by
    have ho1 := ho o (by simp)
    have hsl : ∀ c, c ≤ 32 → ((slice s o).2.take c).length = c := by
      intro c hc
      show (((s.drop o).take 32).take c).length = c
      rw [List.length_take, List.length_take, List.length_drop]; omega
    have hget : ∀ c, c ≤ 32 → ∀ k, (laidB b o ((slice s o).2.take c))[k]? = if o ≤ k ∧ k < o + c then s[k]? else b[k]? := by
      intro c hc k
      rw [laidB_get (by rw [hsl c hc]; omega), hsl c hc]
      by_cases c1 : k < o
      · rw [if_pos c1, if_neg (by omega)]
      · by_cases c2 : k < o + c
        · rw [if_neg c1, if_pos c2, if_pos (by omega)]
          show (((s.drop o).take 32).take c)[k - o]? = _
          rw [List.getElem?_take, if_pos (by omega), List.getElem?_take, if_pos (by omega), List.getElem?_drop]
          congr 1; omega
        · rw [if_neg c1, if_neg c2, if_neg (by omega)]
    have hfull : laidB b o (slice s o).2 = laidB b o ((slice s o).2.take 32) := by
      rw [List.take_of_length_le (by show ((s.drop o).take 32).length ≤ 32; rw [List.length_take]; omega)]
    have hcl : clampP part ≤ 32 := by unfold clampP; omega
    have key : ∀ b' : Bs, b'.length = s.length → (∀ k : Nat, (o ≤ k ∧ k < o + 32 → b'[k]? = b[k]? ∨ b'[k]? = s[k]?) ∧ (¬ (o ≤ k ∧ k < o + 32) → b'[k]? = b[k]?)) →
        (leftAux keep torn part (i + 1) b' (qs.map (slice s))).length = s.length ∧ ∀ k : Nat, ((∃ o' ∈ o :: qs, o' ≤ k ∧ k < o' + 32) → (leftAux keep torn part (i + 1) b' (qs.map (slice s)))[k]? = b[k]? ∨ (leftAux keep torn part (i + 1) b' (qs.map (slice s)))[k]? = s[k]?) ∧ ((¬ ∃ o' ∈ o :: qs, o' ≤ k ∧ k < o' + 32) → (leftAux keep torn part (i + 1) b' (qs.map (slice s)))[k]? = b[k]?) := by
      intro b' hb' hk
      obtain ⟨i1, i2⟩ := leftAux_get keep torn part s qs (i + 1) b' hb' (fun o' h => ho o' (by simp [h]))
      refine ⟨i1, fun k => ⟨?_, ?_⟩⟩
      · intro _
        by_cases c : ∃ o' ∈ qs, o' ≤ k ∧ k < o' + 32
        · rcases (i2 k).1 c with q | q
          · rw [q]
            by_cases c2 : o ≤ k ∧ k < o + 32
            · exact (hk k).1 c2
            · exact Or.inl ((hk k).2 c2)
          · exact Or.inr q
        · rw [(i2 k).2 c]
          by_cases c2 : o ≤ k ∧ k < o + 32
          · exact (hk k).1 c2
          · exact Or.inl ((hk k).2 c2)
      · intro hn
        have c : ¬ ∃ o' ∈ qs, o' ≤ k ∧ k < o' + 32 := fun ⟨o', h1, h2⟩ => hn ⟨o', by simp [h1], h2⟩
        rw [(i2 k).2 c]
        exact (hk k).2 (fun h => hn ⟨o, by simp, h⟩)
    rw [List.map_cons, leftAux_cons]
    refine key _ ?_ ?_
    · split
      · rw [laidB_length (by rw [hsl _ hcl]; omega)]; exact hb
      · split
        · rw [hfull, laidB_length (by rw [hsl _ (Nat.le_refl _)]; omega)]; exact hb
        · exact hb
    · intro k
      split
      · rw [hget _ hcl]
        refine ⟨fun h => ?_, fun h => ?_⟩
        · split
          · exact Or.inr rfl
          · exact Or.inl rfl
        · rw [if_neg (by omega)]
      · split
        · rw [hfull, hget _ (Nat.le_refl _)]
          refine ⟨fun h => ?_, fun h => ?_⟩
          · rw [if_pos h]; exact Or.inr rfl
          · rw [if_neg h]
        · exact ⟨fun _ => Or.inl rfl, fun _ => rfl⟩
/-- all done -/
theorem leftAux_all (s : Bs) : ∀ (qs : List Nat) (i : Nat) (b : Bs), b.length = s.length → (∀ o ∈ qs, o + 32 ≤ s.length) → ∀ k : Nat, (∃ o ∈ qs, o ≤ k ∧ k < o + 32) → (leftAux (-1) (-1) 0 i b (qs.map (slice s)))[k]? = s[k]?
  | [], _, _, _, _ => fun k ⟨o, ho, _⟩ => by cases ho
  | o :: qs, i, b, hb, ho => by
    intro k hk
    have ho1 := ho o (by simp)
    have hsl : (slice s o).2.length = 32 := by
      show ((s.drop o).take 32).length = 32
      rw [List.length_take, List.length_drop]; omega
    have hlen : (laidB b o (slice s o).2).length = s.length := by rw [laidB_length (by rw [hsl]; omega)]; exact hb
    have e1 : (-1 : Int) / (2 ^ (min i 62) : Nat) = -1 := by
      have : (1 : Int) ≤ (2 ^ (min i 62) : Nat) := by
        have := Nat.one_le_two_pow (n := min i 62)
        omega
      rw [Int.neg_one_ediv, Int.sign_eq_one_of_pos (by omega)]
    rw [List.map_cons, leftAux_cons]
    have e2 : ¬ ((i : Int) = -1) := by omega
    rw [if_neg e2, e1, if_pos (by decide)]
    by_cases c : ∃ o' ∈ qs, o' ≤ k ∧ k < o' + 32
    · exact leftAux_all s qs (i + 1) _ hlen (fun o' h => ho o' (by simp [h])) k c
    · rw [((leftAux_get (-1) (-1) 0 s qs (i + 1) _ hlen (fun o' h => ho o' (by simp [h]))).2 k).2 c, laidB_get (by rw [hsl]; omega), hsl]
      obtain ⟨o', h1, h2, h3⟩ := hk
      have : o' = o := by
        rcases List.mem_cons.1 h1 with h | h
        · exact h
        · exact absurd ⟨o', h, h2, h3⟩ c
      subst this
      rw [if_neg (by omega), if_pos h3]
      show ((s.drop o').take 32)[k - o']? = _
      rw [List.getElem?_take, if_pos (by omega), List.getElem?_drop]
      congr 1; omega
theorem Broke.left {m m' : Kp} {p : Nat} {r : Bs} (h : Broke m m' p r) (hl : m.disk.length % 32 = 0) (hp : p + r.length ≤ m.disk.length) :
    mixed (m'.left (-1) (-1) 0) m.disk (laidB m.disk p r) ∧ ∀ keep torn part, mixed (m'.left keep torn part) m.disk (m'.left (-1) (-1) 0) := by
  obtain ⟨qs, rs, e1, e2, e3⟩ := h.ex
  have hlen : (laidB m.disk p r).length = m.disk.length := laidB_length hp
  have hin : ∀ o ∈ qs, o + 32 ≤ (laidB m.disk p r).length := by
    intro o ho
    have : o ∈ offs p r.length := by rw [e1]; simp [ho]
    rw [mem_offs] at this
    rw [hlen]; omega
  have hleft : ∀ keep torn part, m'.left keep torn part = leftAux keep torn part 0 m.disk (qs.map (slice (laidB m.disk p r))) := by intro a b c; rw [e3]; rfl
  have g := fun a b c => leftAux_get a b c (laidB m.disk p r) qs 0 m.disk hlen.symm hin
  refine ⟨⟨by rw [hleft, (g _ _ _).1]; exact hlen, fun i => ?_⟩, fun keep torn part => ⟨by rw [hleft, (g _ _ _).1]; exact hlen, fun i => ?_⟩⟩
  · rw [hleft]
    by_cases c : ∃ o ∈ qs, o ≤ i ∧ i < o + 32
    · exact ((g _ _ _).2 i).1 c
    · exact Or.inl (((g _ _ _).2 i).2 c)
  · rw [hleft, hleft]
    by_cases c : ∃ o ∈ qs, o ≤ i ∧ i < o + 32
    · rw [leftAux_all _ qs 0 m.disk hlen.symm hin i c]
      exact ((g _ _ _).2 i).1 c
    · exact Or.inl (((g _ _ _).2 i).2 c)
/-- the first byte is under way -/
theorem Broke.first {m m' : Kp} {p : Nat} {r : Bs} (h : Broke m m' p r) (hl : m.disk.length % 32 = 0) (hp : p + r.length ≤ m.disk.length) (hr : 0 < r.length) : (m'.left (-1) (-1) 0)[p]? = (laidB m.disk p r)[p]? := by
  obtain ⟨qs, rs, e1, e2, e3⟩ := h.ex
  have hlen : (laidB m.disk p r).length = m.disk.length := laidB_length hp
  have hin : ∀ o ∈ qs, o + 32 ≤ (laidB m.disk p r).length := by
    intro o ho
    have : o ∈ offs p r.length := by rw [e1]; simp [ho]
    rw [mem_offs] at this
    rw [hlen]; omega
  obtain ⟨os, eo⟩ := offs_ne (p := p) hr
  have hne := e2 (by rw [eo]; simp)
  have hq : 32 * (p / 32) ∈ qs := by
    cases qs with
    | nil => exact absurd rfl hne
    | cons q qs => rw [eo] at e1; simp at e1; rw [e1.1]; simp
  rw [e3]
  exact leftAux_all _ qs 0 m.disk hlen.symm hin p ⟨_, hq, by omega, by omega⟩
end Go.Proofs.YtmnajomkfnkmeaaGreatDoor
namespace Go.Proofs.YtmnajomkfnkmeaaGreatDoor
/-! ### a keeper that is up -/
structure Good (m : Kp) : Prop where
  up : m.down = false
  way : m.way = []
  holds : Holds m.disk m.st
  now : m.now ≤ maxT
  drawn : m.drawn < 65537
theorem step_calm {m : Kp} (h : m.down = false) (hf : m.fuse = 0) : m.step = (true, m) := by
  unfold Kp.step; rw [if_pos hf, h]; rfl
theorem puts_calm (s : Bs) : ∀ (os : List Nat) (m : Kp), m.down = false → m.fuse = 0 → (Kp.puts s os m).1 = true
  | [], _, _, _ => rfl
  | o :: os, m, h, hf => by
    unfold Kp.puts
    have e := step_calm (m := { m with way := m.way ++ [(o, (s.drop o).take 32)] }) h hf
    rw [e, if_pos rfl]
    exact puts_calm s os _ h hf
theorem writes_calm {m : Kp} {p : Nat} {r : Bs} (h : m.down = false) (hf : m.fuse = 0) : (m.writes p r).1 = true := by
  unfold Kp.writes
  have c := puts_calm (laidB m.disk p r) (offs p r.length) m h hf
  rw [if_pos c, puts_yes _ _ _ h c]
  unfold Kp.flush
  have e := step_calm (m := { m with way := m.way ++ (offs p r.length).map (slice (laidB m.disk p r)), fuse := m.fuse - (offs p r.length).length }) h (show m.fuse - _ = 0 by omega)
  rw [e]; rfl
/-- what a change does to the whole -/
def Kp.done (m : Kp) (c : Chg) (f : Nat) : Kp := { m with disk := withRec m.disk m.st c, fuse := f, st := m.st.does c }
theorem full_no {m : Kp} {c : Chg} (h : m.full c = false) : m.st.endp + (chgB c).length + 10 ≤ halfN m.disk.length ∧ m.st.next ≤ 65535 := by
  unfold Kp.full at h
  simp only [Bool.or_eq_false_iff, decide_eq_false_iff_not] at h
  omega
inductive Chd (m : Kp) (c : Chg) : Prop
  | full : m.full c = true → m.change c = (9, m) → Chd m c
  | done (f : Nat) : m.full c = false → m.change c = (0, m.done c f) → Good (m.done c f) → (m.fuse = 0 → f = 0) → Fits m.disk m.st c → Chd m c
  | down (m' : Kp) : m.full c = false → m.change c = (4, m') → m.fuse ≠ 0 → m'.down = true → Fits m.disk m.st c → Broke m m' (regAt m.disk.length m.st.reg + m.st.endp) (recB m.st.gen m.st.next (chgB c)) → Chd m c
theorem Good.change {m : Kp} (h : Good m) {c : Chg} (hc : c.ok) (ha : m.st.T.allows c = true) : Chd m c := by
  cases hf : m.full c with
  | true => exact .full hf (by unfold Kp.change; rw [if_pos hf])
  | false =>
    have hr := full_no hf
    have hfit : Fits m.disk m.st c := ⟨h.holds, hc, ha, hr.1⟩
    cases hw : (m.writes (regAt m.disk.length m.st.reg + m.st.endp) (recB m.st.gen m.st.next (chgB c))).1 with
    | true =>
      refine .done (m.fuse - ((offs (regAt m.disk.length m.st.reg + m.st.endp) (recB m.st.gen m.st.next (chgB c)).length).length + 1)) hf ?_ ?_ (by omega) hfit
      · unfold Kp.change
        rw [if_neg (by rw [hf]; decide), if_pos hw, writes_yes h.up hw]
        unfold Kp.done withRec
        rw [h.way]
      · exact ⟨h.up, h.way, h.holds.change hc ha hr.1, h.now, h.drawn⟩
    | false =>
      obtain ⟨qs, rs, e1, e2, e3⟩ := writes_no h.up h.way hw
      refine .down (m.writes (regAt m.disk.length m.st.reg + m.st.endp) (recB m.st.gen m.st.next (chgB c))).2 hf ?_ ?_ ?_ hfit ⟨qs, rs, e1, e2, e3⟩
      · unfold Kp.change
        rw [if_neg (by rw [hf]; decide), if_neg (by rw [hw]; decide)]
      · intro hz
        rw [writes_calm h.up hz] at hw
        cases hw
      · rw [e3]
theorem Good.calm {m : Kp} (h : Good m) (hf : m.fuse = 0) {c : Chg} (hc : c.ok) (ha : m.st.T.allows c = true) :
    (m.full c = true ∧ m.change c = (9, m)) ∨ (m.full c = false ∧ m.change c = (0, m.done c 0) ∧ Good (m.done c 0)) := by
  cases h.change hc ha with
  | full a b => exact Or.inl ⟨a, b⟩
  | done f a b c d _ => rw [d hf] at b c; exact Or.inr ⟨a, b, c⟩
  | down m' a b c _ _ _ => exact absurd hf c
theorem Good.wf {m : Kp} (h : Good m) : m.st.T.wf := h.holds.wf
/-! a pass -/
theorem kfind_none {m : Kp} {p : Bs} (h : Good m) (hp : passOf m.secret p = none) : m.find p = (0, 5) := by
  unfold Kp.find; rw [h.up, hp]; rfl
theorem find_dead {m : Kp} {p : Bs} {id : Nat} (h : Good m) (hp : passOf m.secret p = some id) (ht : m.st.T id = none) : m.find p = (0, 6) := by
  unfold Kp.find; rw [h.up, hp]; simp only [ht]; rfl
theorem find_live {m : Kp} {p : Bs} {id : Nat} {x : Sess} (h : Good m) (hp : passOf m.secret p = some id) (ht : m.st.T id = some x) : m.find p = if m.over x then (id, 7) else (id, 0) := by
  unfold Kp.find; rw [h.up, hp]; simp only [ht]; rfl
theorem find_cases {m : Kp} (h : Good m) (p : Bs) : (m.find p = (0, 5) ∧ passOf m.secret p = none) ∨ (∃ id, m.find p = (0, 6) ∧ passOf m.secret p = some id ∧ m.st.T id = none) ∨ (∃ id x, passOf m.secret p = some id ∧ id < 4096 ∧ m.st.T id = some x ∧ ((m.find p = (id, 7) ∧ m.over x = true) ∨ (m.find p = (id, 0) ∧ m.over x = false))) := by
  cases hp : passOf m.secret p with
  | none => exact Or.inl ⟨kfind_none h hp, rfl⟩
  | some id =>
    cases ht : m.st.T id with
    | none => exact Or.inr (Or.inl ⟨id, find_dead h hp ht, rfl, ht⟩)
    | some x =>
      refine Or.inr (Or.inr ⟨id, x, rfl, (passOf_some hp).2, ht, ?_⟩)
      have := find_live h hp ht
      cases ho : m.over x with
      | true => rw [ho, if_pos rfl] at this; exact Or.inl ⟨this, rfl⟩
      | false => rw [ho] at this; exact Or.inr ⟨this, rfl⟩
theorem look_same {m : Kp} {p : Bs} (h : (m.find p).2 ≠ 7) : m.look p = ((m.find p).1, (m.find p).2, m) := by
  unfold Kp.look; rw [if_neg h]
theorem look_over {m : Kp} {p : Bs} {id : Nat} (h : m.find p = (id, 7)) : m.look p = (0, (if (m.change (.X id)).1 = 0 then 7 else (m.change (.X id)).1), (m.change (.X id)).2) := by
  unfold Kp.look
  rw [h]
  simp only [if_true]
  split <;> rfl
/-! opening again -/
theorem open_good {d : Bs} {c : Cfg} {st : St} (hc : c.ok = true) (hs : okSize d.length) (hr : readD d = some st) :
    ∃ m, openK d c = (0, some m) ∧ Good m ∧ m.st = st ∧ m.secret = c.secret ∧ m.idle = c.idle.toNat ∧ m.abs = c.abs.toNat ∧ m.now = c.now.toNat ∧ m.drawn = c.seed.toNat ∧ m.fuse = 0 := by
  have hb := hc
  unfold Cfg.ok at hb
  simp only [Bool.and_eq_true, decide_eq_true_eq] at hb
  obtain ⟨⟨⟨⟨_, b2⟩, _⟩, _⟩, b5⟩ := hb
  unfold openK
  rw [if_neg (by rw [hc]; decide), if_neg (fun h => h hs), hr]
  refine ⟨_, rfl, ⟨rfl, rfl, (read_holds hs hr).1, ?_, ?_⟩, rfl, rfl, rfl, rfl, rfl, rfl, rfl⟩
  · unfold maxT; show c.now.toNat ≤ _; omega
  · show c.seed.toNat < _; omega
theorem left_up {m : Kp} (h : Good m) (keep torn part : Int) : m.left keep torn part = m.disk := by
  unfold Kp.left; rw [h.way]; rfl
theorem reopen {m : Kp} (h : Good m) {c : Cfg} (hc : c.ok = true) (keep torn part : Int) :
    ∃ m', openK (m.left keep torn part) c = (0, some m') ∧ Good m' ∧ m'.st = m.st ∧ m'.secret = c.secret ∧ m'.idle = c.idle.toNat ∧ m'.abs = c.abs.toNat ∧ m'.now = c.now.toNat ∧ m'.drawn = c.seed.toNat ∧ m'.fuse = 0 := by
  rw [left_up h]
  exact open_good hc h.holds.size h.holds.read
/-! the empty disk -/
def blankB (n : Nat) : Bs := sectB 1 0 ++ zeros 32 ++ recB 1 0 [0] ++ zeros (32 * n - 75)
theorem snap_noTab : snapB noTab = [0] := by
  have h : noTab.rows 4096 = [] := by
    unfold Tab.rows
    rw [List.filterMap_eq_nil_iff]
    intro a _; rfl
  have hl : noTab.live = 0 := by rw [live_rows, h]; rfl
  unfold snapB
  rw [h, hl]; rfl
theorem noTab_wf : noTab.wf := by
  refine ⟨fun i x h => (by cases h), ?_⟩
  have : noTab.live = 0 := by
    unfold Tab.live
    rw [List.countP_eq_zero]
    intro a _ h; cases h
  omega
theorem blank_holds (n : Nat) (h0 : 12 ≤ n) (h1 : n ≤ 200) : Holds (blankB n) ⟨1, 0, 0, 11, 1, noTab⟩ ∧ (blankB n).length = 32 * n := by
  have hlen : (blankB n).length = 32 * n := by
    unfold blankB
    simp only [List.length_append, sectB_length, zeros_length, recB_length, List.length_cons, List.length_nil]; omega
  have hsz : okSize (32 * n) := ⟨by omega, by omega, by omega⟩
  have hh := half_bounds hsz
  refine ⟨⟨by rw [hlen]; exact hsz, ?_, ?_, noTab_wf⟩, hlen⟩
  · have e1 : (blankB n).take 32 = sectB 1 0 := by
      unfold blankB
      simp only [List.append_assoc]
      rw [List.take_append_of_le_length (by rw [sectB_length]; exact Nat.le_refl _), List.take_of_length_le (by rw [sectB_length]; exact Nat.le_refl _)]
    have e2 : ((blankB n).drop 32).take 32 = zeros 32 := by
      unfold blankB
      simp only [List.append_assoc]
      rw [← sectB_length 1 0, List.drop_append_of_le_length (Nat.le_refl _), List.drop_of_length_le (Nat.le_refl _), List.nil_append, sectB_length, List.take_append_of_le_length (by rw [zeros_length]; exact Nat.le_refl _), List.take_of_length_le (by rw [zeros_length]; exact Nat.le_refl _)]
    unfold theHead
    rw [e1, e2, headOf_sect 1 0 (by decide) (by decide) (by decide), headOf_zeros]
  · have e3 : regionB (blankB n) 0 = recB 1 0 (snapB noTab) ++ zeros (halfN (32 * n) - 11) := by
      have e4 : (blankB n).drop 64 = recB 1 0 [0] ++ zeros (32 * n - 75) := by
        unfold blankB
        rw [List.append_assoc, List.drop_append_of_le_length (by simp [sectB_length, zeros_length]), List.drop_of_length_le (by simp [sectB_length, zeros_length]), List.nil_append]
      unfold regionB
      rw [hlen, show regAt (32 * n) 0 = 64 by unfold regAt; omega, e4, snap_noTab, List.take_append, List.take_of_length_le (by rw [recB_length]; simp; omega), recB_length, zeros_take]
      simp only [List.length_cons, List.length_nil]
      rw [show min (halfN (32 * n) - (0 + 1 + 10)) (32 * n - 75) = halfN (32 * n) - 11 by omega]
    show Told 1 (regionB (blankB n) 0) 11 1 noTab (zeros (halfN (blankB n).length - 11))
    rw [e3, hlen]
    have := Told.fresh (g := 1) noTab_wf (by rw [snap_noTab]; decide) (zeros (halfN (32 * n) - 11))
    rw [snap_noTab] at this ⊢
    exact this
theorem fresh_good (n : Nat) (h0 : 12 ≤ n) (h1 : n ≤ 200) {c : Cfg} (hc : c.ok = true) :
    ∃ m, openK (blankB n) c = (0, some m) ∧ Good m ∧ m.st = ⟨1, 0, 0, 11, 1, noTab⟩ ∧ m.secret = c.secret ∧ m.idle = c.idle.toNat ∧ m.abs = c.abs.toNat ∧ m.now = c.now.toNat ∧ m.drawn = c.seed.toNat ∧ m.fuse = 0 ∧ m.disk.length = 32 * n := by
  obtain ⟨h, hl⟩ := blank_holds n h0 h1
  have hh := h.size
  obtain ⟨m, e, g, r1, r2⟩ := open_good hc h.size h.read
  refine ⟨m, e, g, r1, r2.1, r2.2.1, r2.2.2.1, r2.2.2.2.1, r2.2.2.2.2.1, r2.2.2.2.2.2, ?_⟩
  unfold openK at e
  rw [if_neg (by rw [hc]; decide), if_neg (fun x => x hh), h.read] at e
  cases e
  show (cleanD _ _).length = _
  rw [(read_holds h.size h.read).2, hl]
/-! drawing -/
theorem draw_ne {x : Nat} (h : x < 65536) : drawX x ≠ 65536 := by
  unfold drawX
  intro e
  have h1 : 65537 * ((75 * x + 74) / 65537) + 65536 = 75 * x + 74 := by rw [← e]; exact Nat.div_add_mod _ _
  have h2 : 65537 ∣ 75 * (x + 1) := ⟨(75 * x + 74) / 65537 + 1, by omega⟩
  have h3 : 65537 ∣ x + 1 := Nat.Coprime.dvd_of_dvd_mul_left (by decide) h2
  have := Nat.le_of_dvd (by omega) h3
  omega
theorem draw_fix {x : Nat} (h : x < 65537) (e : drawX x = x) : x = 65536 := by
  unfold drawX at e
  have h1 : 65537 * ((75 * x + 74) / 65537) + x = 75 * x + 74 := by
    have := Nat.div_add_mod (75 * x + 74) 65537
    rw [e] at this; exact this
  have h2 : 65537 ∣ 74 * (x + 1) := ⟨(75 * x + 74) / 65537, by omega⟩
  have h3 : 65537 ∣ x + 1 := Nat.Coprime.dvd_of_dvd_mul_left (by decide) h2
  have := Nat.le_of_dvd (by omega) h3
  omega
theorem draw_three {x : Nat} (hx : x < 65537) (e1 : drawX x % 4096 = x % 4096) (e2 : drawX (drawX x) % 4096 = x % 4096) : drawX x = x := by
  have hy : drawX x < 65537 := drawX_lt x
  have hz : drawX (drawX x) < 65537 := drawX_lt _
  have d1 : (65537 : Int) ∣ (75 * (x : Int) + 74) - (drawX x : Int) := by
    have := Nat.div_add_mod (75 * x + 74) 65537
    exact ⟨((75 * x + 74) / 65537 : Nat), by unfold drawX; omega⟩
  have d2 : (65537 : Int) ∣ (75 * (drawX x : Int) + 74) - (drawX (drawX x) : Int) := by
    have := Nat.div_add_mod (75 * drawX x + 74) 65537
    exact ⟨((75 * drawX x + 74) / 65537 : Nat), by show _ - (((75 * drawX x + 74) % 65537 : Nat) : Int) = _; omega⟩
  generalize drawX (drawX x) = z at *
  generalize drawX x = y at *
  have d3 := Int.dvd_sub d2 d1
  have ha : ∃ a : Int, (y : Int) - x = 4096 * a ∧ -16 ≤ a ∧ a ≤ 16 := ⟨((y : Int) - x) / 4096, by omega, by omega, by omega⟩
  have hb : ∃ b : Int, (z : Int) - y = 4096 * b ∧ -16 ≤ b ∧ b ≤ 16 := ⟨((z : Int) - y) / 4096, by omega, by omega, by omega⟩
  obtain ⟨a, a1, a2, a3⟩ := ha
  obtain ⟨b, b1, b2, b3⟩ := hb
  have e : 75 * (y : Int) + 74 - z - (75 * (x : Int) + 74 - y) = 4096 * (75 * a - b) := by omega
  rw [e] at d3
  obtain ⟨q, hq⟩ := d3
  have hq2 : 75 * a - b = 65537 * (75 * a - b - 16 * q) := by
    generalize 75 * a - b = t at hq ⊢
    omega
  clear hq e d1 d2 e1 e2
  generalize 75 * a - b - 16 * q = r at hq2
  have hr : r = 0 := by omega
  subst hr
  omega
theorem draw_two {x : Nat} (hx : x < 65536) {T : Tab} {id : Nat} (h : ∀ j, j ≠ id → T j = none) : ∃ to y, drawN 8 (drawX x) T = (some to, y) := by
  have h1 : drawX x < 65537 := drawX_lt x
  have h2 : drawX (drawX x) < 65537 := drawX_lt _
  have h3 : drawX (drawX (drawX x)) < 65537 := drawX_lt _
  unfold drawN
  split
  · exact ⟨_, _, rfl⟩
  · rename_i c1
    have e1 : drawX (drawX x) % 4096 = id := by
      apply Classical.byContradiction
      intro hn
      rw [h _ hn] at c1; exact c1 rfl
    unfold drawN
    split
    · exact ⟨_, _, rfl⟩
    · rename_i c2
      have e2 : drawX (drawX (drawX x)) % 4096 = id := by
        apply Classical.byContradiction
        intro hn
        rw [h _ hn] at c2; exact c2 rfl
      have h4 : drawX (drawX (drawX (drawX x))) < 65537 := drawX_lt _
      unfold drawN
      split
      · exact ⟨_, _, rfl⟩
      · rename_i c3
        have e3 : drawX (drawX (drawX (drawX x))) % 4096 = id := by
          apply Classical.byContradiction
          intro hn
          rw [h _ hn] at c3; exact c3 rfl
        exfalso
        have f := draw_three h2 (by rw [e2, e1]) (by rw [e3, e1])
        have f2 := draw_fix h2 f
        have f3 : drawX x ≠ 65536 := draw_ne hx
        exact draw_ne (x := drawX x) (by omega) f2
end Go.Proofs.YtmnajomkfnkmeaaGreatDoor
namespace Go.Proofs.YtmnajomkfnkmeaaGreatDoor
/-! ### what each call does to a keeper that is up -/
structure Same (m m' : Kp) : Prop where
  secret : m'.secret = m.secret
  idle : m'.idle = m.idle
  abs : m'.abs = m.abs
  now : m'.now = m.now
  fuse : m.fuse = 0 → m'.fuse = 0
theorem Same.refl (m : Kp) : Same m m := ⟨rfl, rfl, rfl, rfl, fun h => h⟩
theorem Same.trans {a b c : Kp} (h : Same a b) (k : Same b c) : Same a c := ⟨k.secret.trans h.secret, k.idle.trans h.idle, k.abs.trans h.abs, k.now.trans h.now, fun x => k.fuse (h.fuse x)⟩
/-- the power went, at a change or within Compact -/
inductive Lost (d : Bs) (st : St) (m' : Kp) : Prop
  | chg (m0 : Kp) (c : Chg) : m0.disk = d → Fits d st c → Broke m0 m' (regAt d.length st.reg + st.endp) (recB st.gen st.next (chgB c)) → Lost d st m'
  | half (m0 : Kp) (t : Bs) : m0.disk = d → Holds d st → t.length ≤ halfN d.length → Broke m0 m' (regAt d.length (1 - st.reg)) t → Lost d st m'
  | head (m0 : Kp) (t : Bs) (g : Nat) : Holds d st → t.length ≤ halfN d.length → m0.disk = laidB d (regAt d.length (1 - st.reg)) t → Holds (laidB m0.disk (32 * (1 - st.slot)) (sectB g (1 - st.reg))) st.next2 → Broke m0 m' (32 * (1 - st.slot)) (sectB g (1 - st.reg)) → Lost d st m'
/-- the heads of a disk are those of one of two -/
def headsOf (l d a : Bs) : Prop := (l.take 32 = d.take 32 ∨ l.take 32 = a.take 32) ∧ ((l.drop 32).take 32 = (d.drop 32).take 32 ∨ (l.drop 32).take 32 = (a.drop 32).take 32)
theorem front_parts {a d : Bs} (h : a.take 64 = d.take 64) : a.take 32 = d.take 32 ∧ (a.drop 32).take 32 = (d.drop 32).take 32 := by
  constructor
  · have := congrArg (List.take 32) h
    simpa [List.take_take] using this
  · have := congrArg (List.drop 32) h
    simpa [List.drop_take] using this
theorem Lost.left {d : Bs} {st : St} {m' : Kp} (h : Lost d st m') (keep torn part : Int) :
    (m'.left keep torn part).length = d.length ∧ (m'.left (-1) (-1) 0).length = d.length ∧
    (¬ forgedB (m'.left keep torn part) d (m'.left (-1) (-1) 0) → headsOf (m'.left keep torn part) d (m'.left (-1) (-1) 0) →
      ∃ s1 s2, readD (m'.left keep torn part) = some s1 ∧ readD (m'.left (-1) (-1) 0) = some s2 ∧ (s1.T = st.T ∨ s1.T = s2.T)) := by
  cases h with
  | chg m0 c hd hf hb =>
    subst hd
    have hrb := regAt_le hf.holds.size hf.holds.bounds.2.2.1
    have hro := hf.room
    have h32 := hf.holds.size.1
    obtain ⟨l1, l2⟩ := hb.left h32 (by rw [recB_length]; omega)
    have l3 := l2 keep torn part
    have lf := hb.first h32 (by rw [recB_length]; omega) (by rw [recB_length]; omega)
    refine ⟨l3.1, l1.1, fun hn _ => ?_⟩
    obtain ⟨s2, e2⟩ := whole_read hf l1
    rcases survive_change hf l1 lf l3 hn with e | e
    · exact ⟨st, s2, e, e2, Or.inl rfl⟩
    · exact ⟨s2, s2, e.trans e2, e2, Or.inr rfl⟩
  | half m0 t hd hh ht hb =>
    subst hd
    have hbo := hh.bounds
    have hrb := regAt_le hh.size (show 1 - st.reg ≤ 1 by omega)
    obtain ⟨l1, l2⟩ := hb.left hh.size.1 (by omega)
    have l3 := l2 keep torn part
    refine ⟨l3.1, l1.1, fun _ _ => ⟨st, st, survive_half hh ht (mixed_trans l3 l1), survive_half hh ht l1, Or.inl rfl⟩⟩
  | head m0 t g hh ht hm0 hn hb =>
    have hbo := hh.bounds
    have hrb := regAt_le hh.size (show 1 - st.reg ≤ 1 by omega)
    have hlen : m0.disk.length = d.length := by rw [hm0]; exact laidB_length (by omega)
    have hfr : m0.disk.take 64 = d.take 64 := by rw [hm0]; exact laid_front (by omega) (by omega)
    have h1 : Holds m0.disk st := by rw [hm0]; exact hh.half ht
    have hhb := half_bounds hh.size
    have hfit : 32 * (1 - st.slot) + (sectB g (1 - st.reg)).length ≤ m0.disk.length := by rw [sectB_length]; omega
    obtain ⟨l1, l2⟩ := hb.left h1.size.1 hfit
    have l3 := l2 keep torn part
    refine ⟨by rw [l3.1]; exact hlen, by rw [l1.1]; exact hlen, fun _ hhd => ?_⟩
    obtain ⟨p1, p2⟩ := front_parts hfr
    have hoff : offs (32 * (1 - st.slot)) (sectB g (1 - st.reg)).length = [32 * (1 - st.slot)] := by
      rw [sectB_length]
      unfold offs
      rw [show 32 * (1 - st.slot) / 32 = 1 - st.slot by omega, show (32 * (1 - st.slot) + 32 + 31) / 32 - (1 - st.slot) = 1 by omega]
      rfl
    -- all that was under way is the whole
    have hall : m'.left (-1) (-1) 0 = laidB m0.disk (32 * (1 - st.slot)) (sectB g (1 - st.reg)) := by
      obtain ⟨qs, rs, e1, e2, e3⟩ := hb.ex
      rw [hoff] at e1 e2
      have hne := e2 (by simp)
      have hq : qs = [32 * (1 - st.slot)] := by
        match qs, hne with
        | [q], _ => simp at e1; rw [e1.1]
        | q :: q2 :: qs, _ => simp at e1
      have hL : (laidB m0.disk (32 * (1 - st.slot)) (sectB g (1 - st.reg))).length = m0.disk.length := laidB_length hfit
      have hs : (slice (laidB m0.disk (32 * (1 - st.slot)) (sectB g (1 - st.reg))) (32 * (1 - st.slot))).2 = sectB g (1 - st.reg) := (laid_sector (by omega) (by omega) (sectB_length _ _)).1
      rw [e3, hq]
      show leftAux (-1) (-1) 0 0 m0.disk [slice _ _] = _
      rw [leftAux_cons, hs]
      rw [if_neg (by decide), if_pos (by decide)]
      rfl
    have hls : m'.left keep torn part = m0.disk ∨ m'.left keep torn part = laidB m0.disk (32 * (1 - st.slot)) (sectB g (1 - st.reg)) := by
      rw [hall] at l3 hhd
      refine survive_head (by omega) (by omega) (sectB_length _ _) l3 ?_ ?_
      · rw [p1]; exact hhd.1
      · rw [p2]; exact hhd.2
    rw [hall]
    rcases hls with e | e
    · exact ⟨st, st.next2, by rw [e]; exact h1.read, hn.read, Or.inl rfl⟩
    · exact ⟨st.next2, st.next2, by rw [e]; exact hn.read, hn.read, Or.inl rfl⟩

theorem Good.drew {m : Kp} (h : Good m) : Good m.draw.2 := ⟨h.up, h.way, h.holds, h.now, drawN_lt h.drawn⟩
theorem Same.drew (m : Kp) : Same m m.draw.2 := ⟨rfl, rfl, rfl, rfl, fun h => h⟩
/-- how a change that may be made ends -/
theorem Good.out {m : Kp} (h : Good m) {c : Chg} (hc : c.ok) (ha : m.st.T.allows c = true) :
    ((m.change c).1 = 4 ∧ m.fuse ≠ 0 ∧ Lost m.disk m.st (m.change c).2) ∨ ((m.change c).1 = 9 ∧ m.full c = true ∧ (m.change c).2 = m) ∨ ((m.change c).1 = 0 ∧ m.full c = false ∧ Good (m.change c).2 ∧ Same m (m.change c).2 ∧ (m.change c).2.st = m.st.does c ∧ (m.change c).2.drawn = m.drawn) := by
  cases h.change hc ha with
  | full a b => rw [b]; exact Or.inr (Or.inl ⟨rfl, a, rfl⟩)
  | done f a b g hf _ => rw [b]; exact Or.inr (Or.inr ⟨rfl, a, g, ⟨rfl, rfl, rfl, rfl, hf⟩, rfl, rfl⟩)
  | down m' a b hz hd hf hb => rw [b]; exact Or.inl ⟨rfl, hz, .chg m c rfl hf hb⟩
/-- how any call ends -/
def Out (m : Kp) (e : Nat) (m' : Kp) : Prop := (e = 4 ∧ m.fuse ≠ 0 ∧ Lost m.disk m.st m') ∨ (e ≠ 4 ∧ Good m' ∧ Same m m')
theorem Good.out2 {m : Kp} (h : Good m) {c : Chg} (hc : c.ok) (ha : m.st.T.allows c = true) : Out m (m.change c).1 (m.change c).2 := by
  rcases h.out hc ha with a | a | a
  · exact Or.inl a
  · exact Or.inr ⟨by rw [a.1]; decide, by rw [a.2.2]; exact h, by rw [a.2.2]; exact Same.refl m⟩
  · exact Or.inr ⟨by rw [a.1]; decide, a.2.2.1, a.2.2.2.1⟩
theorem Out.of_drew {m : Kp} {e : Nat} {m' : Kp} (h : Out m.draw.2 e m') : Out m e m' := by
  rcases h with a | a
  · exact Or.inl a
  · exact Or.inr ⟨a.1, a.2.1, (Same.drew m).trans a.2.2⟩
/-- a pass that is looked at: all ways -/
theorem look_cases {m : Kp} (h : Good m) (p : Bs) :
    (∃ e, (e = 5 ∨ e = 6) ∧ m.look p = (0, e, m) ∧ (e = 5 → passOf m.secret p = none) ∧ (e = 6 → ∃ id, passOf m.secret p = some id ∧ m.st.T id = none)) ∨
    (∃ id x, passOf m.secret p = some id ∧ id < 4096 ∧ m.st.T id = some x ∧
      ((m.over x = true ∧ Chg.ok (.X id) ∧ m.st.T.allows (.X id) = true ∧ m.look p = (0, (if (m.change (.X id)).1 = 0 then 7 else (m.change (.X id)).1), (m.change (.X id)).2)) ∨ (m.over x = false ∧ m.look p = (id, 0, m)))) := by
  rcases find_cases h p with ⟨e, a⟩ | ⟨id, e, a, b⟩ | ⟨id, x, a, b, c, d⟩
  · left
    exact ⟨5, Or.inl rfl, by rw [look_same (by rw [e]; decide), e], fun _ => a, fun h => (by cases h)⟩
  · left
    exact ⟨6, Or.inr rfl, by rw [look_same (by rw [e]; decide), e], fun h => (by cases h), fun _ => ⟨id, a, b⟩⟩
  · right
    refine ⟨id, x, a, b, c, ?_⟩
    rcases d with ⟨d1, d2⟩ | ⟨d1, d2⟩
    · left
      refine ⟨d2, b, ?_, look_over d1⟩
      show (m.st.T id).isSome = true
      rw [c]; rfl
    · right
      exact ⟨d2, by rw [look_same (by rw [d1]; simp), d1]⟩
theorem out_if7 {m : Kp} {e : Nat} {m' : Kp} (h : Out m e m') : Out m (if e = 0 then 7 else e) m' := by
  rcases h with a | a
  · rw [a.1]; exact Or.inl ⟨rfl, a.2⟩
  · refine Or.inr ⟨?_, a.2⟩
    split
    · decide
    · exact a.1
theorem look_out {m : Kp} (h : Good m) (p : Bs) :
    (∃ id x, m.look p = (id, 0, m) ∧ passOf m.secret p = some id ∧ id < 4096 ∧ m.st.T id = some x ∧ m.over x = false) ∨ ((m.look p).2.1 ≠ 0 ∧ Out m (m.look p).2.1 (m.look p).2.2) := by
  rcases look_cases h p with ⟨e, he, hl, _⟩ | ⟨id, x, a, b, c, ⟨ho, h1, h2, hl⟩ | ⟨ho, hl⟩⟩
  · right
    rw [hl]
    rcases he with rfl | rfl <;> exact ⟨by simp, Or.inr ⟨by simp, h, Same.refl m⟩⟩
  · right
    rw [hl]
    refine ⟨?_, out_if7 (h.out2 h1 h2)⟩
    show (if (m.change (Chg.X id)).1 = 0 then 7 else (m.change (Chg.X id)).1) ≠ 0
    split
    · decide
    · assumption
  · exact Or.inl ⟨id, x, hl, a, b, c, ho⟩
theorem touch_out {m : Kp} (h : Good m) (p : Bs) : Out m (m.touch p).1 (m.touch p).2 := by
  unfold Kp.touch
  rcases look_out h p with ⟨id, x, hl, a, b, c, ho⟩ | ⟨hn, ho⟩
  · rw [hl, if_pos rfl]
    exact h.out2 (c := .T id m.now) ⟨b, h.now⟩ (by show (m.st.T id).isSome = true; rw [c]; rfl)
  · rw [if_neg hn]; exact ho
theorem logout_out {m : Kp} (h : Good m) (p : Bs) : Out m (m.logout p).1 (m.logout p).2 := by
  unfold Kp.logout
  rcases look_out h p with ⟨id, x, hl, a, b, c, ho⟩ | ⟨hn, ho⟩
  · rw [hl, if_pos rfl]
    exact h.out2 (c := .X id) b (by show (m.st.T id).isSome = true; rw [c]; rfl)
  · rw [if_neg hn]; exact ho
theorem set_out {m : Kp} (h : Good m) (p n v : Bs) : Out m (m.set p n v).1 (m.set p n v).2 := by
  unfold Kp.set
  split
  · exact Or.inr ⟨by simp, h, Same.refl m⟩
  · rename_i hb
    rcases look_out h p with ⟨id, x, hl, a, b, c, ho⟩ | ⟨hn, ho⟩
    · rw [hl, if_pos rfl]
      simp only [c]
      split
      · rename_i hr
        refine h.out2 (c := .S id n v m.now) ⟨b, by omega, by omega, by omega, h.now⟩ ?_
        show (match m.st.T id with | some x => x.room n | none => false) = true
        rw [c]; exact hr
      · exact Or.inr ⟨by simp, h, Same.refl m⟩
    · rw [if_neg hn]; exact ho
theorem drew_eq {m m1 : Kp} {o : Option Nat} (h : m.draw = (o, m1)) : m1 = m.draw.2 := by rw [h]
theorem drew_free {m m1 : Kp} {id : Nat} (h : m.draw = (some id, m1)) : m.st.T id = none ∧ id < 4096 ∧ m1.st = m.st ∧ m1.now = m.now ∧ m1.secret = m.secret := by
  unfold Kp.draw at h
  have h1 := congrArg Prod.fst h
  have h2 := congrArg Prod.snd h
  simp only at h1 h2
  have := drawN_free (n := 8) (x := m.drawn) (y := (drawN 8 m.drawn m.st.T).2) (id := id) (T := m.st.T) (Prod.ext h1 rfl)
  exact ⟨this.1, this.2.1, by rw [← h2], by rw [← h2], by rw [← h2]⟩
theorem rotate_out {m : Kp} (h : Good m) (p : Bs) : Out m (m.rotate p).2.1 (m.rotate p).2.2 := by
  unfold Kp.rotate
  rcases look_out h p with ⟨id, x, hl, a, b, c, ho⟩ | ⟨hn, ho⟩
  · rw [hl, if_pos rfl]
    split
    · rename_i m1 hd
      rw [drew_eq hd]
      exact Or.inr ⟨by simp, h.drew, Same.drew m⟩
    · rename_i to m1 hd
      obtain ⟨f1, f2, f3, f4, f5⟩ := drew_free hd
      have hm1 := drew_eq hd
      have key : Out m (m1.change (.R id to m.now)).1 (m1.change (.R id to m.now)).2 := by
        subst hm1
        refine Out.of_drew (h.drew.out2 (c := .R id to m.now) ⟨b, f2, h.now⟩ ?_)
        show ((m.st.T id).isSome && (m.st.T to).isNone) = true
        rw [c, f1]; rfl
      simp only
      split
      · rename_i hz
        rw [hz] at key; exact key
      · exact key
  · rw [if_neg hn]; exact ho
theorem login_out {m : Kp} (h : Good m) (u : Int) : Out m (m.login u).2.1 (m.login u).2.2 := by
  unfold Kp.login
  rw [if_neg (by rw [h.up]; decide)]
  split
  · exact Or.inr ⟨by simp, h, Same.refl m⟩
  · rename_i hu
    split
    · exact Or.inr ⟨by simp, h, Same.refl m⟩
    · rename_i hlv
      split
      · rename_i m1 hd
        rw [drew_eq hd]
        exact Or.inr ⟨by simp, h.drew, Same.drew m⟩
      · rename_i to m1 hd
        obtain ⟨f1, f2, f3, f4, f5⟩ := drew_free hd
        have hm1 := drew_eq hd
        have key : Out m (m1.change (.L to u.toNat m.now)).1 (m1.change (.L to u.toNat m.now)).2 := by
          subst hm1
          refine Out.of_drew (h.drew.out2 (c := .L to u.toNat m.now) ⟨f2, by omega, by omega, h.now⟩ ?_)
          show ((m.st.T to).isNone && decide (m.st.T.live < 12)) = true
          rw [f1, decide_eq_true (by omega)]; rfl
        split
        · rename_i hz
          rw [hz] at key; exact key
        · exact key
theorem logoutAll_out {m : Kp} (h : Good m) (u : Int) : Out m (m.logoutAll u).2.1 (m.logoutAll u).2.2 := by
  unfold Kp.logoutAll
  rw [if_neg (by rw [h.up]; decide)]
  split
  · exact Or.inr ⟨by simp, h, Same.refl m⟩
  · rename_i hu
    split
    · exact Or.inr ⟨by simp, h, Same.refl m⟩
    · rename_i hz
      have key := h.out2 (c := .U u.toNat) ⟨by omega, by omega⟩ (show decide (0 < m.st.T.ofUser u.toNat) = true from decide_eq_true (by omega))
      split
      · rename_i hz
        rw [hz] at key; exact key
      · exact key
theorem compact_out {m : Kp} (h : Good m) : Out m m.compact.1 m.compact.2 ∧ (m.compact.1 = 0 → m.compact.2.st.T = m.st.T) ∧ (m.compact.1 ≠ 0 → m.compact.1 ≠ 4 → m.compact.1 = 9 ∧ m.compact.2 = m) ∧ m.compact.2.drawn = m.drawn := by
  have hb := h.holds.bounds
  have hhb := half_bounds h.holds.size
  have hrb := regAt_le h.holds.size (show 1 - m.st.reg ≤ 1 by omega)
  unfold Kp.compact
  rw [if_neg (by rw [h.up]; decide)]
  split
  · exact ⟨Or.inr ⟨by simp, h, Same.refl m⟩, (fun _ => rfl), (fun _ _ => ⟨rfl, rfl⟩), rfl⟩
  · rename_i hno
    have hlen : (snapB m.st.T).length + 10 ≤ halfN m.disk.length := by omega
    have hg : m.st.gen + 1 < 4294967296 := by omega
    have htl : (recB (m.st.gen + 1) 0 (snapB m.st.T) ++ zeros (halfN m.disk.length - ((snapB m.st.T).length + 10))).length = halfN m.disk.length := by rw [List.length_append, recB_length, zeros_length]; omega
    have hturn := h.holds.turn hg hlen
    have hhalf := h.holds.half (l := recB (m.st.gen + 1) 0 (snapB m.st.T) ++ zeros (halfN m.disk.length - ((snapB m.st.T).length + 10))) (by omega)
    generalize recB (m.st.gen + 1) 0 (snapB m.st.T) ++ zeros (halfN m.disk.length - ((snapB m.st.T).length + 10)) = t at *
    simp only
    cases hw : (m.writes (regAt m.disk.length (1 - m.st.reg)) t).1 with
    | false =>
      obtain ⟨qs, rs, e1, e2, e3⟩ := writes_no h.up h.way hw
      rw [if_neg (by decide)]
      refine ⟨Or.inl ⟨rfl, ?_, .half m t rfl h.holds (by omega) ⟨qs, rs, e1, e2, e3⟩⟩, (fun x => by cases x), (fun _ x => absurd rfl x), by rw [e3]⟩
      intro hz
      rw [writes_calm h.up hz] at hw; cases hw
    | true =>
      rw [if_pos rfl]
      have ew := writes_yes h.up hw
      generalize hw1 : (m.writes (regAt m.disk.length (1 - m.st.reg)) t).2 = m1 at *
      have hup1 : m1.down = false := by rw [ew]; exact h.up
      have hway1 : m1.way = [] := by rw [ew]
      have hdisk1 : m1.disk = laidB m.disk (regAt m.disk.length (1 - m.st.reg)) t := by rw [ew]
      cases hw2 : (m1.writes (32 * (1 - m.st.slot)) (sectB (m.st.gen + 1) (1 - m.st.reg))).1 with
      | false =>
        obtain ⟨qs, rs, e1, e2, e3⟩ := writes_no hup1 hway1 hw2
        rw [if_neg (by decide)]
        refine ⟨Or.inl ⟨rfl, ?_, .head m1 t (m.st.gen + 1) h.holds (by omega) hdisk1 (by rw [hdisk1]; exact hturn) ⟨qs, rs, e1, e2, e3⟩⟩, (fun x => by cases x), (fun _ x => absurd rfl x), by rw [e3, ew]⟩
        intro hz
        rw [writes_calm hup1 (by rw [ew]; show m.fuse - _ = 0; omega)] at hw2; cases hw2
      | true =>
        rw [if_pos rfl]
        have ew2 := writes_yes hup1 hw2
        rw [ew2]
        refine ⟨Or.inr ⟨by simp, ⟨hup1, rfl, ?_, ?_, ?_⟩, ⟨by rw [ew], by rw [ew], by rw [ew], by rw [ew], ?_⟩⟩, (fun _ => rfl), (fun x => absurd rfl x), by rw [ew]⟩
        · show Holds (laidB m1.disk _ _) _
          rw [hdisk1]; exact hturn
        · rw [ew]; exact h.now
        · rw [ew]; exact h.drawn
        · intro hz
          rw [ew]
          show m.fuse - _ - _ = 0
          omega
theorem Good.tick {m : Kp} (h : Good m) {n : Int} (h0 : 0 ≤ n) (h1 : (m.now : Int) + n ≤ 1000000000) : m.tick n = (0, { m with now := m.now + n.toNat }) ∧ Good { m with now := m.now + n.toNat } := by
  unfold Kp.tick
  rw [if_neg (by rw [h.up]; decide), if_neg (by omega)]
  exact ⟨rfl, h.up, h.way, h.holds, by unfold maxT; show m.now + n.toNat ≤ _; omega, h.drawn⟩
theorem Good.arm {m : Kp} (h : Good m) (n : Int) : Good (m.arm n) ∧ (m.arm n).st = m.st ∧ (m.arm n).secret = m.secret ∧ (m.arm n).idle = m.idle ∧ (m.arm n).abs = m.abs ∧ (m.arm n).now = m.now ∧ (m.arm n).disk = m.disk := by
  unfold Kp.arm
  rw [if_neg (by rw [h.up]; decide)]
  exact ⟨⟨h.up, h.way, h.holds, h.now, h.drawn⟩, rfl, rfl, rfl, rfl, rfl, rfl⟩
end Go.Proofs.YtmnajomkfnkmeaaGreatDoor
namespace Go.Proofs.YtmnajomkfnkmeaaGreatDoor
/-! ### what the statements ask, as plain mathematics -/
def pickN (c : Int) (n : Nat) : Nat := ((if c < 0 then -(c + 1) else c) % n).toNat
theorem pickN_lt (c : Int) {n : Nat} (h : 0 < n) : pickN c n < n := by
  unfold pickN
  have : ((if c < 0 then -(c + 1) else c) % (n : Int)) < n := Int.emod_lt_of_pos _ (by omega)
  have h2 : 0 ≤ ((if c < 0 then -(c + 1) else c) % (n : Int)) := Int.emod_nonneg _ (by omega)
  omega
def nm : Nat → Bs
  | 0 => [97]
  | 1 => [98, 98]
  | _ => [99, 99, 99]
theorem nm_ok (i : Nat) : 1 ≤ (nm i).length ∧ (nm i).length ≤ 8 := by
  unfold nm; split <;> simp
def actP (v : Nat) (ps : List Bs) : Bs := if ps.length = 0 then [] else ps.getD (v / 10 % ps.length) []
def actV (v : Nat) : Bs := [UInt8.ofNat (48 + v / 700 % 10), UInt8.ofNat (97 + v / 7000 % 9)]
def actK (m : Kp) (v : Nat) (ps : List Bs) : Bs × Nat × Kp :=
  if v % 10 ≤ 1 then m.login ((1 + v / 10 % 3 : Nat) : Int)
  else if v % 10 ≤ 4 then ([], (m.set (actP v ps) (nm (v / 300 % 3)) (actV v)).1, (m.set (actP v ps) (nm (v / 300 % 3)) (actV v)).2)
  else if v % 10 = 5 then ([], (m.touch (actP v ps)).1, (m.touch (actP v ps)).2)
  else if v % 10 = 6 then m.rotate (actP v ps)
  else if v % 10 = 7 then ([], (m.logout (actP v ps)).1, (m.logout (actP v ps)).2)
  else if v % 10 = 8 then ([], (m.logoutAll ((1 + v / 10 % 3 : Nat) : Int)).2.1, (m.logoutAll ((1 + v / 10 % 3 : Nat) : Int)).2.2)
  else ([], m.compact.1, m.compact.2)
theorem act_out {m : Kp} (h : Good m) (v : Nat) (ps : List Bs) : Out m (actK m v ps).2.1 (actK m v ps).2.2 := by
  unfold actK
  split
  · exact login_out h _
  split
  · exact set_out h _ _ _
  split
  · exact touch_out h _
  split
  · exact rotate_out h _
  split
  · exact logout_out h _
  split
  · exact logoutAll_out h _
  · exact (compact_out h).1
/-! no session ends by time -/
theorem over_zero {m : Kp} (h0 : m.now = 0) (h1 : 1 ≤ m.idle) (h2 : 1 ≤ m.abs) (x : Sess) : m.over x = false := by
  unfold Kp.over
  rw [h0, decide_eq_false (by omega), decide_eq_false (by omega)]; rfl
def mild (e : Nat) : Prop := e = 0 ∨ e = 4 ∨ e = 5 ∨ e = 6 ∨ e = 8 ∨ e = 9
theorem change_mild {m : Kp} (c : Chg) : mild (m.change c).1 := by
  unfold Kp.change mild
  split
  · simp
  · split <;> simp
theorem mild_ite {c : Prop} [Decidable c] {a b : Nat × Kp} (ha : mild a.1) (hb : mild b.1) : mild (if c then a else b).1 := by split <;> assumption
theorem look_mild {m : Kp} (h : Good m) (hno : ∀ x, m.over x = false) (p : Bs) : mild (m.look p).2.1 := by
  rcases look_cases h p with ⟨e, he, hl, _⟩ | ⟨id, x, a, b, c, ⟨ho, _⟩ | ⟨ho, hl⟩⟩
  · rw [hl]; unfold mild; rcases he with rfl | rfl <;> simp
  · rw [hno x] at ho; cases ho
  · rw [hl]; unfold mild; simp
theorem act_mild {m : Kp} (h : Good m) (hno : ∀ x, m.over x = false) (v : Nat) (ps : List Bs) : mild (actK m v ps).2.1 := by
  unfold actK
  split
  · unfold Kp.login
    rw [if_neg (by rw [h.up]; decide), if_neg (by omega)]
    split
    · simp [mild]
    · split
      · simp [mild]
      · split
        · simp [mild]
        · exact change_mild _
  split
  · unfold Kp.set
    have hn := nm_ok (v / 300 % 3)
    rw [if_neg (by rintro (a | a | a) <;> first | omega | (simp [actV] at a))]
    exact mild_ite (mild_ite (change_mild _) (by simp [mild])) (look_mild h hno _)
  split
  · unfold Kp.touch
    split
    · exact change_mild _
    · exact look_mild h hno _
  split
  · unfold Kp.rotate
    split
    · split
      · simp [mild]
      · split
        · simp [mild]
        · exact change_mild _
    · exact look_mild h hno _
  split
  · unfold Kp.logout
    split
    · exact change_mild _
    · exact look_mild h hno _
  split
  · unfold Kp.logoutAll
    rw [if_neg (by rw [h.up]; decide), if_neg (by omega)]
    split
    · simp [mild]
    · split
      · simp [mild]
      · exact change_mild _
  · rcases compact_out h with ⟨ho, _, h9, _⟩
    rcases ho with ho | ho
    · rw [ho.1]; simp [mild]
    · by_cases hz : m.compact.1 = 0
      · rw [hz]; simp [mild]
      · rw [(h9 hz ho.1).1]; simp [mild]
/-! what has ended -/
theorem does_none {T : Tab} {c : Chg} {n : Nat} (h : T n = none) (hL : ∀ i u t, c = .L i u t → i ≠ n) (hR : ∀ i to t, c = .R i to t → to ≠ n) : T.does c n = none := by
  cases c with
  | L i u t => exact (tset_other T _ (fun e => hL i u t rfl e.symm)).trans h
  | T i t =>
    show (T.set i _) n = none
    by_cases e : n = i
    · subst e; rw [tset_same, h]; rfl
    · rw [tset_other T _ e]; exact h
  | R i to t =>
    show ((T.set i none).set to _) n = none
    rw [tset_other _ _ (fun e => hR i to t rfl e.symm)]
    by_cases e : n = i
    · subst e; rw [tset_same]
    · rw [tset_other T _ e]; exact h
  | S i a b t =>
    show (T.set i _) n = none
    by_cases e : n = i
    · subst e; rw [tset_same, h]; rfl
    · rw [tset_other T _ e]; exact h
  | X i =>
    show (T.set i none) n = none
    by_cases e : n = i
    · subst e; rw [tset_same]
    · rw [tset_other T _ e]; exact h
  | U u =>
    show (match T n with | some x => if x.user = u then none else some x | none => none) = none
    rw [h]
/-- a change that takes no number -/
def plainC : Chg → Prop
  | .L _ _ _ => False
  | .R _ _ _ => False
  | _ => True
theorem change_none {m : Kp} (h : Good m) {c : Chg} (hc : c.ok) (ha : m.st.T.allows c = true) {n : Nat} (hn : m.st.T n = none) (hz : m.fuse = 0) (hL : ∀ i u t, c = .L i u t → i ≠ n) (hR : ∀ i to t, c = .R i to t → to ≠ n) : (m.change c).2.st.T n = none := by
  rcases h.calm hz hc ha with ⟨_, e⟩ | ⟨_, e, _⟩
  · rw [e]; exact hn
  · rw [e]; exact does_none hn hL hR
theorem look_gone {m : Kp} (h : Good m) (hz : m.fuse = 0) {n : Nat} (hn : m.st.T n = none) (p : Bs) : (m.look p).2.2.st.T n = none := by
  rcases look_cases h p with ⟨e, he, hl, _⟩ | ⟨id, x, a, b, c, ⟨ho, h1, h2, hl⟩ | ⟨ho, hl⟩⟩
  · rw [hl]; exact hn
  · rw [hl]; exact change_none h h1 h2 hn hz (fun _ _ _ e => by cases e) (fun _ _ _ e => by cases e)
  · rw [hl]; exact hn
theorem drew_fuse {m m1 : Kp} {o : Option Nat} (h : m.draw = (o, m1)) : m1.fuse = m.fuse ∧ m1.st = m.st := by
  have := drew_eq h
  subst this
  exact ⟨rfl, rfl⟩
theorem act_gone {m : Kp} (h : Good m) (hz : m.fuse = 0) {n : Nat} (hn : m.st.T n = none) (v : Nat) (ps : List Bs) : (actK m v ps).1 = passL m.secret n ∨ (actK m v ps).2.2.st.T n = none := by
  unfold actK
  split
  · unfold Kp.login
    rw [if_neg (by rw [h.up]; decide), if_neg (by omega)]
    split
    · exact Or.inr hn
    · rename_i hlv
      split
      · rename_i m1 hd
        right
        show m1.st.T n = none
        rw [(drew_fuse hd).2]; exact hn
      · rename_i to m1 hd
        obtain ⟨f1, f2, f3, f4, f5⟩ := drew_free hd
        have hm1 := drew_eq hd
        by_cases hto : to = n
        · subst hto
          split
          · exact Or.inl rfl
          · rename_i hnz
            right
            subst hm1
            rcases h.drew.calm (c := .L to (1 + v / 10 % 3 : Nat) m.now) hz ⟨f2, by omega, by omega, h.now⟩ (by show ((m.st.T to).isNone && decide (m.st.T.live < 12)) = true; rw [f1, decide_eq_true (by omega)]; rfl) with ⟨_, e⟩ | ⟨_, e, _⟩
            · rw [Int.toNat_natCast, e]; exact hn
            · rw [Int.toNat_natCast, e] at hnz; exact absurd rfl hnz
        · right
          have key : (m1.change (.L to ((1 + v / 10 % 3 : Nat) : Int).toNat m.now)).2.st.T n = none := by
            subst hm1
            refine change_none h.drew (c := .L to ((1 + v / 10 % 3 : Nat) : Int).toNat m.now) ⟨f2, by omega, by omega, h.now⟩ (by show ((m.st.T to).isNone && decide (m.st.T.live < 12)) = true; rw [f1, decide_eq_true (by omega)]; rfl) hn hz (fun i u t e => by cases e; exact hto) (fun i u t e => by cases e)
          split
          · exact key
          · exact key
  split
  · right
    unfold Kp.set
    split
    · exact hn
    · rename_i hb
      rcases look_out h (actP v ps) with ⟨id, x, hl, a, b, c, ho⟩ | ⟨hnz, _⟩
      · rw [hl, if_pos rfl]
        simp only [c]
        split
        · rename_i hr
          exact change_none h (c := .S id (nm (v / 300 % 3)) (actV v) m.now) ⟨b, by omega, by omega, by omega, h.now⟩ (by show (match m.st.T id with | some x => x.room _ | none => false) = true; rw [c]; exact hr) hn hz (fun _ _ _ e => by cases e) (fun _ _ _ e => by cases e)
        · exact hn
      · rw [if_neg hnz]; exact look_gone h hz hn _
  split
  · right
    unfold Kp.touch
    rcases look_out h (actP v ps) with ⟨id, x, hl, a, b, c, ho⟩ | ⟨hnz, _⟩
    · rw [hl, if_pos rfl]
      exact change_none h (c := .T id m.now) ⟨b, h.now⟩ (by show (m.st.T id).isSome = true; rw [c]; rfl) hn hz (fun _ _ _ e => by cases e) (fun _ _ _ e => by cases e)
    · rw [if_neg hnz]; exact look_gone h hz hn _
  split
  · unfold Kp.rotate
    rcases look_out h (actP v ps) with ⟨id, x, hl, a, b, c, ho⟩ | ⟨hnz, _⟩
    · rw [hl, if_pos rfl]
      split
      · rename_i m1 hd
        right
        show m1.st.T n = none
        rw [(drew_fuse hd).2]; exact hn
      · rename_i to m1 hd
        obtain ⟨f1, f2, f3, f4, f5⟩ := drew_free hd
        have hm1 := drew_eq hd
        have hal : m.draw.2.st.T.allows (.R id to m.now) = true := by
          show ((m.st.T id).isSome && (m.st.T to).isNone) = true
          rw [c, f1]; rfl
        simp only
        by_cases hto : to = n
        · subst hto
          split
          · exact Or.inl rfl
          · rename_i hnz
            right
            subst hm1
            rcases h.drew.calm (c := .R id to m.now) hz ⟨b, f2, h.now⟩ hal with ⟨_, e⟩ | ⟨_, e, _⟩
            · rw [e]; exact hn
            · rw [e] at hnz; exact absurd rfl hnz
        · right
          have key : (m1.change (.R id to m.now)).2.st.T n = none := by
            subst hm1
            exact change_none h.drew (c := .R id to m.now) ⟨b, f2, h.now⟩ hal hn hz (fun i u t e => by cases e) (fun i u t e => by cases e; exact hto)
          split
          · exact key
          · exact key
    · right; rw [if_neg hnz]; exact look_gone h hz hn _
  split
  · right
    unfold Kp.logout
    rcases look_out h (actP v ps) with ⟨id, x, hl, a, b, c, ho⟩ | ⟨hnz, _⟩
    · rw [hl, if_pos rfl]
      exact change_none h (c := .X id) b (by show (m.st.T id).isSome = true; rw [c]; rfl) hn hz (fun _ _ _ e => by cases e) (fun _ _ _ e => by cases e)
    · rw [if_neg hnz]; exact look_gone h hz hn _
  split
  · right
    unfold Kp.logoutAll
    rw [if_neg (by rw [h.up]; decide), if_neg (by omega)]
    split
    · exact hn
    · rename_i hu
      have hu1 : 1 ≤ ((1 + v / 10 % 3 : Nat) : Int).toNat ∧ ((1 + v / 10 % 3 : Nat) : Int).toNat ≤ 99 := by omega
      generalize ((1 + v / 10 % 3 : Nat) : Int).toNat = u at *
      have key := change_none h (c := .U u) hu1 (show decide (0 < m.st.T.ofUser u) = true from decide_eq_true (by omega)) hn hz (fun _ _ _ e => by cases e) (fun _ _ _ e => by cases e)
      split
      · exact key
      · exact key
  · right
    rcases compact_out h with ⟨ho, h0, h9, _⟩
    rcases ho with ho | ho
    · exact absurd hz ho.2.1
    · by_cases hz2 : m.compact.1 = 0
      · show m.compact.2.st.T n = none
        rw [h0 hz2]; exact hn
      · show m.compact.2.st.T n = none
        rw [(h9 hz2 ho.1).2]; exact hn
/-- a pass whose session is not there is good for nothing -/
theorem dead_calls {m : Kp} (h : Good m) {n : Nat} (hn : n < 4096) (ht : m.st.T n = none) (a b : Bs) (ha : a.length ≠ 0 ∧ a.length ≤ 8 ∧ b.length ≤ 8) :
    m.touch (passL m.secret n) = (6, m) ∧ m.get (passL m.secret n) a = ([], 6) ∧ m.set (passL m.secret n) a b = (6, m) ∧ m.rotate (passL m.secret n) = ([], 6, m) ∧ m.logout (passL m.secret n) = (6, m) := by
  have hf := find_dead h (passOf_pass m.secret n hn) ht
  have hl : m.look (passL m.secret n) = (0, 6, m) := by rw [look_same (by rw [hf]; simp), hf]
  refine ⟨?_, ?_, ?_, ?_, ?_⟩
  · unfold Kp.touch; rw [hl]; rfl
  · unfold Kp.get; rw [hf]; rfl
  · unfold Kp.set; rw [if_neg (by omega), hl]; rfl
  · unfold Kp.rotate; rw [hl]; rfl
  · unfold Kp.logout; rw [hl]; rfl
/-- what Get tells hangs on the table, the time and the secret alone -/
theorem get_same {m m' : Kp} (h : Good m) (h' : Good m') (hs : m'.secret = m.secret) (hi : m'.idle = m.idle) (ha : m'.abs = m.abs) (hn : m'.now = m.now) (ht : m'.st.T = m.st.T) (p a : Bs) : m'.get p a = m.get p a := by
  have hf : m'.find p = m.find p := by
    unfold Kp.find Kp.over
    rw [h.up, h'.up, hs, ht, hi, ha, hn]
  unfold Kp.get
  rw [hf, ht]
end Go.Proofs.YtmnajomkfnkmeaaGreatDoor
namespace Go.Proofs.YtmnajomkfnkmeaaGreatDoor
/-! ### calls that go well, while the power stays -/
structure Did (m : Kp) (st : St) (m' : Kp) : Prop where
  good : Good m'
  same : Same m m'
  fuse : m'.fuse = 0
  st : m'.st = st
  len : m'.disk.length = m.disk.length
def roomFor (m : Kp) (n : Nat) : Prop := m.st.endp + n + 10 ≤ halfN m.disk.length ∧ m.st.next ≤ 65535
theorem change_calm {m : Kp} (h : Good m) (hz : m.fuse = 0) {c : Chg} (hc : c.ok) (ha : m.st.T.allows c = true) (hr : roomFor m (chgB c).length) :
    ∃ m', m.change c = (0, m') ∧ Did m (m.st.does c) m' ∧ m'.drawn = m.drawn := by
  have hno : m.full c = false := by
    unfold Kp.full
    rw [decide_eq_false (by have := hr.1; omega), decide_eq_false (by have := hr.2; omega)]; rfl
  rcases h.calm hz hc ha with ⟨e, _⟩ | ⟨_, e, g⟩
  · rw [hno] at e; cases e
  · exact ⟨_, e, ⟨g, ⟨rfl, rfl, rfl, rfl, fun _ => rfl⟩, rfl, rfl, Fits.len ⟨h.holds, hc, ha, hr.1⟩⟩, rfl⟩
theorem login_calm {m : Kp} (h : Good m) (hz : m.fuse = 0) {u : Nat} (hu : 1 ≤ u ∧ u ≤ 99) (hl : m.st.T.live < 12) {id y : Nat} (hd : drawN 8 m.drawn m.st.T = (some id, y)) (hr : roomFor m 8) :
    ∃ m', m.login (u : Int) = (passL m.secret id, 0, m') ∧ Did m (m.st.does (.L id u m.now)) m' ∧ m'.drawn = y ∧ m.st.T id = none ∧ id < 4096 := by
  obtain ⟨f1, f2, f3⟩ := drawN_free hd
  have hdr : m.draw = (some id, m.draw.2) := by unfold Kp.draw; rw [hd]
  have hy : m.draw.2.drawn = y := by unfold Kp.draw; rw [hd]
  have hal : m.draw.2.st.T.allows (.L id u m.now) = true := by
    show ((m.st.T id).isNone && decide (m.st.T.live < 12)) = true
    rw [f1, decide_eq_true hl]; rfl
  obtain ⟨m', e, d, e2⟩ := change_calm h.drew (show m.draw.2.fuse = 0 from hz) (c := .L id u m.now) ⟨f2, hu.1, hu.2, h.now⟩ hal (by unfold roomFor at hr ⊢; exact hr)
  refine ⟨m', ?_, ⟨d.good, (Same.drew m).trans d.same, d.fuse, d.st, d.len⟩, by rw [e2, hy], f1, f2⟩
  unfold Kp.login
  rw [if_neg (by rw [h.up]; decide), if_neg (by omega), if_neg (by omega), hdr]
  simp only [Int.toNat_natCast]
  rw [e]; rfl
theorem touch_calm {m : Kp} (h : Good m) (hz : m.fuse = 0) {p : Bs} {id : Nat} {x : Sess} (hp : passOf m.secret p = some id) (ht : m.st.T id = some x) (ho : m.over x = false) (hr : roomFor m 7) :
    ∃ m', m.touch p = (0, m') ∧ Did m (m.st.does (.T id m.now)) m' ∧ m'.drawn = m.drawn := by
  have hf := find_live h hp ht
  rw [ho, if_neg (by decide)] at hf
  have hl : m.look p = (id, 0, m) := by rw [look_same (by rw [hf]; simp), hf]
  obtain ⟨m', e, d, e2⟩ := change_calm h hz (c := .T id m.now) ⟨(passOf_some hp).2, h.now⟩ (by show (m.st.T id).isSome = true; rw [ht]; rfl) hr
  exact ⟨m', by unfold Kp.touch; rw [hl, if_pos rfl]; exact e, d, e2⟩
theorem touch_over {m : Kp} (h : Good m) (hz : m.fuse = 0) {p : Bs} {id : Nat} {x : Sess} (hp : passOf m.secret p = some id) (ht : m.st.T id = some x) (ho : m.over x = true) (hr : roomFor m 3) :
    ∃ m', m.touch p = (7, m') ∧ Did m (m.st.does (.X id)) m' := by
  have hf := find_live h hp ht
  rw [ho, if_pos rfl] at hf
  obtain ⟨m', e, d, e2⟩ := change_calm h hz (c := .X id) (passOf_some hp).2 (by show (m.st.T id).isSome = true; rw [ht]; rfl) hr
  have hl := look_over hf
  rw [e] at hl
  simp only [if_true] at hl
  exact ⟨m', by unfold Kp.touch; rw [hl]; rfl, d⟩
theorem logout_calm {m : Kp} (h : Good m) (hz : m.fuse = 0) {p : Bs} {id : Nat} {x : Sess} (hp : passOf m.secret p = some id) (ht : m.st.T id = some x) (ho : m.over x = false) (hr : roomFor m 3) :
    ∃ m', m.logout p = (0, m') ∧ Did m (m.st.does (.X id)) m' := by
  have hf := find_live h hp ht
  rw [ho, if_neg (by decide)] at hf
  have hl : m.look p = (id, 0, m) := by rw [look_same (by rw [hf]; simp), hf]
  obtain ⟨m', e, d, e2⟩ := change_calm h hz (c := .X id) (passOf_some hp).2 (by show (m.st.T id).isSome = true; rw [ht]; rfl) hr
  exact ⟨m', by unfold Kp.logout; rw [hl, if_pos rfl]; exact e, d⟩
theorem rotate_calm {m : Kp} (h : Good m) (hz : m.fuse = 0) {p : Bs} {id : Nat} {x : Sess} (hp : passOf m.secret p = some id) (ht : m.st.T id = some x) (ho : m.over x = false) {to y : Nat} (hd : drawN 8 m.drawn m.st.T = (some to, y)) (hr : roomFor m 9) :
    ∃ m', m.rotate p = (passL m.secret to, 0, m') ∧ Did m (m.st.does (.R id to m.now)) m' ∧ m.st.T to = none ∧ to < 4096 := by
  have hf := find_live h hp ht
  rw [ho, if_neg (by decide)] at hf
  have hl : m.look p = (id, 0, m) := by rw [look_same (by rw [hf]; simp), hf]
  obtain ⟨f1, f2, f3⟩ := drawN_free hd
  have hdr : m.draw = (some to, m.draw.2) := by unfold Kp.draw; rw [hd]
  have hal : m.draw.2.st.T.allows (.R id to m.now) = true := by
    show ((m.st.T id).isSome && (m.st.T to).isNone) = true
    rw [ht, f1]; rfl
  obtain ⟨m', e, d, e2⟩ := change_calm h.drew (show m.draw.2.fuse = 0 from hz) (c := .R id to m.now) ⟨(passOf_some hp).2, f2, h.now⟩ hal (by unfold roomFor at hr ⊢; exact hr)
  refine ⟨m', ?_, ⟨d.good, (Same.drew m).trans d.same, d.fuse, d.st, d.len⟩, f1, f2⟩
  unfold Kp.rotate
  rw [hl, if_pos rfl, hdr]
  simp only
  rw [e]; rfl
theorem set_calm {m : Kp} (h : Good m) (hz : m.fuse = 0) {p a b : Bs} {id : Nat} {x : Sess} (hp : passOf m.secret p = some id) (ht : m.st.T id = some x) (ho : m.over x = false) (ha : 1 ≤ a.length ∧ a.length ≤ 8 ∧ b.length ≤ 8) (hx : x.room a = true) (hr : roomFor m (9 + a.length + b.length)) :
    ∃ m', m.set p a b = (0, m') ∧ Did m (m.st.does (.S id a b m.now)) m' ∧ m'.drawn = m.drawn := by
  have hf := find_live h hp ht
  rw [ho, if_neg (by decide)] at hf
  have hl : m.look p = (id, 0, m) := by rw [look_same (by rw [hf]; simp), hf]
  obtain ⟨m', e, d, e2⟩ := change_calm h hz (c := .S id a b m.now) ⟨(passOf_some hp).2, ha.1, ha.2.1, ha.2.2, h.now⟩ (by show (match m.st.T id with | some x => x.room a | none => false) = true; rw [ht]; exact hx) (by
    unfold roomFor at hr ⊢
    have : (chgB (.S id a b m.now)).length = 9 + a.length + b.length := by simp only [chgB, List.length_cons, List.length_append, nB_length, tB_length]; omega
    rw [this]; exact hr)
  refine ⟨m', ?_, d, e2⟩
  unfold Kp.set
  rw [if_neg (by omega), hl, if_pos rfl]
  simp only [ht]
  rw [if_pos hx]; exact e
theorem logoutAll_calm {m : Kp} (h : Good m) (hz : m.fuse = 0) {u : Nat} (hu : 1 ≤ u ∧ u ≤ 99) (hn : 0 < m.st.T.ofUser u) (hr : roomFor m 2) :
    ∃ m', m.logoutAll (u : Int) = (m.st.T.ofUser u, 0, m') ∧ Did m (m.st.does (.U u)) m' := by
  obtain ⟨m', e, d, e2⟩ := change_calm h hz (c := .U u) hu (show decide (0 < m.st.T.ofUser u) = true from decide_eq_true hn) hr
  refine ⟨m', ?_, d⟩
  unfold Kp.logoutAll
  rw [if_neg (by rw [h.up]; decide), if_neg (by omega), Int.toNat_natCast, if_neg (by omega), e]; rfl
/-! one session alone -/
def oneTab (id : Nat) (x : Sess) : Tab := noTab.set id (some x)
theorem oneTab_live {id : Nat} {x : Sess} (h : id < 4096) : (oneTab id x).live = 1 := by
  have := live_eq noTab id (some x) h
  have h0 : noTab.live = 0 := by
    unfold Tab.live
    rw [List.countP_eq_zero]
    intro a _ h; cases h
  have e1 : (noTab id).isSome = false := rfl
  rw [h0, e1] at this
  simp only [Option.isSome_some, if_true, Bool.false_eq_true, if_false, Nat.add_zero, Nat.zero_add] at this
  exact this
theorem oneTab_at (id : Nat) (x : Sess) : oneTab id x id = some x := tset_same _ _ _
theorem oneTab_other {id j : Nat} {x : Sess} (h : j ≠ id) : oneTab id x j = none := tset_other _ _ h
theorem countP_one (n id : Nat) (p : Nat → Bool) (h : id < n) (hp : p id = true) (ho : ∀ j, j ≠ id → p j = false) : (List.range n).countP p = 1 := by
  induction n with
  | zero => omega
  | succ n ih =>
    rw [List.range_succ, List.countP_append]
    simp only [List.countP_cons, List.countP_nil, Nat.zero_add]
    by_cases e : id = n
    · subst e
      rw [hp, if_pos rfl]
      have : (List.range id).countP p = 0 := by
        rw [List.countP_eq_zero]
        intro a ha
        rw [List.mem_range] at ha
        rw [ho a (by omega)]; decide
      rw [this]
    · rw [ih (by omega), ho n (by omega)]; simp
theorem oneTab_ofUser {id : Nat} {x : Sess} (h : id < 4096) : (oneTab id x).ofUser x.user = 1 := by
  unfold Tab.ofUser
  refine countP_one 4096 id _ h ?_ ?_
  · rw [oneTab_at]; simp
  · intro j hj; rw [oneTab_other hj]
/-- the first login of an empty disk -/
theorem first_login {m : Kp} (h : Good m) (hz : m.fuse = 0) (hs : m.st = ⟨1, 0, 0, 11, 1, noTab⟩) (hh : 29 ≤ halfN m.disk.length) {u : Nat} (hu : 1 ≤ u ∧ u ≤ 99) :
    ∃ m', m.login (u : Int) = (passL m.secret (drawX m.drawn % 4096), 0, m') ∧ Did m ⟨1, 0, 0, 29, 2, oneTab (drawX m.drawn % 4096) ⟨u, m.now, m.now, []⟩⟩ m' ∧ m'.drawn = drawX m.drawn := by
  have hT : m.st.T = noTab := by rw [hs]
  have hd : drawN 8 m.drawn m.st.T = (some (drawX m.drawn % 4096), drawX m.drawn) := by
    rw [hT]; unfold drawN; rw [if_pos (show (noTab (drawX m.drawn % 4096)).isNone = true from rfl)]
  have hl : m.st.T.live < 12 := by
    rw [hT]
    have h0 : noTab.live = 0 := by
      unfold Tab.live
      rw [List.countP_eq_zero]
      intro a _ h; cases h
    omega
  obtain ⟨m', e, d, e2, _⟩ := login_calm h hz hu hl hd (by unfold roomFor; rw [hs]; exact ⟨by simp only; omega, by simp only; omega⟩)
  refine ⟨m', e, ?_, e2⟩
  rw [hs] at d
  exact d
end Go.Proofs.YtmnajomkfnkmeaaGreatDoor
namespace Go.Proofs.YtmnajomkfnkmeaaGreatDoor
/-! ### the statements' stories -/
def topSecret : Bs := [116, 111, 112, 32, 115, 101, 99, 114, 101, 116]
def confK (c : Int) (long : Bool) : Cfg := ⟨topSecret, pickN c 65536, if long then 1000000000 else 20, if long then 1000000000 else 60, 0⟩
theorem conf_ok (c : Int) (long : Bool) : (confK c long).ok = true := by
  have := pickN_lt c (n := 65536) (by decide)
  unfold Cfg.ok confK
  simp only [Bool.and_eq_true, decide_eq_true_eq]
  refine ⟨⟨⟨⟨by decide, by omega⟩, ?_⟩, ?_⟩, by decide⟩ <;> cases long <;> decide
theorem half_at {n : Nat} : halfN (32 * n) = 32 * ((n - 2) / 2) := by unfold halfN; rw [Nat.mul_div_cancel_left n (by decide : 0 < 32)]
structure Begun (c : Int) (long : Bool) (n : Nat) (m : Kp) : Prop where
  good : Good m
  st : m.st = ⟨1, 0, 0, 11, 1, noTab⟩
  secret : m.secret = topSecret
  idle : m.idle = if long then 1000000000 else 20
  abs : m.abs = if long then 1000000000 else 60
  now : m.now = 0
  drawn : m.drawn = pickN c 65536
  fuse : m.fuse = 0
  len : m.disk.length = 32 * n
theorem kbegun (c : Int) (long : Bool) (n : Nat) (h0 : 12 ≤ n) (h1 : n ≤ 200) : ∃ m, openK (blankB n) (confK c long) = (0, some m) ∧ Begun c long n m := by
  obtain ⟨m, e, g, s, a1, a2, a3, a4, a5, a6, a7⟩ := fresh_good n h0 h1 (conf_ok c long)
  refine ⟨m, e, g, s, a1, ?_, ?_, a4, ?_, a6, a7⟩
  · rw [a2]; cases long <;> rfl
  · rw [a3]; cases long <;> rfl
  · rw [a5]; rfl
/-! One -/
structure Two (m : Kp) (i j k : Nat) : Prop where
  good : Good m
  fuse : m.fuse = 0
  now : m.now = 0
  idle : 1 ≤ m.idle
  abs : 1 ≤ m.abs
  secret : m.secret = topSecret
  i4 : i < 4096
  j4 : j < 4096
  ne : i ≠ j
  ti : ∃ x, m.st.T i = some x
  tj : ∃ x, m.st.T j = some x
  no : ∀ l, l ≠ i → l ≠ j → m.st.T l = none
  endp : m.st.endp ≤ 47 + 17 * k
  next : m.st.next ≤ 3 + k
  half : 608 ≤ halfN m.disk.length
theorem one_start (c : Int) (u : Nat) (hu : 1 ≤ u ∧ u ≤ 99) : ∃ m0 m1 m2 i j, openK (blankB 40) (confK c true) = (0, some m0) ∧ m0.login (u : Int) = (passL topSecret i, 0, m1) ∧ m1.login 7 = (passL topSecret j, 0, m2) ∧ Two m2 i j 0 := by
  obtain ⟨m0, e0, b⟩ := kbegun c true 40 (by decide) (by decide)
  have hh : halfN m0.disk.length = 608 := by rw [b.len]; rfl
  obtain ⟨m1, e1, d1, dr1⟩ := first_login b.good b.fuse b.st (by omega) hu
  rw [b.secret] at e1
  rw [b.drawn] at e1 d1 dr1
  rw [b.now] at d1
  have hx := pickN_lt c (n := 65536) (by decide)
  have hT1 : m1.st.T = oneTab (drawX (pickN c 65536) % 4096) ⟨u, 0, 0, []⟩ := by rw [d1.st]
  have hi : drawX (pickN c 65536) % 4096 < 4096 := Nat.mod_lt _ (by decide)
  obtain ⟨j, y, hd⟩ := draw_two hx (T := m1.st.T) (id := drawX (pickN c 65536) % 4096) (by intro j hj; rw [hT1]; exact oneTab_other hj)
  rw [← dr1] at hd
  have hlen1 : halfN m1.disk.length = 608 := by rw [d1.len]; exact hh
  have hlive : m1.st.T.live < 12 := by rw [hT1, oneTab_live hi]; decide
  obtain ⟨m2, e2, d2, _, f1, f2⟩ := login_calm d1.good d1.fuse (u := 7) (by omega) hlive hd (by unfold roomFor; rw [d1.st, hlen1]; exact ⟨(by show 29 + 8 + 10 ≤ 608; decide), (by show 2 ≤ 65535; decide)⟩)
  have hs1 : m1.secret = topSecret := d1.same.secret.trans b.secret
  rw [hs1] at e2
  have hn1 : m1.now = 0 := d1.same.now.trans b.now
  generalize drawX (pickN c 65536) % 4096 = i at *
  have hji : j ≠ i := by
    intro e
    rw [hT1, e, oneTab_at] at f1; cases f1
  refine ⟨m0, m1, m2, i, j, e0, e1, e2, ⟨d2.good, d2.fuse, d2.same.now.trans hn1, ?_, ?_, d2.same.secret.trans hs1, hi, f2, fun e => hji e.symm, ?_, ?_, ?_, ?_, ?_, ?_⟩⟩
  · rw [d2.same.idle, d1.same.idle, b.idle]; decide
  · rw [d2.same.abs, d1.same.abs, b.abs]; decide
  · rw [d2.st]
    show ∃ x, (m1.st.T.set j _) i = some x
    rw [tset_other _ _ (fun e => hji e.symm), hT1, oneTab_at]; exact ⟨_, rfl⟩
  · rw [d2.st]
    show ∃ x, (m1.st.T.set j _) j = some x
    rw [tset_same]; exact ⟨_, rfl⟩
  · intro l h1 h2
    rw [d2.st]
    show (m1.st.T.set j _) l = none
    rw [tset_other _ _ h2, hT1, oneTab_other h1]
  · rw [d2.st, d1.st]; show 29 + 8 + 10 ≤ 47 + 17 * 0; decide
  · rw [d2.st, d1.st]; show 2 + 1 ≤ 3 + 0; decide
  · rw [d2.len, hlen1]; decide
theorem two_touch {m : Kp} {i j k : Nat} (h : Two m i j k) (hk : k ≤ 10) (t : Bs) :
    ((t = passL topSecret i ∨ t = passL topSecret j) → ∃ m', m.touch t = (0, m') ∧ Two m' i j (k + 1)) ∧
    (¬ (t = passL topSecret i ∨ t = passL topSecret j) → ∃ e, (e = 5 ∨ e = 6) ∧ m.touch t = (e, m)) := by
  have hov := over_zero h.now h.idle h.abs
  have hro : roomFor m 7 := ⟨by have := h.endp; have := h.half; omega, by have := h.next; omega⟩
  constructor
  · intro ht
    have key : ∃ id x, passOf m.secret t = some id ∧ m.st.T id = some x ∧ (id = i ∨ id = j) := by
      rcases ht with rfl | rfl
      · obtain ⟨x, hx⟩ := h.ti
        exact ⟨i, x, by rw [h.secret]; exact passOf_pass _ _ h.i4, hx, Or.inl rfl⟩
      · obtain ⟨x, hx⟩ := h.tj
        exact ⟨j, x, by rw [h.secret]; exact passOf_pass _ _ h.j4, hx, Or.inr rfl⟩
    obtain ⟨id, x, hp, hx, hid⟩ := key
    obtain ⟨m', e, d, _⟩ := touch_calm h.good h.fuse hp hx (hov x) hro
    have hT : ∀ l, m'.st.T l = (if l = id then some { x with used := m.now } else m.st.T l) := by
      intro l
      rw [d.st]
      show (m.st.T.set id ((m.st.T id).map _)) l = _
      unfold Tab.set
      rw [hx]; rfl
    refine ⟨m', e, ⟨d.good, d.fuse, d.same.now.trans h.now, by rw [d.same.idle]; exact h.idle, by rw [d.same.abs]; exact h.abs, d.same.secret.trans h.secret, h.i4, h.j4, h.ne, ?_, ?_, ?_, ?_, ?_, by rw [d.len]; exact h.half⟩⟩
    · rw [hT]; split
      · exact ⟨_, rfl⟩
      · exact h.ti
    · rw [hT]; split
      · exact ⟨_, rfl⟩
      · exact h.tj
    · intro l h1 h2
      rw [hT, if_neg (by rcases hid with rfl | rfl <;> assumption)]; exact h.no l h1 h2
    · rw [d.st]
      show m.st.endp + (chgB (.T id m.now)).length + 10 ≤ _
      have := h.endp
      have hl : (chgB (.T id m.now)).length = 7 := rfl
      omega
    · rw [d.st]
      show m.st.next + 1 ≤ _
      have := h.next
      omega
  · intro ht
    rcases look_cases h.good t with ⟨e, he, hl, _⟩ | ⟨id, x, a, b, cc, hrest⟩
    · exact ⟨e, he, by unfold Kp.touch; rw [hl]; rcases he with rfl | rfl <;> rfl⟩
    · exfalso
      obtain ⟨e1, e2⟩ := passOf_some a
      rw [h.secret] at e1
      by_cases h1 : id = i
      · exact ht (Or.inl (by rw [e1, h1]))
      · by_cases h2 : id = j
        · exact ht (Or.inr (by rw [e1, h2]))
        · rw [h.no id h1 h2] at cc; cases cc
/-! Lived -/
structure Living (m : Kp) (id k age : Nat) : Prop where
  good : Good m
  fuse : m.fuse = 0
  now : m.now = age
  idle : m.idle = 20
  abs : m.abs = 60
  secret : m.secret = topSecret
  i4 : id < 4096
  ti : m.st.T id = some ⟨5, 0, age, []⟩
  endp : m.st.endp ≤ 29 + 17 * k
  next : m.st.next ≤ 2 + k
  half : 3168 ≤ halfN m.disk.length
theorem lived_start (c : Int) : ∃ m0 m1 i, openK (blankB 200) (confK c false) = (0, some m0) ∧ m0.login 5 = (passL topSecret i, 0, m1) ∧ Living m1 i 0 0 := by
  obtain ⟨m0, e0, b⟩ := kbegun c false 200 (by decide) (by decide)
  have hh : halfN m0.disk.length = 3168 := by rw [b.len]; rfl
  obtain ⟨m1, e1, d1, dr1⟩ := first_login b.good b.fuse b.st (by omega) (u := 5) (by decide)
  rw [b.secret] at e1
  rw [b.now] at d1
  refine ⟨m0, m1, _, e0, e1, ⟨d1.good, d1.fuse, d1.same.now.trans b.now, d1.same.idle.trans b.idle, d1.same.abs.trans b.abs, d1.same.secret.trans b.secret, Nat.mod_lt _ (by decide), ?_, ?_, ?_, ?_⟩⟩
  · rw [d1.st]; exact oneTab_at _ _
  · rw [d1.st]; show 29 ≤ 29 + 17 * 0; decide
  · rw [d1.st]; show 2 ≤ 2 + 0; decide
  · rw [d1.len, hh]; decide
theorem lived_step {m : Kp} {id k age n : Nat} (h : Living m id k age) (hk : k < 60) (hage : age ≤ 22 * k) (hn : n < 23) :
    ∃ m1, m.tick n = (0, m1) ∧
      ((20 ≤ n ∨ 60 ≤ age + n) → m1.get (passL topSecret id) [97] = ([], 7) ∧ ∃ m2, m1.touch (passL topSecret id) = (7, m2) ∧ m2.touch (passL topSecret id) = (6, m2)) ∧
      (¬ (20 ≤ n ∨ 60 ≤ age + n) → m1.get (passL topSecret id) [97] = ([], 6) ∧ ∃ m2, m1.touch (passL topSecret id) = (0, m2) ∧ Living m2 id (k + 1) (age + n)) := by
  obtain ⟨e, g⟩ := h.good.tick (n := (n : Int)) (by omega) (by rw [h.now]; omega)
  rw [Int.toNat_natCast] at e g
  have hnow := h.now
  have hidle := h.idle
  have habs := h.abs
  have hsec := h.secret
  have hfuse := h.fuse
  have hti := h.ti
  have hend := h.endp
  have hnext := h.next
  have hhalf := h.half
  refine ⟨_, e, ?_, ?_⟩
  · intro hov
    generalize hm1 : ({ m with now := m.now + n } : Kp) = m1 at *
    have h1 : m1.fuse = 0 := by rw [← hm1]; exact hfuse
    have h2 : m1.secret = topSecret := by rw [← hm1]; exact hsec
    have h3 : m1.st = m.st := by rw [← hm1]
    have h4 : m1.now = age + n := by rw [← hm1]; show m.now + n = _; omega
    have h5 : m1.disk = m.disk := by rw [← hm1]
    have hp : passOf m1.secret (passL topSecret id) = some id := by rw [h2]; exact passOf_pass _ _ h.i4
    have ht : m1.st.T id = some ⟨5, 0, age, []⟩ := by rw [h3]; exact hti
    have ho : m1.over ⟨5, 0, age, []⟩ = true := by
      unfold Kp.over
      rw [h4, show m1.idle = 20 by rw [← hm1]; exact hidle, show m1.abs = 60 by rw [← hm1]; exact habs]
      simp only [Bool.or_eq_true, decide_eq_true_eq]
      omega
    have hf := find_live g hp ht
    rw [ho, if_pos rfl] at hf
    obtain ⟨m2, e2, d2⟩ := touch_over g h1 hp ht ho (by unfold roomFor; rw [h3, h5]; exact ⟨by omega, by omega⟩)
    refine ⟨by unfold Kp.get; rw [hf]; rfl, m2, e2, ?_⟩
    have hs2 : m2.secret = topSecret := d2.same.secret.trans h2
    have ht2 : m2.st.T id = none := by rw [d2.st]; exact tset_same _ _ _
    have := (dead_calls d2.good h.i4 ht2 [97] [] (by simp)).1
    rw [hs2] at this
    exact this
  · intro hov
    generalize hm1 : ({ m with now := m.now + n } : Kp) = m1 at *
    have h1 : m1.fuse = 0 := by rw [← hm1]; exact hfuse
    have h2 : m1.secret = topSecret := by rw [← hm1]; exact hsec
    have h3 : m1.st = m.st := by rw [← hm1]
    have h4 : m1.now = age + n := by rw [← hm1]; show m.now + n = _; omega
    have h5 : m1.disk = m.disk := by rw [← hm1]
    have h6 : m1.idle = 20 := by rw [← hm1]; exact hidle
    have h7 : m1.abs = 60 := by rw [← hm1]; exact habs
    have hp : passOf m1.secret (passL topSecret id) = some id := by rw [h2]; exact passOf_pass _ _ h.i4
    have ht : m1.st.T id = some ⟨5, 0, age, []⟩ := by rw [h3]; exact hti
    have ho : m1.over ⟨5, 0, age, []⟩ = false := by
      unfold Kp.over
      rw [h4, h6, h7]
      simp only [Bool.or_eq_false_iff, decide_eq_false_iff_not]
      omega
    have hf := find_live g hp ht
    rw [ho, if_neg (by decide)] at hf
    obtain ⟨m2, e2, d2, _⟩ := touch_calm g h1 hp ht ho (by unfold roomFor; rw [h3, h5]; exact ⟨by omega, by omega⟩)
    refine ⟨by unfold Kp.get; rw [hf]; simp only [ht]; rfl, m2, e2, ⟨d2.good, d2.fuse, d2.same.now.trans h4, d2.same.idle.trans h6, d2.same.abs.trans h7, d2.same.secret.trans h2, h.i4, ?_, ?_, ?_, by rw [d2.len, h5]; exact hhalf⟩⟩
    · rw [d2.st]
      show (m1.st.T.set id ((m1.st.T id).map _)) id = _
      rw [tset_same, ht, h4]; rfl
    · rw [d2.st]
      show m1.st.endp + (chgB (.T id m1.now)).length + 10 ≤ _
      have hl : (chgB (.T id m1.now)).length = 7 := rfl
      rw [h3]; omega
    · rw [d2.st]
      show m1.st.next + 1 ≤ _
      rw [h3]; omega
/-! Gone -/
structure Ended (m : Kp) (id : Nat) : Prop where
  good : Good m
  fuse : m.fuse = 0
  secret : m.secret = topSecret
  i4 : id < 4096
  gone : m.st.T id = none
theorem gone_start (c : Int) : ∃ m0 m1 i, openK (blankB 60) (confK c false) = (0, some m0) ∧ m0.login 5 = (passL topSecret i, 0, m1) ∧
    (∃ m2, m1.logout (passL topSecret i) = (0, m2) ∧ Ended m2 i) ∧
    (∃ q m2, m1.rotate (passL topSecret i) = (q, 0, m2) ∧ Ended m2 i) ∧
    (∃ m2, m1.logoutAll 5 = (1, 0, m2) ∧ Ended m2 i) ∧
    (∃ m2 m3, m1.tick 20 = (0, m2) ∧ m2.touch (passL topSecret i) = (7, m3) ∧ Ended m3 i) := by
  obtain ⟨m0, e0, b⟩ := kbegun c false 60 (by decide) (by decide)
  have hh : halfN m0.disk.length = 928 := by rw [b.len]; rfl
  obtain ⟨m1, e1, d1, dr1⟩ := first_login b.good b.fuse b.st (by omega) (u := 5) (by decide)
  rw [b.secret] at e1
  rw [b.now, b.drawn] at d1
  rw [b.drawn] at e1 dr1
  have hx := pickN_lt c (n := 65536) (by decide)
  have hi : drawX (pickN c 65536) % 4096 < 4096 := Nat.mod_lt _ (by decide)
  have hT1 : m1.st.T = oneTab (drawX (pickN c 65536) % 4096) ⟨5, 0, 0, []⟩ := by rw [d1.st]
  obtain ⟨j, y, hd⟩ := draw_two hx (T := m1.st.T) (id := drawX (pickN c 65536) % 4096) (by intro j hj; rw [hT1]; exact oneTab_other hj)
  rw [← dr1] at hd
  have hs1 : m1.secret = topSecret := d1.same.secret.trans b.secret
  have hn1 : m1.now = 0 := d1.same.now.trans b.now
  have hlen1 : halfN m1.disk.length = 928 := by rw [d1.len]; exact hh
  have hst := d1.st
  generalize drawX (pickN c 65536) % 4096 = i at *
  have hp : passOf m1.secret (passL topSecret i) = some i := by rw [hs1]; exact passOf_pass _ _ hi
  have ht : m1.st.T i = some ⟨5, 0, 0, []⟩ := by rw [hT1]; exact oneTab_at _ _
  have hov : ∀ x, m1.over x = false := over_zero hn1 (by rw [d1.same.idle, b.idle]; decide) (by rw [d1.same.abs, b.abs]; decide)
  have hro : ∀ n, n ≤ 100 → roomFor m1 n := by
    intro n hn
    unfold roomFor
    rw [hst, hlen1]
    exact ⟨(by show 29 + n + 10 ≤ 928; omega), (by show 2 ≤ 65535; decide)⟩
  refine ⟨m0, m1, i, e0, e1, ?_, ?_, ?_, ?_⟩
  · obtain ⟨m2, e2, d2⟩ := logout_calm d1.good d1.fuse hp ht (hov _) (hro 3 (by decide))
    exact ⟨m2, e2, d2.good, d2.fuse, d2.same.secret.trans hs1, hi, by rw [d2.st]; exact tset_same _ _ _⟩
  · obtain ⟨m2, e2, d2, f1, f2⟩ := rotate_calm d1.good d1.fuse hp ht (hov _) hd (hro 9 (by decide))
    have hji : j ≠ i := by
      intro e
      rw [e, ht] at f1; cases f1
    refine ⟨_, m2, e2, d2.good, d2.fuse, d2.same.secret.trans hs1, hi, ?_⟩
    rw [d2.st]
    show ((m1.st.T.set i none).set j _) i = none
    rw [tset_other _ _ (fun e => hji e.symm), tset_same]
  · have hof : m1.st.T.ofUser 5 = 1 := by rw [hT1]; exact oneTab_ofUser (x := ⟨5, 0, 0, []⟩) hi
    obtain ⟨m2, e2, d2⟩ := logoutAll_calm d1.good d1.fuse (u := 5) (by decide) (by rw [hof]; decide) (hro 2 (by decide))
    rw [hof] at e2
    refine ⟨m2, e2, d2.good, d2.fuse, d2.same.secret.trans hs1, hi, ?_⟩
    rw [d2.st]
    show (match m1.st.T i with | some x => if x.user = 5 then none else some x | none => none) = none
    rw [ht]; rfl
  · obtain ⟨e, g⟩ := d1.good.tick (n := 20) (by decide) (by rw [hn1]; decide)
    have hidle : m1.idle = 20 := d1.same.idle.trans b.idle
    have hf1 := d1.fuse
    generalize hm2 : ({ m1 with now := m1.now + (20 : Int).toNat } : Kp) = m2 at *
    have h1 : m2.fuse = 0 := by rw [← hm2]; exact hf1
    have h2 : m2.secret = topSecret := by rw [← hm2]; exact hs1
    have h3 : m2.st = m1.st := by rw [← hm2]
    have h4 : m2.now = 20 := by rw [← hm2]; show m1.now + 20 = 20; omega
    have h5 : m2.disk = m1.disk := by rw [← hm2]
    have h6 : m2.idle = 20 := by rw [← hm2]; exact hidle
    have hp2 : passOf m2.secret (passL topSecret i) = some i := by rw [h2]; exact passOf_pass _ _ hi
    have ht2 : m2.st.T i = some ⟨5, 0, 0, []⟩ := by rw [h3]; exact ht
    have ho2 : m2.over ⟨5, 0, 0, []⟩ = true := by
      unfold Kp.over
      rw [h4, h6]; rfl
    obtain ⟨m3, e3, d3⟩ := touch_over g h1 hp2 ht2 ho2 (by have := hro 3 (by decide); unfold roomFor at this ⊢; rw [h3, h5]; exact this)
    exact ⟨m2, m3, e, e3, d3.good, d3.fuse, d3.same.secret.trans h2, hi, by rw [d3.st]; exact tset_same _ _ _⟩
theorem ended_act {m : Kp} {id : Nat} (h : Ended m id) (v : Nat) (ps : List Bs) : (actK m v ps).1 = passL topSecret id ∨ Ended (actK m v ps).2.2 id := by
  rcases act_gone h.good h.fuse h.gone v ps with e | e
  · left; rw [e, h.secret]
  · right
    rcases act_out h.good v ps with o | o
    · exact absurd h.fuse o.2.1
    · exact ⟨o.2.1, o.2.2.fuse h.fuse, o.2.2.secret.trans h.secret, h.i4, e⟩
theorem ended_again {m : Kp} {id : Nat} (h : Ended m id) (c : Int) (keep torn part : Int) : ∃ m', openK (m.left keep torn part) (confK c false) = (0, some m') ∧ Ended m' id := by
  obtain ⟨m', e, g, s, a1, _, _, _, _, a6⟩ := reopen h.good (conf_ok c false) keep torn part
  exact ⟨m', e, g, a6, a1, h.i4, by rw [s]; exact h.gone⟩
end Go.Proofs.YtmnajomkfnkmeaaGreatDoor
namespace Go.Proofs.YtmnajomkfnkmeaaGreatDoor
/-! ### Reopened, Survives -/
structure Steady (m : Kp) : Prop where
  good : Good m
  secret : m.secret = topSecret
  now : m.now = 0
  idle : m.idle = 1000000000
  abs : m.abs = 1000000000
theorem Steady.over {m : Kp} (h : Steady m) (x : Sess) : m.over x = false := over_zero h.now (by rw [h.idle]; decide) (by rw [h.abs]; decide) x
theorem Steady.of_same {m m' : Kp} (h : Steady m) (g : Good m') (s : Same m m') : Steady m' := ⟨g, s.secret.trans h.secret, s.now.trans h.now, s.idle.trans h.idle, s.abs.trans h.abs⟩
theorem steady_get {m m' : Kp} (h : Steady m) (h' : Steady m') (ht : m'.st.T = m.st.T) (p a : Bs) : m'.get p a = m.get p a :=
  get_same h.good h'.good (h'.secret.trans h.secret.symm) (h'.idle.trans h.idle.symm) (h'.abs.trans h.abs.symm) (h'.now.trans h.now.symm) ht p a
theorem steady_live {m m' : Kp} (h : Steady m) (h' : Steady m') (ht : m'.st.T = m.st.T) : m'.live = m.live ∧ m.live = (m.st.T.live, 0) := by
  unfold Kp.live
  rw [h.good.up, h'.good.up, ht]
  exact ⟨rfl, rfl⟩
/-- a step: it goes well, or the power goes -/
theorem steady_act {m : Kp} (h : Steady m) (v : Nat) (ps : List Bs) :
    ((actK m v ps).2.1 = 4 ∧ m.fuse ≠ 0 ∧ Lost m.disk m.st (actK m v ps).2.2) ∨
    (((actK m v ps).2.1 = 0 ∨ (actK m v ps).2.1 = 5 ∨ (actK m v ps).2.1 = 6 ∨ (actK m v ps).2.1 = 8 ∨ (actK m v ps).2.1 = 9) ∧ Steady (actK m v ps).2.2 ∧ (m.fuse = 0 → (actK m v ps).2.2.fuse = 0)) := by
  rcases act_out h.good v ps with o | o
  · exact Or.inl o
  · right
    refine ⟨?_, h.of_same o.2.1 o.2.2, o.2.2.fuse⟩
    have := act_mild h.good h.over v ps
    unfold mild at this
    have hn := o.1
    omega
theorem steady_compact {m : Kp} (h : Steady m) (hz : m.fuse = 0) : (m.compact.1 = 0 ∨ m.compact.1 = 9) ∧ Steady m.compact.2 ∧ m.compact.2.fuse = 0 ∧ m.compact.2.st.T = m.st.T := by
  obtain ⟨ho, h0, h9, _⟩ := compact_out h.good
  rcases ho with o | o
  · exact absurd hz o.2.1
  · by_cases e : m.compact.1 = 0
    · exact ⟨Or.inl e, h.of_same o.2.1 o.2.2, o.2.2.fuse hz, h0 e⟩
    · have := h9 e o.1
      exact ⟨Or.inr this.1, h.of_same o.2.1 o.2.2, o.2.2.fuse hz, by rw [this.2]⟩
theorem steady_open {d : Bs} {st : St} (c : Int) (hs : okSize d.length) (hr : readD d = some st) : ∃ m', openK d (confK c true) = (0, some m') ∧ Steady m' ∧ m'.fuse = 0 ∧ m'.st = st := by
  obtain ⟨m', e, g, s, a1, a2, a3, a4, a5, a6⟩ := open_good (conf_ok c true) hs hr
  exact ⟨m', e, ⟨g, a1, a4, a2, a3⟩, a6, s⟩
theorem steady_again {m : Kp} (h : Steady m) (c keep torn part : Int) : ∃ m', openK (m.left keep torn part) (confK c true) = (0, some m') ∧ Steady m' ∧ m'.fuse = 0 ∧ m'.st.T = m.st.T := by
  rw [left_up h.good]
  obtain ⟨m', e, s, f, t⟩ := steady_open c h.good.holds.size h.good.holds.read
  exact ⟨m', e, s, f, by rw [t]⟩
/-- a login on any keeper that is up and stays so -/
theorem steady_login {m : Kp} (h : Steady m) (hz : m.fuse = 0) (u : Nat) (hu : 1 ≤ u ∧ u ≤ 99) : ((m.login (u : Int)).2.1 = 0 ∧ (m.login (u : Int)).1 ≠ []) ∨ (m.login (u : Int)).2.1 = 8 ∨ (m.login (u : Int)).2.1 = 9 := by
  unfold Kp.login
  rw [if_neg (by rw [h.good.up]; decide), if_neg (by omega)]
  split
  · exact Or.inr (Or.inl rfl)
  · rename_i hlv
    split
    · exact Or.inr (Or.inl rfl)
    · rename_i to m1 hd
      obtain ⟨f1, f2, f3, f4, f5⟩ := drew_free hd
      have hm1 := drew_eq hd
      subst hm1
      rw [Int.toNat_natCast]
      rcases h.good.drew.calm (c := .L to u m.now) hz ⟨f2, hu.1, hu.2, h.good.now⟩ (by show ((m.st.T to).isNone && decide (m.st.T.live < 12)) = true; rw [f1, decide_eq_true (by omega)]; rfl) with ⟨_, e⟩ | ⟨_, e, _⟩
      · rw [e]; exact Or.inr (Or.inr rfl)
      · rw [e]; exact Or.inl ⟨rfl, by simp [passL, passF]⟩
/-- THE TOP PROMISE, at one step -/
theorem steady_lost {m m' : Kp} (h : Steady m) (hl : Lost m.disk m.st m') (c keep torn part : Int)
    (hf : ¬ forgedB (m'.left keep torn part) m.disk (m'.left (-1) (-1) 0)) (hh : headsOf (m'.left keep torn part) m.disk (m'.left (-1) (-1) 0)) :
    ∃ x w, openK (m'.left keep torn part) (confK c true) = (0, some x) ∧ openK (m'.left (-1) (-1) 0) (confK c true) = (0, some w) ∧ Steady x ∧ Steady w ∧ x.fuse = 0 ∧ w.fuse = 0 ∧ (x.st.T = m.st.T ∨ x.st.T = w.st.T) := by
  obtain ⟨l1, l2, l3⟩ := hl.left keep torn part
  obtain ⟨s1, s2, e1, e2, e3⟩ := l3 hf hh
  have hs := h.good.holds.size
  obtain ⟨x, x1, x2, x3, x4⟩ := steady_open c (by rw [l1]; exact hs) e1
  obtain ⟨w, w1, w2, w3, w4⟩ := steady_open c (by rw [l2]; exact hs) e2
  exact ⟨x, w, x1, w1, x2, w2, x3, w3, by rw [x4, w4]; exact e3⟩
theorem survives_start (c : Int) (n : Nat) (h0 : 12 ≤ n) (h1 : n ≤ 200) : ∃ m0 m1 i, openK (blankB n) (confK c true) = (0, some m0) ∧ m0.login 1 = (passL topSecret i, 0, m1) ∧ Steady m1 ∧ m1.fuse = 0 ∧ i < 4096 ∧ m1.st = ⟨1, 0, 0, 29, 2, oneTab i ⟨1, 0, 0, []⟩⟩ ∧ m1.disk.length = 32 * n := by
  obtain ⟨m0, e0, b⟩ := kbegun c true n h0 h1
  have hh : 160 ≤ halfN m0.disk.length := by rw [b.len, half_at]; omega
  obtain ⟨m1, e1, d1, dr1⟩ := first_login b.good b.fuse b.st (by omega) (u := 1) (by decide)
  rw [b.secret] at e1
  rw [b.now] at d1
  exact ⟨m0, m1, _, e0, e1, ⟨d1.good, d1.same.secret.trans b.secret, d1.same.now.trans b.now, d1.same.idle.trans b.idle, d1.same.abs.trans b.abs⟩, d1.fuse, Nat.mod_lt _ (by decide), d1.st, by rw [d1.len]; exact b.len⟩
theorem steady_arm {m : Kp} (h : Steady m) (n : Int) : Steady (m.arm n) ∧ (m.arm n).st = m.st ∧ (m.arm n).disk = m.disk := by
  obtain ⟨g, a1, a2, a3, a4, a5, a6⟩ := h.good.arm n
  exact ⟨⟨g, a2.trans h.secret, a5.trans h.now, a3.trans h.idle, a4.trans h.abs⟩, a1, a6⟩
theorem reopened_start (c : Int) : ∃ m0 m1 m2 i, openK (blankB 60) (confK c true) = (0, some m0) ∧ m0.login 1 = (passL topSecret i, 0, m1) ∧ m1.set (passL topSecret i) [97] [120] = (0, m2) ∧ m2.get (passL topSecret i) [97] = ([120], 0) ∧ Steady m2 ∧ m2.fuse = 0 := by
  obtain ⟨m0, m1, i, e0, e1, s1, f1, hi, hst, hlen⟩ := survives_start c 60 (by decide) (by decide)
  have hp : passOf m1.secret (passL topSecret i) = some i := by rw [s1.secret]; exact passOf_pass _ _ hi
  have ht : m1.st.T i = some ⟨1, 0, 0, []⟩ := by rw [hst]; exact oneTab_at _ _
  obtain ⟨m2, e2, d2, _⟩ := set_calm s1.good f1 (a := [97]) (b := [120]) hp ht (s1.over _) (by simp) rfl (by
    unfold roomFor
    rw [hst, hlen]
    exact ⟨(by show 29 + 11 + 10 ≤ halfN (32 * 60); decide), (by show 2 ≤ 65535; decide)⟩)
  have s2 := s1.of_same d2.good d2.same
  have ht2 : m2.st.T i = some ⟨1, 0, m1.now, [([97], [120])]⟩ := by
    rw [d2.st]
    show (m1.st.T.set i ((m1.st.T i).map _)) i = _
    rw [tset_same, ht]; rfl
  refine ⟨m0, m1, m2, i, e0, e1, e2, ?_, s2, d2.fuse⟩
  have hf := find_live s2.good (p := passL topSecret i) (by rw [s2.secret]; exact passOf_pass _ _ hi) ht2
  rw [s2.over, if_neg (by decide)] at hf
  unfold Kp.get
  rw [hf]
  simp only [ht2]
  rfl
end Go.Proofs.YtmnajomkfnkmeaaGreatDoor
namespace Go.Proofs.YtmnajomkfnkmeaaGreatDoor
/-! ### the document's examples -/
def cfgS : Cfg := ⟨[115], 0, 10, 100, 0⟩
theorem cfgS_ok : cfgS.ok = true := rfl
theorem known_front : (passL [115] 0).take 5 = [118, 49, 48, 48, 48] ∧ (passL [115] 4095).take 5 = [118, 49, 102, 102, 102] ∧ (passL [115] 74).take 5 = [118, 49, 48, 52, 97] ∧ (passL [115] 1528).take 5 = [118, 49, 53, 102, 56] := ⟨rfl, rfl, rfl, rfl⟩
theorem known_blank : ((blankB 12).drop 64).take 9 = [1, 0, 1, 0, 0, 0, 0, 0, 0] ∧ ((blankB 12).drop 75).take 85 = zeros 85 := by
  have e4 : (blankB 12).drop 64 = recB 1 0 [0] ++ zeros (32 * 12 - 75) := by
    unfold blankB
    rw [List.append_assoc, List.drop_append_of_le_length (by simp [sectB_length, zeros_length]), List.drop_of_length_le (by simp [sectB_length, zeros_length]), List.nil_append]
  constructor
  · rw [e4]; rfl
  · rw [show 75 = 64 + 11 from rfl, ← List.drop_drop, e4]; rfl
theorem known_start : ∃ m0, openK (blankB 12) cfgS = (0, some m0) ∧ Good m0 ∧ m0.st = ⟨1, 0, 0, 11, 1, noTab⟩ ∧ m0.secret = [115] ∧ m0.idle = 10 ∧ m0.abs = 100 ∧ m0.now = 0 ∧ m0.drawn = 0 ∧ m0.fuse = 0 ∧ m0.disk.length = 384 :=
  fresh_good 12 (by decide) (by decide) cfgS_ok
theorem known_two : ∃ m0 m1 m2 m3 m4 m5 m6, openK (blankB 12) cfgS = (0, some m0) ∧ m0.login 1 = (passL [115] 74, 0, m1) ∧ m1.login 1 = (passL [115] 1528, 0, m2) ∧
    m2.tick 9 = (0, m3) ∧ m3.touch (passL [115] 74) = (0, m4) ∧ m4.tick 10 = (0, m5) ∧ m5.touch (passL [115] 74) = (7, m6) ∧ m6.touch (passL [115] 74) = (6, m6) := by
  obtain ⟨m0, e0, g0, s0, c1, c2, c3, c4, c5, c6, c7⟩ := known_start
  obtain ⟨m1, e1, d1, dr1⟩ := first_login g0 c6 s0 (by rw [c7]; decide) (u := 1) (by decide)
  rw [c5, c1] at e1
  rw [c5, c4] at d1
  rw [c5] at dr1
  have hT1 : m1.st.T = oneTab 74 ⟨1, 0, 0, []⟩ := by rw [d1.st]; rfl
  have hd : drawN 8 m1.drawn m1.st.T = (some 1528, 5624) := by
    rw [dr1, hT1]
    have : (oneTab 74 ⟨1, 0, 0, []⟩) 1528 = none := oneTab_other (by decide)
    unfold drawN
    rw [show drawX (drawX 0) = 5624 from rfl, show 5624 % 4096 = 1528 from rfl, this]
    rfl
  have hl1 : halfN m1.disk.length = 160 := by rw [d1.len, c7]; rfl
  obtain ⟨m2, e2, d2, _, _, _⟩ := login_calm d1.good d1.fuse (u := 1) (by decide) (by rw [hT1, oneTab_live (by decide)]; decide) hd (by unfold roomFor; rw [d1.st, hl1]; exact ⟨(by show 29 + 8 + 10 ≤ 160; decide), (by show 2 ≤ 65535; decide)⟩)
  have hs1 : m1.secret = [115] := d1.same.secret.trans c1
  have hn1 : m1.now = 0 := d1.same.now.trans c4
  rw [hs1] at e2
  have hs2 : m2.secret = [115] := d2.same.secret.trans hs1
  have hn2 : m2.now = 0 := d2.same.now.trans hn1
  have hi2 : m2.idle = 10 := d2.same.idle.trans (d1.same.idle.trans c2)
  have ha2 : m2.abs = 100 := d2.same.abs.trans (d1.same.abs.trans c3)
  have hT2 : m2.st.T 74 = some ⟨1, 0, 0, []⟩ := by
    rw [d2.st]
    show (m1.st.T.set 1528 (some ⟨1, m1.now, m1.now, []⟩)) 74 = _
    rw [tset_other m1.st.T (some ⟨1, m1.now, m1.now, []⟩) (i := 1528) (j := 74) (by decide), hT1]; exact oneTab_at _ _
  have hst2 : m2.st.endp = 47 ∧ m2.st.next = 3 := by rw [d2.st, d1.st]; exact ⟨rfl, rfl⟩
  have hl2 : halfN m2.disk.length = 160 := by rw [d2.len]; exact hl1
  have hf2 := d2.fuse
  obtain ⟨t3, g3⟩ := d2.good.tick (n := 9) (by decide) (by rw [hn2]; decide)
  refine ⟨m0, m1, m2, { m2 with now := m2.now + (9 : Int).toNat }, ?_⟩
  generalize hm3 : ({ m2 with now := m2.now + (9 : Int).toNat } : Kp) = m3 at *
  have q1 : m3.fuse = 0 := by rw [← hm3]; exact hf2
  have q2 : m3.secret = [115] := by rw [← hm3]; exact hs2
  have q3 : m3.st = m2.st := by rw [← hm3]
  have q4 : m3.now = 9 := by rw [← hm3]; show m2.now + 9 = 9; omega
  have q5 : m3.disk = m2.disk := by rw [← hm3]
  have q6 : m3.idle = 10 := by rw [← hm3]; exact hi2
  have q7 : m3.abs = 100 := by rw [← hm3]; exact ha2
  have p3 : passOf m3.secret (passL [115] 74) = some 74 := by rw [q2]; exact passOf_pass _ _ (by decide)
  have ht3 : m3.st.T 74 = some ⟨1, 0, 0, []⟩ := by rw [q3]; exact hT2
  obtain ⟨m4, e4, d4, _⟩ := touch_calm g3 q1 p3 ht3 (by unfold Kp.over; rw [q4, q6, q7]; rfl) (by unfold roomFor; rw [q3, q5, hl2, hst2.1, hst2.2]; decide)
  have r1 : m4.secret = [115] := d4.same.secret.trans q2
  have r4 : m4.now = 9 := d4.same.now.trans q4
  have r6 : m4.idle = 10 := d4.same.idle.trans q6
  have r7 : m4.abs = 100 := d4.same.abs.trans q7
  have ht4 : m4.st.T 74 = some ⟨1, 0, 9, []⟩ := by
    rw [d4.st]
    show (m3.st.T.set 74 ((m3.st.T 74).map _)) 74 = _
    rw [tset_same, ht3, q4]; rfl
  have hst4 : m4.st.endp = 64 ∧ m4.st.next = 4 := by
    rw [d4.st, q3]
    constructor
    · show m2.st.endp + (chgB (.T 74 m3.now)).length + 10 = 64
      rw [hst2.1]; rfl
    · show m2.st.next + 1 = 4
      rw [hst2.2]
  have hl4 : halfN m4.disk.length = 160 := by rw [d4.len, q5]; exact hl2
  have hf4 := d4.fuse
  obtain ⟨t5, g5⟩ := d4.good.tick (n := 10) (by decide) (by rw [r4]; decide)
  refine ⟨m4, { m4 with now := m4.now + (10 : Int).toNat }, ?_⟩
  generalize hm5 : ({ m4 with now := m4.now + (10 : Int).toNat } : Kp) = m5 at *
  have u1 : m5.fuse = 0 := by rw [← hm5]; exact hf4
  have u2 : m5.secret = [115] := by rw [← hm5]; exact r1
  have u3 : m5.st = m4.st := by rw [← hm5]
  have u4 : m5.now = 19 := by rw [← hm5]; show m4.now + 10 = 19; omega
  have u5 : m5.disk = m4.disk := by rw [← hm5]
  have u6 : m5.idle = 10 := by rw [← hm5]; exact r6
  have u7 : m5.abs = 100 := by rw [← hm5]; exact r7
  have p5 : passOf m5.secret (passL [115] 74) = some 74 := by rw [u2]; exact passOf_pass _ _ (by decide)
  have ht5 : m5.st.T 74 = some ⟨1, 0, 9, []⟩ := by rw [u3]; exact ht4
  obtain ⟨m6, e6, d6⟩ := touch_over g5 u1 p5 ht5 (by unfold Kp.over; rw [u4, u6, u7]; rfl) (by unfold roomFor; rw [u3, u5, hl4, hst4.1, hst4.2]; decide)
  refine ⟨m6, e0, e1, e2, t3, e4, t5, e6, ?_⟩
  have ht6 : m6.st.T 74 = none := by rw [d6.st]; exact tset_same m5.st.T 74 none
  have hs6 : m6.secret = [115] := d6.same.secret.trans u2
  have := (dead_calls d6.good (by decide) ht6 [97] [] (by simp)).1
  rw [hs6] at this
  exact this
theorem clean_part {d x : Bs} {st : St} {c : Chg} (h : Fits d st c) (hm : mixed x d (withRec d st c)) : cleanD x st = d := by
  have hb := h.holds.bounds
  have hrb := regAt_le h.holds.size hb.2.2.1
  have hr := h.room
  have hcl : cleanD x st = laidB x (regAt d.length st.reg + st.endp) (zeros (halfN d.length - st.endp)) := by
    unfold cleanD laidB
    rw [zeros_length, hm.1, show regAt d.length st.reg + st.endp + (halfN d.length - st.endp) = regAt d.length st.reg + halfN d.length by omega]
  rw [hcl]
  apply List.ext_getElem?
  intro i
  have hout : ¬ (regAt d.length st.reg + st.endp ≤ i ∧ i < regAt d.length st.reg + halfN d.length) → x[i]? = d[i]? := by
    intro hn
    rcases hm.2 i with e | e
    · exact e
    · rw [e]
      unfold withRec
      rw [laidB_get (by rw [recB_length]; omega), recB_length]
      split
      · rfl
      · rw [if_neg (by omega)]
  rw [laidB_get (by rw [zeros_length, hm.1]; omega), zeros_length]
  split
  · exact hout (by omega)
  · split
    · unfold zeros
      rw [List.getElem?_replicate, if_pos (by omega)]
      have := h.holds.zero (i - regAt d.length st.reg) (by omega) (by omega)
      rw [region_get, if_pos (by omega), show regAt d.length st.reg + (i - regAt d.length st.reg) = i by omega] at this
      exact this.symm
    · exact hout (by omega)
theorem Holds.clean {d : Bs} {st : St} (h : Holds d st) : cleanD d st = d := by
  have hb := h.bounds
  have hrb := regAt_le h.size hb.2.2.1
  have hcl : cleanD d st = laidB d (regAt d.length st.reg + st.endp) (zeros (halfN d.length - st.endp)) := by
    unfold cleanD laidB
    rw [zeros_length, show regAt d.length st.reg + st.endp + (halfN d.length - st.endp) = regAt d.length st.reg + halfN d.length by omega]
  rw [hcl]
  apply List.ext_getElem?
  intro i
  rw [laidB_get (by rw [zeros_length]; omega), zeros_length]
  split
  · rfl
  · split
    · unfold zeros
      rw [List.getElem?_replicate, if_pos (by omega)]
      have := h.zero (i - regAt d.length st.reg) (by omega) (by omega)
      rw [region_get, if_pos (by omega), show regAt d.length st.reg + (i - regAt d.length st.reg) = i by omega] at this
      exact this.symm
    · rfl
def recX : Bs := recB 1 1 (chgB (.L 74 1 0))
theorem known_arm : ∃ m0 m1 m2, openK (blankB 12) cfgS = (0, some m0) ∧ m0.arm 2 = m1 ∧ m1.left (-1) (-1) 0 = m0.disk ∧ m1.login 1 = ([], 4, m2) ∧ m2.left 0 (-1) 0 = m0.disk ∧
    m2.left 0 0 20 ≠ m0.disk ∧ m2.left 0 0 20 ≠ m2.left 1 (-1) 0 ∧
    (∃ a b, openK (m2.left 1 (-1) 0) cfgS = (0, some a) ∧ openK (m2.left 0 0 20) cfgS = (0, some b) ∧ a.live = (1, 0) ∧ b.live = (0, 0) ∧ b.left 0 0 0 = m0.disk) := by
  obtain ⟨m0, e0, g0, s0, c1, c2, c3, c4, c5, c6, c7⟩ := known_start
  have hup := g0.up
  have hway := g0.way
  have hT0 : m0.st.T = noTab := by rw [s0]
  have hl0 : noTab.live = 0 := by
    unfold Tab.live
    rw [List.countP_eq_zero]
    intro a _ h; cases h
  have hhalf : halfN m0.disk.length = 160 := by rw [c7]; rfl
  have hreg : regAt m0.disk.length m0.st.reg + m0.st.endp = 75 := by rw [c7, s0]; rfl
  have hfit : Fits m0.disk m0.st (.L 74 1 0) := ⟨g0.holds, by simp [Chg.ok], (by
    show ((m0.st.T 74).isNone && decide (m0.st.T.live < 12)) = true
    rw [hT0, hl0]; rfl), (by rw [hhalf, s0]; show 11 + 8 + 10 ≤ 160; decide)⟩
  have hwr : withRec m0.disk m0.st (.L 74 1 0) = laidB m0.disk 75 recX := by unfold withRec; rw [hreg, s0]; rfl
  have hrl : recX.length = 18 := by unfold recX; rw [recB_length]; rfl
  have hsl : (laidB m0.disk 75 recX).length = 384 := by rw [laidB_length (by omega)]; exact c7
  -- the way
  have hm2 : ({ m0 with fuse := 2 } : Kp).login 1 = ([], 4, { m0 with drawn := 74, fuse := 0, down := true, way := [slice (laidB m0.disk 75 recX) 64] }) := by
    have hd : ({ m0 with fuse := 2 } : Kp).draw = (some 74, { m0 with fuse := 2, drawn := 74 }) := by
      unfold Kp.draw
      show ((drawN 8 m0.drawn m0.st.T).1, _) = _
      have : drawN 8 m0.drawn m0.st.T = (some 74, 74) := by
        rw [c5, hT0]; unfold drawN; rw [if_pos (show (noTab (drawX 0 % 4096)).isNone = true from rfl)]; rfl
      rw [this]
    have hno : ({ m0 with fuse := 2, drawn := 74 } : Kp).full (.L 74 1 0) = false := by
      unfold Kp.full
      show (decide (halfN m0.disk.length < m0.st.endp + 8 + 10) || decide (65535 < m0.st.next)) = false
      rw [hhalf, s0]; rfl
    have hof : offs 75 recX.length = [64] := by rw [hrl]; rfl
    have hch : ({ m0 with fuse := 2, drawn := 74 } : Kp).change (.L 74 1 0) = (4, { m0 with drawn := 74, fuse := 0, down := true, way := [slice (laidB m0.disk 75 recX) 64] }) := by
      have hw : ({ m0 with fuse := 2, drawn := 74 } : Kp).writes 75 recX = (false, { m0 with drawn := 74, fuse := 0, down := true, way := [slice (laidB m0.disk 75 recX) 64] }) := by
        unfold Kp.writes
        rw [hof]
        simp only [Kp.puts, Kp.step, Kp.flush, hway, List.nil_append]
        rfl
      unfold Kp.change
      rw [if_neg (by rw [hno]; decide)]
      show (if (({ m0 with fuse := 2, drawn := 74 } : Kp).writes (regAt m0.disk.length m0.st.reg + m0.st.endp) (recB m0.st.gen m0.st.next (chgB (.L 74 1 0)))).1 = true then _ else (4, (({ m0 with fuse := 2, drawn := 74 } : Kp).writes (regAt m0.disk.length m0.st.reg + m0.st.endp) (recB m0.st.gen m0.st.next (chgB (.L 74 1 0)))).2)) = _
      have : recB m0.st.gen m0.st.next (chgB (.L 74 1 0)) = recX := by rw [s0]; rfl
      rw [hreg, this, hw]; rfl
    unfold Kp.login
    rw [if_neg (by show ¬ m0.down = true; rw [hup]; decide), if_neg (by decide), if_neg (by show ¬ 12 ≤ m0.st.T.live; rw [hT0, hl0]; decide), hd]
    simp only
    have hch2 : ({ m0 with fuse := 2, drawn := 74 } : Kp).change (.L 74 1 m0.now) = (4, { m0 with drawn := 74, fuse := 0, down := true, way := [slice (laidB m0.disk 75 recX) 64] }) := (congrArg (fun t => ({ m0 with fuse := 2, drawn := 74 } : Kp).change (.L 74 1 t)) c4).trans hch
    have hif : ∀ (z : Nat × Kp) (M : Kp), z = (4, M) → (if z.1 = 0 then (passL m0.secret 74, 0, z.2) else (([] : Bs), z.1, z.2)) = ([], 4, M) := by
      rintro _ M rfl; rfl
    exact hif _ _ hch2
  have harm : m0.arm 2 = { m0 with fuse := 2 } := by unfold Kp.arm; rw [if_neg (by rw [hup]; decide)]; rfl
  have hs64 : (slice (laidB m0.disk 75 recX) 64).2.length = 32 := by
    show (((laidB m0.disk 75 recX).drop 64).take 32).length = 32
    rw [List.length_take, List.length_drop, hsl]; decide
  -- what is left
  have hall : laidB m0.disk 64 (slice (laidB m0.disk 75 recX) 64).2 = laidB m0.disk 75 recX := by
    apply List.ext_getElem?
    intro i
    rw [laidB_get (by omega), hs64]
    split
    · rw [laidB_get (by omega), if_pos (by omega)]
    · split
      · show (((laidB m0.disk 75 recX).drop 64).take 32)[i - 64]? = _
        rw [List.getElem?_take, if_pos (by omega), List.getElem?_drop, show 64 + (i - 64) = i by omega]
      · rw [laidB_get (by omega), if_neg (by omega), if_neg (by rw [hrl]; omega)]
  have hpl : ((slice (laidB m0.disk 75 recX) 64).2.take 20).length = 20 := by rw [List.length_take, hs64]; rfl
  have hhg : ∀ i : Nat, (laidB m0.disk 64 ((slice (laidB m0.disk 75 recX) 64).2.take 20))[i]? = if 64 ≤ i ∧ i < 84 then (laidB m0.disk 75 recX)[i]? else m0.disk[i]? := by
    intro i
    rw [laidB_get (by omega), hpl]
    by_cases h1 : i < 64
    · rw [if_pos h1, if_neg (by omega)]
    · by_cases h2 : i < 84
      · rw [if_neg h1, if_pos (by omega), if_pos (by omega)]
        show ((((laidB m0.disk 75 recX).drop 64).take 32).take 20)[i - 64]? = _
        rw [List.getElem?_take, if_pos (by omega), List.getElem?_take, if_pos (by omega), List.getElem?_drop, show 64 + (i - 64) = i by omega]
      · rw [if_neg h1, if_neg (by omega), if_neg (by omega)]
  have hrg : ∀ i : Nat, (laidB m0.disk 75 recX)[i]? = if i < 75 then m0.disk[i]? else if i < 93 then recX[i - 75]? else m0.disk[i]? := by
    intro i
    rw [laidB_get (by omega), hrl]
  have hz : ∀ i, 75 ≤ i → i < 224 → m0.disk[i]? = some 0 := by
    intro i h1 h2
    have := g0.holds.zero (i - 64) (by rw [s0]; show 11 ≤ i - 64; omega) (by rw [hhalf]; omega)
    rw [region_get, if_pos (by rw [hhalf]; omega), c7, s0] at this
    have hi : regAt 384 (St.reg ⟨1, 0, 0, 11, 1, noTab⟩) + (i - 64) = i := by
      show 64 + halfN 384 * 0 + (i - 64) = i
      omega
    rw [hi] at this
    exact this
  have hleft : ∀ k t p, ({ m0 with drawn := 74, fuse := 0, down := true, way := [slice (laidB m0.disk 75 recX) 64] } : Kp).left k t p = leftAux k t p 0 m0.disk [slice (laidB m0.disk 75 recX) 64] := fun _ _ _ => rfl
  have hL1 : leftAux 1 (-1) 0 0 m0.disk [slice (laidB m0.disk 75 recX) 64] = laidB m0.disk 75 recX := by
    rw [leftAux_cons, if_neg (by decide), if_pos (by decide)]; exact hall
  have hLh : leftAux 0 0 20 0 m0.disk [slice (laidB m0.disk 75 recX) 64] = laidB m0.disk 64 ((slice (laidB m0.disk 75 recX) 64).2.take 20) := by
    rw [leftAux_cons, if_pos (by decide)]; rfl
  have hL0 : leftAux 0 (-1) 0 0 m0.disk [slice (laidB m0.disk 75 recX) 64] = m0.disk := by
    rw [leftAux_cons, if_neg (by decide), if_neg (by decide)]; rfl
  refine ⟨m0, _, _, e0, harm, ?_, hm2, ?_, ?_, ?_, ?_⟩
  · unfold Kp.left
    show leftAux _ _ _ 0 m0.disk m0.way = _
    rw [hway]; rfl
  · rw [hleft]; exact hL0
  · rw [hleft, hLh]
    intro e
    have := congrArg (fun l => l[75]?) e
    simp only [hhg, hrg] at this
    rw [hz 75 (by decide) (by decide)] at this
    revert this
    decide
  · rw [hleft, hleft, hLh, hL1]
    intro e
    have := congrArg (fun l => l[84]?) e
    simp only [hhg, hrg] at this
    rw [hz 84 (by decide) (by decide)] at this
    revert this
    decide
  · rw [hleft, hleft, hLh, hL1]
    have hmix : mixed (laidB m0.disk 64 ((slice (laidB m0.disk 75 recX) 64).2.take 20)) m0.disk (withRec m0.disk m0.st (.L 74 1 0)) := by
      refine ⟨laidB_length (by omega), fun i => ?_⟩
      rw [hhg, hwr]
      split
      · exact Or.inr rfl
      · exact Or.inl rfl
    have hcha := g0.holds.change hfit.ok hfit.allows hfit.room
    have hread : readD (laidB m0.disk 75 recX) = some (m0.st.does (.L 74 1 0)) := by
      rw [← hwr]; exact hcha.read
    have hsz : okSize (laidB m0.disk 75 recX).length := by rw [hsl]; exact ⟨by decide, by decide, by decide⟩
    obtain ⟨a, a1, a2, a3, _⟩ := open_good cfgS_ok hsz hread
    have hreadh : readD (laidB m0.disk 64 ((slice (laidB m0.disk 75 recX) 64).2.take 20)) = some m0.st := by
      refine hfit.read_none hmix ?_
      have hE : ((regionB (laidB m0.disk 64 ((slice (laidB m0.disk 75 recX) 64).2.take 20)) m0.st.reg).drop m0.st.endp).take 18 = recX.take 9 ++ zeros 9 := by
        rw [region_slice hmix.1 (by rw [hhalf, s0]; decide), hreg]
        apply List.ext_getElem?
        intro i
        rw [List.getElem?_take, List.getElem?_append, List.length_take, hrl]
        split
        · rw [List.getElem?_drop, hhg, hrg]
          by_cases h9 : i < 9
          · rw [if_pos (by omega), if_neg (by omega), if_pos (by omega), if_pos (by omega), List.getElem?_take, if_pos h9, show 75 + i - 75 = i by omega]
          · rw [if_neg (by omega), if_neg (by omega), hz _ (by omega) (by omega)]
            unfold zeros
            rw [List.getElem?_replicate, if_pos (by omega)]
        · rw [if_neg (by omega)]
          unfold zeros
          rw [List.getElem?_replicate, if_neg (by omega)]
      rw [show m0.st.gen = 1 by rw [s0], show m0.st.next = 1 by rw [s0]]
      rw [← List.take_append_drop 18 ((regionB (laidB m0.disk 64 ((slice (laidB m0.disk 75 recX) 64).2.take 20)) m0.st.reg).drop m0.st.endp), hE]
      generalize ((regionB (laidB m0.disk 64 ((slice (laidB m0.disk 75 recX) 64).2.take 20)) m0.st.reg).drop m0.st.endp).drop 18 = rest
      unfold firstB
      rw [if_neg]
      rintro ⟨_, h⟩
      have h2 : recX.take 9 ++ zeros 9 = recB 1 1 [76, 0, 0, 0, 0, 0, 0, 0] := h
      revert h2
      decide
    have hszh : okSize (laidB m0.disk 64 ((slice (laidB m0.disk 75 recX) 64).2.take 20)).length := by rw [hmix.1, c7]; exact ⟨by decide, by decide, by decide⟩
    obtain ⟨b, b1, b2, b3, _⟩ := open_good cfgS_ok hszh hreadh
    refine ⟨a, b, a1, b1, ?_, ?_, ?_⟩
    · unfold Kp.live
      rw [a2.up, a3]
      show ((m0.st.T.set 74 (some ⟨1, 0, 0, []⟩)).live, 0) = _
      have := oneTab_live (id := 74) (x := ⟨1, 0, 0, []⟩) (by decide)
      unfold oneTab at this
      rw [hT0, this]
    · unfold Kp.live
      rw [b2.up, b3, hT0, hl0]; rfl
    · rw [left_up b2]
      have hb := b1
      unfold openK at hb
      rw [if_neg (by rw [cfgS_ok]; decide), if_neg (fun h => h hszh), hreadh] at hb
      cases hb
      exact clean_part hfit hmix
end Go.Proofs.YtmnajomkfnkmeaaGreatDoor
namespace Go.Proofs.YtmnajomkfnkmeaaGreatDoor
/-! ### the drive as the code has it (plain mathematics) -/
structure Dv where
  stable : Bs
  written : Bs
  way : List Nat
  fuse : Nat
  down : Bool
def Dv.step (d : Dv) : Bool × Dv := if d.fuse = 0 then (!d.down, d) else (decide (d.fuse ≠ 1), { d with fuse := d.fuse - 1, down := decide (d.fuse = 1) })
def Dv.wrote (d : Dv) (s a : Nat) (t : Bs) : Dv := { d with written := laidB d.written a t, way := if s ∈ d.way then d.way else d.way ++ [s] }
def Dv.write (d : Dv) (s a : Nat) (t : Bs) : Bool × Dv := if d.down then (false, d) else (d.wrote s a t).step
def chunk (a n : Nat) : Nat := min (32 - a % 32) n
def Dv.puts : Nat → Dv → Nat → Bs → Bool × Dv
  | 0, d, _, _ => (true, d)
  | k + 1, d, a, t => if t.length = 0 then (true, d) else if (d.write (a / 32) a (t.take (chunk a t.length))).1 then Dv.puts k (d.write (a / 32) a (t.take (chunk a t.length))).2 (a + chunk a t.length) (t.drop (chunk a t.length)) else (false, (d.write (a / 32) a (t.take (chunk a t.length))).2)
def Dv.put (d : Dv) (a : Nat) (t : Bs) : Bool × Dv := Dv.puts t.length d a t
def syncB (wr : Bs) : List Nat → Bs → Bs
  | [], st => st
  | s :: ss, st => syncB wr ss (laidB st (32 * s) ((wr.drop (32 * s)).take 32))
def Dv.flush (d : Dv) : Bool × Dv := if d.step.1 then (true, { d.step.2 with stable := syncB d.written d.way d.stable, way := [] }) else (false, d.step.2)
def Dv.store (d : Dv) (a : Nat) (t : Bs) : Bool × Dv := if (d.put a t).1 then (d.put a t).2.flush else (false, (d.put a t).2)
def Dv.left (d : Dv) (keep torn part : Int) : Bs := leftAux keep torn part 0 d.stable (d.way.map fun s => slice d.written (32 * s))
def Dv.arm (d : Dv) (n : Int) : Dv := if d.down then d else { d with fuse := n.toNat }
/-- bounds -/
structure Dv.ok (d : Dv) : Prop where
  size : okSize d.stable.length
  wsize : d.written.length = d.stable.length
  way : ∀ s ∈ d.way, 32 * s + 32 ≤ d.stable.length
  nodup : d.way.Nodup
  fuse : d.down = true → d.fuse = 0
theorem Dv.step_same (d : Dv) : d.step.2 = { d with fuse := d.step.2.fuse, down := d.step.2.down } := by unfold Dv.step; split <;> rfl
theorem Dv.step_ok {d : Dv} (h : d.ok) : d.step.2.ok := by
  rw [Dv.step_same]
  refine ⟨h.size, h.wsize, h.way, h.nodup, ?_⟩
  show d.step.2.down = true → d.step.2.fuse = 0
  unfold Dv.step
  split
  · exact h.fuse
  · simp only [decide_eq_true_eq]; omega
theorem Dv.wrote_ok {d : Dv} (h : d.ok) {s a : Nat} {t : Bs} (hs : 32 * s + 32 ≤ d.stable.length) (ha : a + t.length ≤ d.stable.length) : (d.wrote s a t).ok := by
  refine ⟨h.size, ?_, ?_, ?_, h.fuse⟩
  · show (laidB d.written a t).length = d.stable.length
    rw [laidB_length (by rw [h.wsize]; exact ha)]; exact h.wsize
  · intro x hx
    show 32 * x + 32 ≤ d.stable.length
    unfold Dv.wrote at hx
    simp only at hx
    split at hx
    · exact h.way x hx
    · rcases List.mem_append.1 hx with hx | hx
      · exact h.way x hx
      · rw [List.mem_singleton.1 hx]; exact hs
  · unfold Dv.wrote
    simp only
    split
    · exact h.nodup
    · rename_i hn
      rw [List.nodup_append]
      exact ⟨h.nodup, by simp, fun x hx y hy => by rw [List.mem_singleton.1 hy]; exact fun e => hn (e ▸ hx)⟩
theorem Dv.write_ok {d : Dv} (h : d.ok) {s a : Nat} {t : Bs} (hs : 32 * s + 32 ≤ d.stable.length) (ha : a + t.length ≤ d.stable.length) : (d.write s a t).2.ok := by
  unfold Dv.write
  split
  · exact h
  · exact Dv.step_ok (Dv.wrote_ok h hs ha)
theorem Dv.write_stable (d : Dv) (s a : Nat) (t : Bs) : (d.write s a t).2.stable = d.stable := by
  unfold Dv.write
  split
  · rfl
  · rw [Dv.step_same]; rfl
theorem chunk_le (a n : Nat) : chunk a n ≤ n := by unfold chunk; omega
theorem chunk_pos {a n : Nat} (h : 0 < n) : 0 < chunk a n := by unfold chunk; omega
theorem chunk_in (a n : Nat) : a + chunk a n ≤ 32 * (a / 32) + 32 := by unfold chunk; omega
theorem Dv.puts_ok : ∀ (k : Nat) {d : Dv} {a : Nat} {t : Bs}, d.ok → a + t.length ≤ d.stable.length → (Dv.puts k d a t).2.ok ∧ (Dv.puts k d a t).2.stable = d.stable
  | 0, _, _, _, h, _ => ⟨h, rfl⟩
  | k + 1, d, a, t, h, ha => by
    unfold Dv.puts
    split
    · exact ⟨h, rfl⟩
    · rename_i hne
      have h32 : d.stable.length % 32 = 0 := h.size.1
      have hc := chunk_le a t.length
      have hw := Dv.write_ok h (s := a / 32) (a := a) (t := t.take (chunk a t.length)) (by omega) (by rw [List.length_take]; omega)
      have hst := Dv.write_stable d (a / 32) a (t.take (chunk a t.length))
      split
      · have := Dv.puts_ok k (a := a + chunk a t.length) (t := t.drop (chunk a t.length)) hw (by rw [hst, List.length_drop]; omega)
        exact ⟨this.1, this.2.trans hst⟩
      · exact ⟨hw, hst⟩
theorem Dv.put_ok {d : Dv} (h : d.ok) {a : Nat} {t : Bs} (ha : a + t.length ≤ d.stable.length) : (d.put a t).2.ok ∧ (d.put a t).2.stable = d.stable := Dv.puts_ok _ h ha
theorem syncB_length (wr : Bs) : ∀ (ss : List Nat) (st : Bs), wr.length = st.length → (∀ s ∈ ss, 32 * s + 32 ≤ st.length) → (syncB wr ss st).length = st.length
  | [], _, _, _ => rfl
  | s :: ss, st, hl, h => by
    unfold syncB
    have h1 := h s (by simp)
    have hx : ((wr.drop (32 * s)).take 32).length = 32 := by rw [List.length_take, List.length_drop]; omega
    have e : (laidB st (32 * s) ((wr.drop (32 * s)).take 32)).length = st.length := laidB_length (by rw [hx]; omega)
    rw [syncB_length wr ss _ (by rw [e]; exact hl) (fun x hx => by rw [e]; exact h x (by simp [hx])), e]
theorem Dv.flush_ok {d : Dv} (h : d.ok) : d.flush.2.ok ∧ d.flush.2.stable.length = d.stable.length := by
  unfold Dv.flush
  have hs := Dv.step_ok h
  have e := Dv.step_same d
  split
  · have hl := syncB_length d.written d.way d.stable h.wsize h.way
    refine ⟨⟨?_, ?_, ?_, List.nodup_nil, hs.fuse⟩, hl⟩
    · show okSize (syncB d.written d.way d.stable).length
      rw [hl]; exact h.size
    · show d.step.2.written.length = (syncB d.written d.way d.stable).length
      rw [e, hl]; exact h.wsize
    · intro x hx; cases hx
  · exact ⟨hs, by rw [e]⟩
/-! ### and as the keeper's -/
structure KD (m : Kp) (d : Dv) : Prop where
  stable : d.stable = m.disk
  fuse : d.fuse = m.fuse
  down : d.down = m.down
  way : m.way = d.way.map fun s => slice d.written (32 * s)
  rest : d.down = false → d.way = [] ∧ d.written = d.stable
theorem KD.left {m : Kp} {d : Dv} (h : KD m d) (keep torn part : Int) : d.left keep torn part = m.left keep torn part := by
  unfold Dv.left Kp.left
  rw [h.stable, h.way]
theorem KD.arm {m : Kp} {d : Dv} (h : KD m d) (n : Int) : KD (m.arm n) (d.arm n) := by
  unfold Kp.arm Dv.arm
  have hdd := h.down
  by_cases hd : m.down = true
  · rw [if_pos hd, if_pos (hdd.trans hd)]; exact h
  · rw [if_neg hd, if_neg (fun x => hd (hdd ▸ x))]; exact ⟨h.stable, rfl, hdd, h.way, h.rest⟩
/-- in the midst of a text: the places ahead of a are written as in s -/
structure KM (s : Bs) (a : Nat) (m : Kp) (d : Dv) : Prop where
  stable : d.stable = m.disk
  fuse : d.fuse = m.fuse
  down : d.down = false
  mdown : m.down = false
  way : m.way = d.way.map fun x => slice s (32 * x)
  got : ∀ i : Nat, d.written[i]? = if i < a then s[i]? else m.disk[i]?
  front : ∀ x ∈ d.way, 32 * x + 32 ≤ a
/-- where a text was broken off, or has come to its end -/
structure KE (s : Bs) (m : Kp) (d : Dv) : Prop where
  stable : d.stable = m.disk
  fuse : d.fuse = m.fuse
  down : d.down = m.down
  way : m.way = d.way.map fun x => slice s (32 * x)
  got : ∀ x ∈ d.way, slice d.written (32 * x) = slice s (32 * x)
theorem slice_congr {a b : Bs} {o : Nat} (h : ∀ i, o ≤ i → i < o + 32 → a[i]? = b[i]?) : slice a o = slice b o := by
  unfold slice
  congr 1
  apply List.ext_getElem?
  intro i
  rw [List.getElem?_take, List.getElem?_take]
  split
  · rw [List.getElem?_drop, List.getElem?_drop]; exact h _ (by omega) (by omega)
  · rfl
def offs0 (a n : Nat) : List Nat := if n = 0 then [] else offs a n
theorem offs_cons {a n : Nat} (h : 0 < n) : offs a n = 32 * (a / 32) :: offs0 (a + chunk a n) (n - chunk a n) := by
  unfold offs0 offs
  rw [show (a + n + 31) / 32 - a / 32 = ((a + n + 31) / 32 - a / 32 - 1) + 1 by omega, List.range'_succ, List.map_cons]
  congr 1
  by_cases c : n ≤ 32 - a % 32
  · have e : chunk a n = n := by unfold chunk; omega
    rw [e, Nat.sub_self, if_pos rfl, show (a + n + 31) / 32 - a / 32 - 1 = 0 by omega]; rfl
  · have e : chunk a n = 32 - a % 32 := by unfold chunk; omega
    rw [e, if_neg (by omega), show (a + (32 - a % 32)) / 32 = a / 32 + 1 by omega, show (a + (32 - a % 32) + (n - (32 - a % 32)) + 31) / 32 - (a / 32 + 1) = (a + n + 31) / 32 - a / 32 - 1 by omega]
theorem KM.stepped {m : Kp} {d : Dv} (h1 : d.fuse = m.fuse) (h2 : d.down = m.down) : d.step.1 = m.step.1 ∧ d.step.2.fuse = m.step.2.fuse ∧ d.step.2.down = m.step.2.down := by
  unfold Dv.step Kp.step
  rw [h1, h2]
  split
  · exact ⟨rfl, h1, h2⟩
  · exact ⟨rfl, rfl, rfl⟩
theorem kstep_same (m : Kp) : m.step.2 = { m with fuse := m.step.2.fuse, down := m.step.2.down } := by unfold Kp.step; split <;> rfl
theorem kstep_down {m : Kp} (h : m.down = false) : m.step.2.down = !m.step.1 := by
  unfold Kp.step
  split
  · simp [h]
  · simp
theorem puts_eq (s : Bs) : ∀ (k : Nat) (a : Nat) (t : Bs) (m : Kp) (d : Dv), KM s a m d → t.length ≤ k → s.length = m.disk.length → d.written.length = m.disk.length → a + t.length ≤ m.disk.length →
    (∀ i : Nat, a ≤ i → s[i]? = if i < a + t.length then t[i - a]? else m.disk[i]?) →
    (Dv.puts k d a t).1 = (Kp.puts s (offs0 a t.length) m).1 ∧ KE s (Kp.puts s (offs0 a t.length) m).2 (Dv.puts k d a t).2 ∧ ((Dv.puts k d a t).1 = true → (Dv.puts k d a t).2.written = s ∧ (Dv.puts k d a t).2.down = false) := by
  intro k
  induction k with
  | zero =>
    intro a t m d h hk _ _ _ hs
    have e : t.length = 0 := by omega
    rw [e]
    have hw : d.written = s := by
      apply List.ext_getElem?
      intro i
      rw [h.got i]
      split
      · rfl
      · rw [hs i (by omega), if_neg (by omega)]
    exact ⟨rfl, ⟨h.stable, h.fuse, h.down.trans h.mdown.symm, h.way, fun x _ => (by show slice d.written _ = _; rw [hw])⟩, fun _ => ⟨hw, h.down⟩⟩
  | succ k ih =>
    intro a t m d h hk hsl hwl hat hs
    by_cases e : t.length = 0
    · have hw : d.written = s := by
        apply List.ext_getElem?
        intro i
        rw [h.got i]
        split
        · rfl
        · rw [hs i (by omega), if_neg (by omega)]
      unfold Dv.puts
      rw [if_pos e, e]
      exact ⟨rfl, ⟨h.stable, h.fuse, h.down.trans h.mdown.symm, h.way, fun x _ => (by show slice d.written _ = _; rw [hw])⟩, fun _ => ⟨hw, h.down⟩⟩
    · have hpos : 0 < t.length := by omega
      have hc := chunk_le a t.length
      have hcp := chunk_pos (a := a) hpos
      have hci := chunk_in a t.length
      have hoff : offs0 a t.length = 32 * (a / 32) :: offs0 (a + chunk a t.length) (t.length - chunk a t.length) := by
        rw [show offs0 a t.length = offs a t.length from if_neg e]; exact offs_cons hpos
      have hnew : a / 32 ∉ d.way := fun hx => by have := h.front _ hx; omega
      have hch : a + chunk a t.length = a + t.length ∨ a + chunk a t.length = 32 * (a / 32) + 32 := by unfold chunk; omega
      generalize hcc : chunk a t.length = c at *
      have htk : (t.take c).length = c := by rw [List.length_take]; omega
      have hwr : d.write (a / 32) a (t.take c) = (d.wrote (a / 32) a (t.take c)).step := by unfold Dv.write; rw [h.down]; rfl
      have hway : (d.wrote (a / 32) a (t.take c)).way = d.way ++ [a / 32] := by unfold Dv.wrote; simp only [if_neg hnew]
      have hwrit : ∀ i : Nat, (d.wrote (a / 32) a (t.take c)).written[i]? = if i < a + c then s[i]? else m.disk[i]? := by
        intro i
        show (laidB d.written a (t.take c))[i]? = _
        rw [laidB_get (by rw [htk]; omega), htk, h.got i]
        by_cases c1 : i < a
        · rw [if_pos c1, if_pos c1, if_pos (by omega)]
        · rw [if_neg c1]
          by_cases c2 : i < a + c
          · rw [if_pos c2, if_pos c2, hs i (by omega), if_pos (by omega), List.getElem?_take, if_pos (by omega)]
          · rw [if_neg c2, if_neg c2, if_neg (by omega)]
      have hst := KM.stepped (m := { m with way := m.way ++ [slice s (32 * (a / 32))] }) (d := d.wrote (a / 32) a (t.take c)) h.fuse (h.down.trans h.mdown.symm)
      have hd1 := Dv.step_same (d.wrote (a / 32) a (t.take c))
      have hm1 := kstep_same { m with way := m.way ++ [slice s (32 * (a / 32))] }
      have hdn := kstep_down (m := { m with way := m.way ++ [slice s (32 * (a / 32))] }) h.mdown
      have hway1 : m.way ++ [slice s (32 * (a / 32))] = ((d.wrote (a / 32) a (t.take c)).way).map fun x => slice s (32 * x) := by rw [hway, h.way]; simp
      have hp : Dv.puts (k + 1) d a t = if ((d.wrote (a / 32) a (t.take c)).step).1 then Dv.puts k ((d.wrote (a / 32) a (t.take c)).step).2 (a + c) (t.drop c) else (false, ((d.wrote (a / 32) a (t.take c)).step).2) := by
        conv => lhs; unfold Dv.puts
        rw [if_neg e, hcc, hwr]
      have hq : Kp.puts s (offs0 a t.length) m = if ({ m with way := m.way ++ [slice s (32 * (a / 32))] } : Kp).step.1 then Kp.puts s (offs0 (a + c) (t.length - c)) ({ m with way := m.way ++ [slice s (32 * (a / 32))] } : Kp).step.2 else (false, ({ m with way := m.way ++ [slice s (32 * (a / 32))] } : Kp).step.2) := by
        rw [hoff]; rfl
      have hin : ∀ x ∈ (d.wrote (a / 32) a (t.take c)).way, slice (d.wrote (a / 32) a (t.take c)).written (32 * x) = slice s (32 * x) := by
        intro x hx
        apply slice_congr
        intro i h1 h2
        rw [hwrit i]
        split
        · rfl
        · rename_i hge
          rw [hway] at hx
          rcases List.mem_append.1 hx with hx | hx
          · have := h.front x hx; omega
          · rw [List.mem_singleton.1 hx] at h1 h2
            rw [hs i (by omega), if_neg (by omega)]
      rw [hp, hq, ← hst.1]
      by_cases hb : (d.wrote (a / 32) a (t.take c)).step.1 = true
      · rw [if_pos hb, if_pos hb]
        have hlen : (t.drop c).length = t.length - c := List.length_drop
        rw [← hlen]
        have hdn1 : ({ m with way := m.way ++ [slice s (32 * (a / 32))] } : Kp).step.2.down = false := by rw [hdn, ← hst.1, hb]; rfl
        have hdisk : ({ m with way := m.way ++ [slice s (32 * (a / 32))] } : Kp).step.2.disk = m.disk := by rw [hm1]
        have hwlen : (d.wrote (a / 32) a (t.take c)).written.length = m.disk.length := by
          show (laidB d.written a (t.take c)).length = _
          rw [laidB_length (by rw [htk]; omega)]; exact hwl
        by_cases hz : t.length - c = 0
        · have hno : t.drop c = [] := List.eq_nil_of_length_eq_zero (by rw [hlen]; exact hz)
          rw [hno]
          have hw : (d.wrote (a / 32) a (t.take c)).written = s := by
            apply List.ext_getElem?
            intro i
            rw [hwrit i]
            split
            · rfl
            · rw [hs i (by omega), if_neg (by omega)]
          have hpk : Dv.puts k (d.wrote (a / 32) a (t.take c)).step.2 (a + c) [] = (true, (d.wrote (a / 32) a (t.take c)).step.2) := by cases k <;> rfl
          rw [hpk]
          refine ⟨rfl, ⟨?_, hst.2.1, hst.2.2, ?_, ?_⟩, fun _ => ⟨?_, ?_⟩⟩
          · show (d.wrote (a / 32) a (t.take c)).step.2.stable = ({ m with way := m.way ++ [slice s (32 * (a / 32))] } : Kp).step.2.disk
            rw [hdisk, hd1]; exact h.stable
          · show ({ m with way := m.way ++ [slice s (32 * (a / 32))] } : Kp).step.2.way = _
            rw [hm1, hd1]; exact hway1
          · rw [hd1]; exact hin
          · rw [hd1]; exact hw
          · exact hst.2.2.trans hdn1
        · refine ih (a + c) (t.drop c) _ _ ⟨?_, hst.2.1, hst.2.2.trans hdn1, hdn1, ?_, ?_, ?_⟩ (by rw [hlen]; omega) (by rw [hdisk]; exact hsl) (by rw [hd1, hdisk]; exact hwlen) (by rw [hdisk, hlen]; omega) ?_
          · rw [hdisk, hd1]; exact h.stable
          · rw [hm1, hd1]; exact hway1
          · rw [hdisk, hd1]; exact hwrit
          · rw [hd1]
            intro x hx
            have hx : x ∈ (d.wrote (a / 32) a (t.take c)).way := hx
            rw [hway] at hx
            rcases List.mem_append.1 hx with hx | hx
            · have := h.front x hx; omega
            · rw [List.mem_singleton.1 hx]; omega
          · intro i hi
            rw [hs i (by omega), hdisk, hlen]
            by_cases c1 : i < a + t.length
            · rw [if_pos c1, if_pos (by omega), List.getElem?_drop]
              congr 1; omega
            · rw [if_neg c1, if_neg (by omega)]
      · rw [if_neg hb, if_neg hb]
        refine ⟨rfl, ⟨?_, hst.2.1, hst.2.2, ?_, ?_⟩, fun x => (by cases x)⟩
        · show (d.wrote (a / 32) a (t.take c)).step.2.stable = ({ m with way := m.way ++ [slice s (32 * (a / 32))] } : Kp).step.2.disk
          rw [hd1, hm1]; exact h.stable
        · show ({ m with way := m.way ++ [slice s (32 * (a / 32))] } : Kp).step.2.way = _
          rw [hm1, hd1]; exact hway1
        · rw [hd1]; exact hin
/-- a flush of what was written as in s -/
theorem sync_get (s : Bs) : ∀ (ss : List Nat) (st : Bs), s.length = st.length → (∀ x ∈ ss, 32 * x + 32 ≤ st.length) →
    ∀ i : Nat, (syncB s ss st)[i]? = if ∃ x ∈ ss, 32 * x ≤ i ∧ i < 32 * x + 32 then s[i]? else st[i]?
  | [], st, _, _ => fun i => by rw [if_neg (by rintro ⟨x, hx, _⟩; cases hx)]; rfl
  | x :: ss, st, hl, h => fun i => by
    have h1 := h x (by simp)
    have hx : ((s.drop (32 * x)).take 32).length = 32 := by rw [List.length_take, List.length_drop]; omega
    have e : (laidB st (32 * x) ((s.drop (32 * x)).take 32)).length = st.length := laidB_length (by rw [hx]; omega)
    unfold syncB
    rw [sync_get s ss _ (by rw [e]; exact hl) (fun y hy => by rw [e]; exact h y (by simp [hy])) i, laidB_get (by rw [hx]; omega), hx]
    by_cases c : ∃ y ∈ ss, 32 * y ≤ i ∧ i < 32 * y + 32
    · rw [if_pos c, if_pos (by obtain ⟨y, h1, h2⟩ := c; exact ⟨y, by simp [h1], h2⟩)]
    · rw [if_neg c]
      by_cases c2 : 32 * x ≤ i ∧ i < 32 * x + 32
      · rw [if_neg (by omega), if_pos (by omega), if_pos ⟨x, by simp, c2⟩, List.getElem?_take, if_pos (by omega), List.getElem?_drop]
        congr 1; omega
      · have hno : ¬ ∃ y ∈ x :: ss, 32 * y ≤ i ∧ i < 32 * y + 32 := by
          rintro ⟨y, hy, h3⟩
          rcases List.mem_cons.1 hy with e2 | hy
          · subst e2; exact c2 h3
          · exact c ⟨y, hy, h3⟩
        rw [if_neg hno]
        by_cases c3 : i < 32 * x
        · rw [if_pos c3]
        · rw [if_neg c3, if_neg (by omega)]
/-- a text is written and flushed -/
theorem KD.store {m : Kp} {d : Dv} (h : KD m d) (hd : d.ok) (hu : m.down = false) {p : Nat} {r : Bs} (hr : 0 < r.length) (hp : p + r.length ≤ m.disk.length) :
    (d.store p r).1 = (m.writes p r).1 ∧ KD (m.writes p r).2 (d.store p r).2 := by
  have hdd : d.down = false := h.down.trans hu
  obtain ⟨hw0, hwr⟩ := h.rest hdd
  have hm0 : m.way = [] := by rw [h.way, hw0]; rfl
  have hsl : (laidB m.disk p r).length = m.disk.length := laidB_length hp
  have hst : d.stable.length = m.disk.length := by rw [h.stable]
  have hsget := fun i => laidB_get (s := m.disk) (r := r) (p := p) hp i
  have hkm : KM (laidB m.disk p r) p m d := ⟨h.stable, h.fuse, hdd, hu, by rw [hm0, hw0]; rfl, fun i => by
    rw [hwr, h.stable, hsget i]
    split
    · rfl
    · rfl, fun x hx => by rw [hw0] at hx; cases hx⟩
  obtain ⟨e1, e2, e3⟩ := puts_eq (laidB m.disk p r) r.length p r m d hkm (Nat.le_refl _) hsl (by rw [hd.wsize]; exact hst) hp (fun i hi => by rw [hsget i, if_neg (by omega)])
  rw [show offs0 p r.length = offs p r.length from if_neg (by omega)] at e1 e2
  have hput : Dv.puts r.length d p r = d.put p r := rfl
  rw [hput] at e1 e2 e3
  have hok := Dv.put_ok hd (a := p) (t := r) (by omega)
  unfold Dv.store Kp.writes
  rw [e1]
  by_cases c : (Kp.puts (laidB m.disk p r) (offs p r.length) m).1 = true
  · rw [if_pos c, if_pos c]
    obtain ⟨w1, w2⟩ := e3 (e1.trans c)
    have hpy := puts_yes _ _ _ hu c
    have hs2 := KM.stepped (m := (Kp.puts (laidB m.disk p r) (offs p r.length) m).2) (d := (d.put p r).2) e2.fuse e2.down
    have hmd : (Kp.puts (laidB m.disk p r) (offs p r.length) m).2.disk = m.disk := by rw [hpy]
    have hmw : (Kp.puts (laidB m.disk p r) (offs p r.length) m).2.way = (offs p r.length).map (slice (laidB m.disk p r)) := by rw [hpy, hm0]; rfl
    have hdwn : (Kp.puts (laidB m.disk p r) (offs p r.length) m).2.down = false := by rw [← e2.down]; exact w2
    unfold Dv.flush Kp.flush
    rw [hs2.1]
    by_cases c2 : (Kp.puts (laidB m.disk p r) (offs p r.length) m).2.step.1 = true
    · rw [if_pos c2, if_pos c2]
      have hoffs : ∀ i : Nat, (∃ x ∈ (d.put p r).2.way, 32 * x ≤ i ∧ i < 32 * x + 32) ↔ (p / 32 * 32 ≤ i ∧ i < (p + r.length + 31) / 32 * 32) := by
        have hfst : (d.put p r).2.way.map (32 * ·) = offs p r.length := by
          have := congrArg (List.map Prod.fst) (e2.way.symm.trans hmw)
          rw [List.map_map, List.map_map] at this
          have e : (Prod.fst ∘ slice (laidB m.disk p r)) = id := rfl
          rw [e, List.map_id] at this
          exact this
        intro i
        constructor
        · rintro ⟨x, hx, h1, h2⟩
          have : 32 * x ∈ offs p r.length := by rw [← hfst]; exact List.mem_map.2 ⟨x, hx, rfl⟩
          rw [mem_offs] at this
          omega
        · rintro ⟨h1, h2⟩
          have : 32 * (i / 32) ∈ offs p r.length := by rw [mem_offs]; omega
          rw [← hfst] at this
          obtain ⟨x, hx, e⟩ := List.mem_map.1 this
          exact ⟨x, hx, by omega, by omega⟩
      have hsy : syncB (d.put p r).2.written (d.put p r).2.way (d.put p r).2.stable = laidB m.disk p r := by
        rw [w1, e2.stable, hmd]
        apply List.ext_getElem?
        intro i
        rw [sync_get _ _ _ hsl (fun x hx => by have := hok.1.way x hx; rw [e2.stable, hmd] at this; exact this) i]
        split
        · rfl
        · rename_i hn
          rw [hoffs i] at hn
          rw [hsget i]
          split
          · rfl
          · rw [if_neg (by omega)]
      refine ⟨rfl, ⟨hsy, hs2.2.1, hs2.2.2, rfl, fun _ => ⟨rfl, ?_⟩⟩⟩
      show (d.put p r).2.step.2.written = syncB _ _ _
      rw [Dv.step_same, hsy]; exact w1
    · rw [if_neg c2, if_neg c2]
      refine ⟨rfl, ⟨?_, hs2.2.1, hs2.2.2, ?_, fun hx => ?_⟩⟩
      · rw [Dv.step_same, kstep_same]; exact e2.stable
      · rw [Dv.step_same, kstep_same]
        show (Kp.puts (laidB m.disk p r) (offs p r.length) m).2.way = _
        rw [e2.way]
        exact List.map_congr_left fun x hx => (e2.got x hx).symm
      · exfalso
        have hx : (d.put p r).2.step.2.down = false := hx
        rw [hs2.2.2, kstep_down hdwn] at hx
        simp [c2] at hx
  · rw [if_neg c, if_neg c]
    refine ⟨rfl, ⟨e2.stable, e2.fuse, e2.down, ?_, fun hx => ?_⟩⟩
    · rw [e2.way]
      exact List.map_congr_left fun x hx => (e2.got x hx).symm
    · exfalso
      obtain ⟨qs, rs, _, _, e⟩ := puts_no _ _ _ hu (by simpa using c)
      have hx : (d.put p r).2.down = false := hx
      rw [e2.down, e] at hx
      cases hx
end Go.Proofs.YtmnajomkfnkmeaaGreatDoor
