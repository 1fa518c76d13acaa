import Derived.Test.YtmnajomkfnkmeaaGreatDoorPurA
namespace Go.Proofs.YtmnajomkfnkmeaaGreatDoor
/-! ### the keeper, call by call (plain mathematics) -/

structure Kp where
  secret : Bs
  idle : Nat
  abs : Nat
  now : Nat
  drawn : Nat
  disk : Bs
  way : List (Nat × Bs)
  fuse : Nat
  down : Bool
  st : St
def Kp.live (m : Kp) : Nat × Nat := if m.down then (0, 4) else (m.st.T.live, 0)
def clampP (part : Int) : Nat := min part.toNat 32
def leftAux (keep torn part : Int) : Nat → Bs → List (Nat × Bs) → Bs
  | _, s, [] => s
  | i, s, (a, b) :: r => leftAux keep torn part (i + 1) (if (i : Int) = torn then laidB s a (b.take (clampP part)) else if (keep / (2 ^ (min i 62) : Nat)) % 2 ≠ 0 then laidB s a b else s) r
def Kp.left (m : Kp) (keep torn part : Int) : Bs := leftAux keep torn part 0 m.disk m.way
structure Cfg where
  secret : Bs
  seed : Int
  idle : Int
  abs : Int
  now : Int
def Cfg.ok (c : Cfg) : Bool := decide (1 ≤ c.secret.length ∧ c.secret.length ≤ 16) && decide (0 ≤ c.seed ∧ c.seed ≤ 65536) && decide (1 ≤ c.idle ∧ c.idle ≤ 1000000000) && decide (1 ≤ c.abs ∧ c.abs ≤ 1000000000) && decide (0 ≤ c.now ∧ c.now ≤ 1000000000)
def openK (d : Bs) (c : Cfg) : Nat × Option Kp :=
  if c.ok = false then (2, none)
  else if ¬ (d.length % 32 = 0 ∧ 384 ≤ d.length ∧ d.length ≤ 6400) then (3, none)
  else match readD d with
    | none => (3, none)
    | some st => (0, some ⟨c.secret, c.idle.toNat, c.abs.toNat, c.now.toNat, c.seed.toNat, cleanD d st, [], 0, false, st⟩)
end Go.Proofs.YtmnajomkfnkmeaaGreatDoor
namespace Go.Proofs.YtmnajomkfnkmeaaGreatDoor
/-! ### the power; what is under way -/
def slice (s : Bs) (o : Nat) : Nat × Bs := (o, (s.drop o).take 32)
theorem leftAux_cons (keep torn part : Int) (i : Nat) (b s : Bs) (o : Nat) (r : List (Nat × Bs)) : leftAux keep torn part i b (slice s o :: r) = leftAux keep torn part (i + 1) (if (i : Int) = torn then laidB b o ((slice s o).2.take (clampP part)) else if (keep / (2 ^ (min i 62) : Nat)) % 2 ≠ 0 then laidB b o (slice s o).2 else b) r := rfl
end Go.Proofs.YtmnajomkfnkmeaaGreatDoor
namespace Go.Proofs.YtmnajomkfnkmeaaGreatDoor
/-! ### a keeper that is up -/
structure Good (m : Kp) : Prop where
  up : m.down = false
  way : m.way = []
  holds : Holds m.disk m.st
  now : m.now ≤ maxT
  drawn : m.drawn < 65537
/-! a pass -/
/-! opening again -/
theorem open_good {d : Bs} {c : Cfg} {st : St} (hc : c.ok = true) (hs : okSize d.length) (hr : readD d = some st) :
    ∃ m, openK d c = (0, some m) ∧ Good m ∧ m.st = st ∧ m.secret = c.secret ∧ m.idle = c.idle.toNat ∧ m.abs = c.abs.toNat ∧ m.now = c.now.toNat ∧ m.drawn = c.seed.toNat ∧ m.fuse = 0 := by
  have hb := hc
  unfold Cfg.ok at hb
  simp only [Bool.and_eq_true, decide_eq_true_eq] at hb
  obtain ⟨⟨⟨⟨_, b2⟩, _⟩, _⟩, b5⟩ := hb
  unfold openK
  rw [if_neg (by rw [hc]; decide), if_neg (fun h => h hs), hr]
  refine ⟨_, rfl, ⟨rfl, rfl, (read_holds hs hr).1, ?_, ?_⟩, rfl, rfl, rfl, rfl, rfl, rfl, rfl⟩
  · unfold maxT; show c.now.toNat ≤ _; omega
  · show c.seed.toNat < _; omega
/-! the empty disk -/
/-! drawing -/
end Go.Proofs.YtmnajomkfnkmeaaGreatDoor
namespace Go.Proofs.YtmnajomkfnkmeaaGreatDoor
/-! ### what each call does to a keeper that is up -/

end Go.Proofs.YtmnajomkfnkmeaaGreatDoor
namespace Go.Proofs.YtmnajomkfnkmeaaGreatDoor
/-! ### what the statements ask, as plain mathematics -/
/-! no session ends by time -/
/-! what has ended -/
end Go.Proofs.YtmnajomkfnkmeaaGreatDoor
namespace Go.Proofs.YtmnajomkfnkmeaaGreatDoor
/-! ### calls that go well, while the power stays -/
/-! one session alone -/
end Go.Proofs.YtmnajomkfnkmeaaGreatDoor
namespace Go.Proofs.YtmnajomkfnkmeaaGreatDoor
/-! ### the statements' stories -/
/-! One -/
/-! Lived -/
/-! Gone -/
end Go.Proofs.YtmnajomkfnkmeaaGreatDoor
namespace Go.Proofs.YtmnajomkfnkmeaaGreatDoor
/-! ### Reopened, Survives -/
end Go.Proofs.YtmnajomkfnkmeaaGreatDoor
namespace Go.Proofs.YtmnajomkfnkmeaaGreatDoor
/-! ### the document's examples -/
end Go.Proofs.YtmnajomkfnkmeaaGreatDoor
namespace Go.Proofs.YtmnajomkfnkmeaaGreatDoor
/-! ### the drive as the code has it (plain mathematics) -/
structure Dv where
  stable : Bs
  written : Bs
  way : List Nat
  fuse : Nat
  down : Bool
def Dv.left (d : Dv) (keep torn part : Int) : Bs := leftAux keep torn part 0 d.stable (d.way.map fun s => slice d.written (32 * s))
/-- bounds -/
structure Dv.ok (d : Dv) : Prop where
  size : okSize d.stable.length
  wsize : d.written.length = d.stable.length
  way : ∀ s ∈ d.way, 32 * s + 32 ≤ d.stable.length
  nodup : d.way.Nodup
  fuse : d.down = true → d.fuse = 0
/-! ### and as the keeper's -/
structure KD (m : Kp) (d : Dv) : Prop where
  stable : d.stable = m.disk
  fuse : d.fuse = m.fuse
  down : d.down = m.down
  way : m.way = d.way.map fun s => slice d.written (32 * s)
  rest : d.down = false → d.way = [] ∧ d.written = d.stable
theorem KD.left {m : Kp} {d : Dv} (h : KD m d) (keep torn part : Int) : d.left keep torn part = m.left keep torn part := by
  unfold Dv.left Kp.left
  rw [h.stable, h.way]
end Go.Proofs.YtmnajomkfnkmeaaGreatDoor
