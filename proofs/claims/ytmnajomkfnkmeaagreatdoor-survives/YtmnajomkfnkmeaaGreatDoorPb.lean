import Derived.Test.YtmnajomkfnkmeaaGreatDoorGone
namespace Go.Proofs.YtmnajomkfnkmeaaGreatDoor
open Go.RowKit Go.Conc
attribute [local go_sem] ofL_size
/-! the passes that have come out, a list that was told, and a configuration, beside a keeper -/
def pbX (cb : Nat) (s bv : Value) : Nat → Prop := fun b => b = cb ∨ ownX s b ∨ ownX bv b
structure PB (w0 : World) (B kb : Nat) (m : Kp) (cb : Nat) (ca : Array Value) (s : Value) (ps : List Bs) (n : Nat) (bv : Value) (bl : List TS) (w : World) : Prop where
  ka : Ka w0 B kb m (pbX cb s bv) w
  cf : Blk w cb ca 23
  so : SO w s ps
  tl : TO w bv bl
  le : ps.length ≤ n
  ok : ∀ p ∈ ps, p.length ≤ 9
  ne : ∀ b, ownX s b → b ≠ cb
theorem Blk.stay {X : Nat → Prop} {w w' : World} {b : Nat} {a : Array Value} {T : TypeId} (h : Blk w b a T) (hs : Stay X w w') (hb : X b) : Blk w' b a T := (hs b hb).trans h
theorem PB.wide {w0 : World} {B kb : Nat} {m : Kp} {cb : Nat} {ca : Array Value} {s : Value} {ps : List Bs} {n : Nat} {bv : Value} {bl : List TS} {w : World} (h : PB w0 B kb m cb ca s ps n bv bl w) : Below w0.heap.size w0 w := h.ka.wide
theorem PB.moved {w0 : World} {B kb kb' : Nat} {m m' : Kp} {cb : Nat} {ca : Array Value} {s : Value} {ps : List Bs} {n : Nat} {bv : Value} {bl : List TS} {w w' : World} (h : PB w0 B kb m cb ca s ps n bv bl w) (ha : Ka w0 B kb' m' (pbX cb s bv) w') (hs : Stay (pbX cb s bv) w w') : PB w0 B kb' m' cb ca s ps n bv bl w' :=
  ⟨ha, h.cf.stay hs (Or.inl rfl), h.so.stay (hs.sub fun _ hi => Or.inr (Or.inl hi)), h.tl.stay (hs.sub fun _ hi => Or.inr (Or.inr hi)), h.le, h.ok, h.ne⟩
theorem PB.below {w0 : World} {B kb : Nat} {m : Kp} {cb : Nat} {ca : Array Value} {s : Value} {ps : List Bs} {n : Nat} {bv : Value} {bl : List TS} {w w' : World} (h : PB w0 B kb m cb ca s ps n bv bl w) (hb : Below w.heap.size w w') : PB w0 B kb m cb ca s ps n bv bl w' :=
  h.moved (h.ka.below hb).1 (h.ka.below hb).2
theorem PB.more {w0 : World} {B kb : Nat} {m : Kp} {cb : Nat} {ca : Array Value} {s : Value} {ps : List Bs} {n n' : Nat} {bv : Value} {bl : List TS} {w : World} (h : PB w0 B kb m cb ca s ps n bv bl w) (hn : n ≤ n') : PB w0 B kb m cb ca s ps n' bv bl w := ⟨h.ka, h.cf, h.so, h.tl, Nat.le_trans h.le hn, h.ok, h.ne⟩
theorem PB.drop {w0 : World} {B kb : Nat} {m : Kp} {cb : Nat} {ca : Array Value} {s : Value} {ps : List Bs} {n : Nat} {bv : Value} {bl : List TS} {w : World} (h : PB w0 B kb m cb ca s ps n bv bl w) : PB w0 B kb m cb ca s ps n (.slice none 0 0) [] w :=
  ⟨h.ka.sub (fun b hb => by
    rcases hb with hb | hb | hb
    · exact Or.inl hb
    · exact Or.inr (Or.inl hb)
    · cases hb), h.cf, h.so, Own.nil _ _ _ _, h.le, h.ok, h.ne⟩
/-- a pass has been appended -/
theorem PB.pushed {w0 w w2 : World} {B kb : Nat} {m : Kp} {cb : Nat} {ca : Array Value} {s : Value} {ps : List Bs} {n k g cap : Nat} {q : Bs} {o : Obj} (h : PB w0 B kb m cb ca s ps n (.slice none 0 0) [] w) (hq : q.length ≤ 9) (hn : ps.length = k)
    (hown : w2.ownsRow 0 9 1 (.slice (some ⟨g, 0, none⟩) (k + 1) cap) (k + 1) (flatV strV ps ++ [.string (ofL q)])) (hgr : (w.alloc o).grownBy w2 s.ownBlock) (hloc : s.ownBlock = some g ∨ g = (w.alloc o).heap.size) (hlt : g < w2.heap.size) :
    PB w0 B kb m cb ca (.slice (some ⟨g, 0, none⟩) (k + 1) cap) (ps ++ [q]) (n + 1) (.slice none 0 0) [] w2 := by
  obtain ⟨F, ha, hw, hF, hX⟩ := h.ka
  have hcb := hX cb (Or.inl rfl)
  have hf1 : Fr (fun b => s.ownBlock = some b) w (w.alloc o) := Fr.of_below ((Below.refl _ _).alloc (Nat.le_refl _) _)
  have hf : Fr (fun b => s.ownBlock = some b) w w2 := hf1.grown hgr (fun k hk _ => hk)
  have hs : (w.alloc o).heap.size = w.heap.size + 1 := by simp
  have hgX : w0.heap.size ≤ g ∧ ¬ F g ∧ g ≠ cb := by
    rcases hloc with h1 | h1
    · exact ⟨(hX g (Or.inr (Or.inl h1))).1, (hX g (Or.inr (Or.inl h1))).2.2, h.ne g h1⟩
    · refine ⟨by have := hw.size; omega, fun e => ?_, fun e => ?_⟩
      · have := (ha.foot e).2; omega
      · have := hcb.2.1; omega
  refine ⟨⟨F, ha.kept hf (fun b hb e => (hX b (Or.inr (Or.inl e))).2.2 hb), ⟨hf.os.trans hw.os, hf.tape.trans hw.tape, hf.output.trans hw.output, Nat.le_trans hw.size hf.size, fun i hi => (hf.block i (Nat.lt_of_lt_of_le hi hw.size) (fun e => by have := (hX i (Or.inr (Or.inl e))).1; omega)).trans (hw.block i hi)⟩, hF, fun b hb => ?_⟩,
    h.cf.kept hf (fun e => h.ne cb e rfl), Own.pushed hn hown, Own.nil _ _ _ _, by rw [List.length_append]; have := h.le; simp; omega, snoc_le h.ok hq, fun b hb => ?_⟩
  · rcases hb with hb | hb | hb
    · subst hb; exact ⟨hcb.1, Nat.lt_of_lt_of_le hcb.2.1 hf.size, hcb.2.2⟩
    · have e : some g = some b := hb
      injection e with e
      subst e
      exact ⟨hgX.1, hlt, hgX.2.1⟩
    · cases hb
  · have e : some g = some b := hb
    injection e with e
    subst e
    exact hgX.2.2
/-! its calls -/
theorem PB.act {w0 : World} {B kb : Nat} {m : Kp} {cb : Nat} {ca : Array Value} {s : Value} {ps : List Bs} {n : Nat} {bv : Value} {bl : List TS} {G : Gl} {w : World} (h : PB w0 B kb m cb ca s ps n bv bl w) (hG : Glob B G w0) (hn : n ≤ 1000) (c : Int) (hc : -9223372036854775808 ≤ c ∧ c ≤ 9223372036854775807) :
    Calls Tryz.prog 31 #[.pointer (some ⟨kb, 0, none⟩), .int .i64 c, s] w fun e w' => e = .returned (.tuple #[.string (ofL (actK m (pickN c 1099511627776) ps).1), .int .i64 (actK m (pickN c 1099511627776) ps).2.1]) ∧ PB w0 B kb (actK m (pickN c 1099511627776) ps).2.2 cb ca s ps n bv bl w' := by
  have := act_any w0 B kb m (pbX cb s bv) G s ps c w h.ka hG hc h.so (fun _ h => Or.inr (Or.inl h)) h.ok (Nat.le_trans h.le hn)
  revert this
  generalize actK m (pickN c 1099511627776) ps = R
  intro this
  exact this.mono fun _ _ hh => ⟨hh.1, h.moved hh.2.1 hh.2.2⟩
/-- all that can be had is told -/
theorem PB.told {w0 : World} {B kb : Nat} {m : Kp} {cb : Nat} {ca : Array Value} {s : Value} {ps : List Bs} {n : Nat} {G : Gl} {w : World} (h : PB w0 B kb m cb ca s ps n (.slice none 0 0) [] w) (hG : Glob B G w0) (hn : n ≤ 1000) :
    Calls Tryz.prog 33 #[.pointer (some ⟨kb, 0, none⟩), s] w fun e w' => ∃ r, e = .returned r ∧ PB w0 B kb m cb ca s ps n r (tolds m ps) w' := by
  obtain ⟨F, ha, hw, hF, hX⟩ := h.ka
  refine (told_any B kb F m G s ps w ha (DigitsBelow hG hw) h.so h.ok (Nat.le_trans h.le hn)).mono ?_
  rintro e w' ⟨r, rfl, hb, hto, hfar⟩
  have h2 := h.below hb
  refine ⟨r, rfl, ⟨?_, h2.cf, h2.so, hto, h.le, h.ok, h.ne⟩⟩
  refine (h.ka.more hb).sub (fun b hb' => ?_)
  rcases hb' with e | e | e
  · exact Or.inl (Or.inl e)
  · exact Or.inl (Or.inr (Or.inl e))
  · exact Or.inr ⟨hfar b e, hto.lt e⟩
/-- and once more, the first being kept -/
theorem PB.tell {w0 : World} {B kb : Nat} {m : Kp} {cb : Nat} {ca : Array Value} {s : Value} {ps : List Bs} {n : Nat} {bv : Value} {bl : List TS} {G : Gl} {w : World} (h : PB w0 B kb m cb ca s ps n bv bl w) (hG : Glob B G w0) (hn : n ≤ 1000) :
    Calls Tryz.prog 33 #[.pointer (some ⟨kb, 0, none⟩), s] w fun e w' => ∃ r, e = .returned r ∧ PB w0 B kb m cb ca s ps n bv bl w' ∧ TO w' r (tolds m ps) ∧ Below w.heap.size w w' := by
  obtain ⟨F, ha, hw, hF, hX⟩ := h.ka
  refine (told_any B kb F m G s ps w ha (DigitsBelow hG hw) h.so h.ok (Nat.le_trans h.le hn)).mono ?_
  rintro e w' ⟨r, rfl, hb, hto, hfar⟩
  exact ⟨r, rfl, h.below hb, hto, hb⟩
theorem PB.compact {w0 : World} {B kb : Nat} {m : Kp} {cb : Nat} {ca : Array Value} {s : Value} {ps : List Bs} {n : Nat} {bv : Value} {bl : List TS} {G : Gl} {w : World} (h : PB w0 B kb m cb ca s ps n bv bl w) (hG : Glob B G w0) :
    Calls Tryz.prog 34 #[.pointer (some ⟨kb, 0, none⟩)] w fun e w' => e = .returned (.int .i64 m.compact.1) ∧ PB w0 B kb m.compact.2 cb ca s ps n bv bl w' :=
  (acompact w0 B kb m _ G w h.ka hG).mono fun _ _ hh => ⟨hh.1, h.moved hh.2.1 hh.2.2⟩
theorem PB.left {w0 : World} {B kb : Nat} {m : Kp} {cb : Nat} {ca : Array Value} {s : Value} {ps : List Bs} {n : Nat} {bv : Value} {bl : List TS} {w : World} (h : PB w0 B kb m cb ca s ps n bv bl w) (keep torn part : Int) (h0 : -9223372036854775808 ≤ keep ∧ keep ≤ 9223372036854775807) (h2 : -9223372036854775808 ≤ part ∧ part ≤ 9223372036854775807) :
    Calls Tryz.prog 23 #[.pointer (some ⟨kb, 0, none⟩), .int .i64 keep, .int .i64 torn, .int .i64 part] w fun e w' => e = .returned (.string (ofL (m.left keep torn part))) ∧ PB w0 B kb m cb ca s ps n bv bl w' :=
  (aleft w0 B kb m _ keep torn part w h.ka h0 h2).mono fun _ _ hh => ⟨hh.1, h.moved hh.2.1 hh.2.2⟩
theorem PB.opened {w0 : World} {B kb : Nat} {m m' : Kp} {cb : Nat} {ca : Array Value} {s : Value} {ps : List Bs} {n : Nat} {bv : Value} {bl : List TS} {G : Gl} {w : World} (h : PB w0 B kb m cb ca s ps n bv bl w) (hG : Glob B G w0) (l : Bs) (c : Int) (long : Bool) (hl : l.length ≤ 9223372036854775807) (hm : openK l (confK c long) = (0, some m')) :
    Calls Tryz.prog 24 #[.string (ofL l), cfgV (confK c long)] w fun e w' => ∃ kb', e = .returned (.pointer (some ⟨kb', 0, none⟩)) ∧ PB w0 B kb' m' cb ca s ps n bv bl w' :=
  (aopened w0 B kb m m' _ G l c long w h.ka hl hG hm).mono fun _ _ ⟨kb', h1, h2, h3⟩ => ⟨kb', h1, h.moved h2 h3⟩
theorem PB.live {w0 : World} {B kb : Nat} {m : Kp} {cb : Nat} {ca : Array Value} {s : Value} {ps : List Bs} {n : Nat} {bv : Value} {bl : List TS} {w : World} (h : PB w0 B kb m cb ca s ps n bv bl w) :
    Calls Tryz.prog 25 #[.pointer (some ⟨kb, 0, none⟩)] w fun e w' => e = .returned (.tuple #[.int .i64 m.live.1, .int .i64 m.live.2]) ∧ w' = w := slive w0 B kb m w h.ka.kst
/-- a fresh keeper beside a configuration -/
theorem pb_fresh (w0 : World) (n : Nat) (c : Int) (long : Bool) (B : Nat) (G : Gl) (w : World) (m : Kp) (cb : Nat) (ca : Array Value) (h0 : 12 ≤ n) (h1 : n ≤ 200) (hw : Below w0.heap.size w0 w) (hcb : w0.heap.size ≤ cb) (hc : Blk w cb ca 23) (hG : Glob B G w0) (hm : openK (blankB n) (confK c long) = (0, some m)) :
    Calls Tryz.prog 18 #[.int .i64 n, cfgV (confK c long)] w fun e w' => ∃ kb, e = .returned (.pointer (some ⟨kb, 0, none⟩)) ∧ PB w0 B kb m cb ca (.slice none 0 0) [] 0 (.slice none 0 0) [] w' := by
  have := kfresh_any n (confK c long) B G w h0 h1 (by show (10 : Nat) ≤ _; decide) (DigitsBelow hG hw)
  rw [hm] at this
  refine this.mono ?_
  rintro e w' ⟨kb, F, he, hk, hb, hF⟩
  have hlt := hc.lt
  refine ⟨kb, he, ⟨⟨F, hk, bstep hw hb, fun b hb' => Nat.le_trans hw.size (hF b hb'), fun b h => ?_⟩, hc.below hb, Own.nil _ _ _ _, Own.nil _ _ _ _, Nat.zero_le _, fun p hp => (by cases hp), fun b h => (by cases h)⟩⟩
  rcases h with h | h | h
  · subst h
    exact ⟨hcb, Nat.lt_of_lt_of_le hlt hb.size, fun e => by have := hF b e; omega⟩
  · cases h
  · cases h
/-- what a keeper's own calls do -/
theorem PB.login {w0 : World} {B kb : Nat} {m : Kp} {cb : Nat} {ca : Array Value} {s : Value} {ps : List Bs} {n : Nat} {bv : Value} {bl : List TS} {G : Gl} {w : World} (h : PB w0 B kb m cb ca s ps n bv bl w) (hG : Glob B G w0) (u : Int) :
    Calls Tryz.prog 19 #[.pointer (some ⟨kb, 0, none⟩), .int .i64 u] w fun e w' => e = .returned (.tuple #[.string (ofL (m.login u).1), .int .i64 (m.login u).2.1]) ∧ PB w0 B kb (m.login u).2.2 cb ca s ps n bv bl w' :=
  (alogin w0 B kb m _ G u w h.ka hG).mono fun _ _ hh => ⟨hh.1, h.moved hh.2.1 hh.2.2⟩
theorem PB.set {w0 : World} {B kb : Nat} {m : Kp} {cb : Nat} {ca : Array Value} {s : Value} {ps : List Bs} {n : Nat} {bv : Value} {bl : List TS} {G : Gl} {w : World} (h : PB w0 B kb m cb ca s ps n bv bl w) (hG : Glob B G w0) (p a v : Bs) (hp : p.length ≤ 9223372036854775000) (ha : a.length ≤ 9223372036854775000) (hv : v.length ≤ 9223372036854775000) :
    Calls Tryz.prog 32 #[.pointer (some ⟨kb, 0, none⟩), .string (ofL p), .string (ofL a), .string (ofL v)] w fun e w' => e = .returned (.int .i64 (m.set p a v).1) ∧ PB w0 B kb (m.set p a v).2 cb ca s ps n bv bl w' :=
  (aset w0 B kb m _ G p a v w h.ka hp ha hv hG).mono fun _ _ hh => ⟨hh.1, h.moved hh.2.1 hh.2.2⟩
theorem PB.get {w0 : World} {B kb : Nat} {m : Kp} {cb : Nat} {ca : Array Value} {s : Value} {ps : List Bs} {n : Nat} {bv : Value} {bl : List TS} {G : Gl} {w : World} (h : PB w0 B kb m cb ca s ps n bv bl w) (hG : Glob B G w0) (p a : Bs) (hp : p.length ≤ 9223372036854775000) :
    Calls Tryz.prog 27 #[.pointer (some ⟨kb, 0, none⟩), .string (ofL p), .string (ofL a)] w fun e w' => e = .returned (.tuple #[.string (ofL (m.get p a).1), .int .i64 (m.get p a).2]) ∧ PB w0 B kb m cb ca s ps n bv bl w' :=
  (aget w0 B kb m _ G p a w h.ka hp hG).mono fun _ _ hh => ⟨hh.1, h.moved hh.2.1 hh.2.2⟩
/-- the power is armed -/
theorem PB.arm {w0 : World} {B kb : Nat} {m : Kp} {cb : Nat} {ca : Array Value} {s : Value} {ps : List Bs} {n : Nat} {bv : Value} {bl : List TS} {w : World} (h : PB w0 B kb m cb ca s ps n bv bl w) (a : Int) (ha : -9223372036854775808 ≤ a ∧ a ≤ 9223372036854775807) (hB : B ≤ w0.heap.size) :
    Calls Tryz.prog 22 #[.pointer (some ⟨kb, 0, none⟩), .int .i64 a] w fun e w' => e = .returned (.tuple #[]) ∧ PB w0 B kb (m.arm a) cb ca s ps n bv bl w' := by
  obtain ⟨F, hk, hw, hF, hX⟩ := h.ka
  refine (karm_any B kb F m a w hk ha (Nat.le_trans hB hw.size)).mono fun e w' hh => ?_
  have := Ka.to hw hF hX hh.2
  exact ⟨hh.1, h.moved this.1 this.2⟩
/-! told lists -/
theorem tolds_same {m m' : Kp} (h : Steady m) (h' : Steady m') (ht : m'.st.T = m.st.T) (ps : List Bs) : tolds m' ps = tolds m ps := by
  unfold tolds
  congr 1
  funext p
  unfold tsOf
  rw [steady_get h h' ht, steady_get h h' ht, steady_get h h' ht]
/-- the first pass alone -/
theorem PB.lit {w0 : World} {B kb : Nat} {m : Kp} {cb : Nat} {ca : Array Value} {n : Nat} {w : World} (h : PB w0 B kb m cb ca (.slice none 0 0) [] n (.slice none 0 0) [] w) (p : Bs) (hp : p.length ≤ 9) :
    PB w0 B kb m cb ca (.slice (some ⟨w.heap.size, 0, none⟩) 1 1) [p] (n + 1) (.slice none 0 0) [] (w.alloc (.cells #[.string (ofL p)] 9)) := by
  have hb : Below w.heap.size w (w.alloc (.cells #[.string (ofL p)] 9)) := (Below.refl _ _).alloc (Nat.le_refl _) _
  have h2 := h.below hb
  have hlt := h.cf.lt
  refine ⟨(h.ka.more hb).sub (fun b hb' => ?_), h2.cf, Own.lit strV_length (by unfold maxLen; omega) rfl rfl, Own.nil _ _ _ _, by simp, fun q hq => ?_, fun b hb' e => ?_⟩
  · rcases hb' with e | e | e
    · exact Or.inl (Or.inl e)
    · have e : some w.heap.size = some b := e
      injection e with e
      subst e
      exact Or.inr ⟨Nat.le_refl _, by simp⟩
    · cases e
  · rw [List.mem_singleton.1 hq]; exact hp
  · have e2 : some w.heap.size = some b := hb'
    injection e2 with e2
    omega
def cfgA (c : Cfg) : Array Value := #[.string (ofL c.secret), .int .i64 c.seed, .int .i64 c.idle, .int .i64 c.abs, .int .i64 c.now]
theorem cf_cells {w : World} {cb : Nat} {c : Cfg} (h : Blk w cb (cfgA c) 23) : w.cell? ⟨cb, 0, none⟩ = some (.string (ofL c.secret)) ∧ w.cell? ⟨cb, 1, none⟩ = some (.int .i64 c.seed) ∧ w.cell? ⟨cb, 2, none⟩ = some (.int .i64 c.idle) ∧ w.cell? ⟨cb, 3, none⟩ = some (.int .i64 c.abs) ∧ w.cell? ⟨cb, 4, none⟩ = some (.int .i64 c.now) :=
  ⟨h.cell 0, h.cell 1, h.cell 2, h.cell 3, h.cell 4⟩
/-- a keeper that lives long, the power there -/
structure Calm (m : Kp) (T : Tab) : Prop where
  st : Steady m
  fuse : m.fuse = 0
  tab : m.st.T = T
theorem Calm.act {m : Kp} {T : Tab} (h : Calm m T) (v : Nat) (ps : List Bs) : Calm (actK m v ps).2.2 (actK m v ps).2.2.st.T := by
  rcases steady_act h.st v ps with e | e
  · exact absurd h.fuse e.2.1
  · exact ⟨e.2.1, e.2.2 h.fuse, rfl⟩
theorem Calm.compact {m : Kp} {T : Tab} (h : Calm m T) : (m.compact.1 = 0 ∨ m.compact.1 = 9) ∧ Calm m.compact.2 T := by
  obtain ⟨h1, h2, h3, h4⟩ := steady_compact h.st h.fuse
  exact ⟨h1, h2, h3, h4.trans h.tab⟩
theorem Calm.again {m : Kp} {T : Tab} (h : Calm m T) (c keep torn part : Int) : ∃ m', openK (m.left keep torn part) (confK c true) = (0, some m') ∧ Calm m' T := by
  obtain ⟨m', h1, h2, h3, h4⟩ := steady_again h.st c keep torn part
  exact ⟨m', h1, h2, h3, h4.trans h.tab⟩
theorem Calm.live {m : Kp} {T : Tab} (h : Calm m T) : m.live = (T.live, 0) := by
  rw [(steady_live h.st h.st rfl).2, h.tab]
theorem Calm.tolds {m m' : Kp} {T : Tab} (h : Calm m T) (h' : Calm m' T) (ps : List Bs) : tolds m' ps = tolds m ps := tolds_same h.st h'.st (h'.tab.trans h.tab.symm) ps
end Go.Proofs.YtmnajomkfnkmeaaGreatDoor
