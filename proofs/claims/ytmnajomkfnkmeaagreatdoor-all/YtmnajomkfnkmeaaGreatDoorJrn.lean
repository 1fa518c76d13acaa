import Derived.Test.YtmnajomkfnkmeaaGreatDoorDrvL
import Derived.Test.YtmnajomkfnkmeaaGreatDoorPlaces
import Derived.BigQuiet
import Derived.Deep.RegionHeld3
import Derived.Handy
import Derived.Test.YtmnajomkfnkmeaaGreatDoorStaD
import Derived.Test.YtmnajomkfnkmeaaGreatDoorPurB
set_option maxRecDepth 20000
set_option maxHeartbeats 2000000
namespace Go.Proofs.YtmnajomkfnkmeaaGreatDoor
open Go.RowKit Go.Conc
attribute [local go_sem] ofL_size
structure Jn where
 gen : Nat
 reg : Nat
 slot : Nat
 number : Nat
 next : Nat
 fin : Nat
def drvV (db : Nat) : Value := .iface 84 (.pointer (some ⟨db, 0, none⟩))
def jrnA (db : Nat) (j : Jn) : Array Value := #[drvV db, .int .u32 j.gen, .int .u8 j.reg, .int .i64 j.slot, .int .i64 j.number, .int .i64 j.next, .int .i64 j.fin]
def JB (w : World) (jb db : Nat) (j : Jn) : Prop := Blk w jb (jrnA db j) 178
def Jn.passed (j : Jn) (n : Nat) : Jn := { j with number := j.number + 1, next := j.next + n }
theorem pass_any (jb db n : Nat) (j : Jn) (w : World) (h : JB w jb db j) (hn : j.number ≤ 100000) (hx : j.next ≤ 100000) (hb : n ≤ 100000) :
  Calls Tryz.prog 124 #[.pointer (some ⟨jb, 0, none⟩), .int .i64 n] w fun e w' => e = .returned (.tuple #[]) ∧ JB w' jb db (j.passed n) ∧ Fr (· = jb) w w' ∧ w'.heap.size = w.heap.size := by
 have HH : Hid (JB w jb db j) := h;have c4 : w.cell? ⟨jb, 4, none⟩ = some (.int .i64 j.number) := Blk.cell h 4;have c5 : w.cell? ⟨jb, 5, none⟩ = some (.int .i64 j.next) := Blk.cell h 5;have f4 : w.frozen? ⟨jb, 4, none⟩ = false := Blk.frozen h 4;have f5 : w.frozen? ⟨jb, 5, none⟩ = false := Blk.frozen h 5;clear h;go_enter Tryz.func124, Tryz.ntmps124;go_wp2_with fail;go_end0;have h1 := HH.out.set 5 (.int .i64 ((j.next : Int) + n));have h2 := Blk.set h1 4 (.int .i64 ((j.number : Int) + 1));refine ⟨rfl, ?_, ((Fr.refl (· = jb) w).setCell ⟨jb, 5, none⟩ (fun _ => rfl) _).setCell ⟨jb, 4, none⟩ (fun _ => rfl) _, by simp [World.setCell]⟩;unfold JB jrnA Jn.passed;rw [show ((j.number + 1 : Nat) : Int) = (j.number : Int) + 1 by omega, show ((j.next + n : Nat) : Int) = (j.next : Int) + n by omega];exact h2
theorem jroom_any (jb db : Nat) (j : Jn) (w : World) (h : JB w jb db j) (hn : j.next ≤ j.fin) (hx : j.fin ≤ 100000) :
  Calls Tryz.prog 122 #[.pointer (some ⟨jb, 0, none⟩)] w fun e w' => e = .returned (.int .i64 ((j.fin - j.next : Nat) : Int)) ∧ Below w.heap.size w w' := by
 have c5 : w.cell? ⟨jb, 5, none⟩ = some (.int .i64 j.next) := Blk.cell h 5;have c6 : w.cell? ⟨jb, 6, none⟩ = some (.int .i64 j.fin) := Blk.cell h 6;have HR : Hid (((j.fin - j.next : Nat) : Int) = (j.fin : Int) - j.next) := by show _ = _; omega
 clear h;go_enter Tryz.func122, Tryz.ntmps122;go_wp2_with fail
 go_quiet (fail)
 go_wp2;go_ret;rw [HR.out];exact ⟨rfl, below_drewN (Below.refl _ _) _⟩
theorem record_L (g k : Nat) (p : Bs) (w : World) (h1 : g < 4294967296) (h3 : k < 65536) (h4 : p.length < 65536) :
  Calls Tryz.prog 107 #[.int .u32 g, .int .u16 k, .string (ofL p)] w fun e w' => e = .returned (.string (ofL (recB g k p))) ∧ Below w.heap.size w w' := by
 rw [← recA_L];exact record_any g k (ofL p) w (by omega) (by omega) (by omega) (by omega) (by rw [ofL_size]; exact h4)
theorem jstep2 {w0 w1 w2 : World} {b i j : Nat} {u v : Value} (h : w1.cell? ⟨b, i, none⟩ = some u ∧ w1.cell? ⟨b, j, none⟩ = some v ∧ b < w1.heap.size ∧ Below w0.heap.size w0 w1) (hb : Below w1.heap.size w1 w2) :
  w2.cell? ⟨b, i, none⟩ = some u ∧ w2.cell? ⟨b, j, none⟩ = some v ∧ b < w2.heap.size ∧ Below w0.heap.size w0 w2 := stepP h hb
theorem jrecord_any (jb db : Nat) (j : Jn) (p : Bs) (w : World) (h : JB w jb db j) (hj : j.gen < 4294967296) (hn : j.number < 65536) (hp : p.length < 65536) :
  Calls Tryz.prog 120 #[.pointer (some ⟨jb, 0, none⟩), .string (ofL p)] w fun e w' => e = .returned (.string (ofL (recB j.gen j.number p))) ∧ Below w.heap.size w w' := by
 have c1 : w.cell? ⟨jb, 1, none⟩ = some (.int .u32 j.gen) := Blk.cell h 1;have c4 : w.cell? ⟨jb, 4, none⟩ = some (.int .i64 j.number) := Blk.cell h 4;have hlt := h.lt;have w16 : IntKind.u16.wrap (j.number : Int) = j.number := IntWalk.u16_in _ (by omega);have HK : Hid (j.gen < 4294967296 ∧ j.number < 65536 ∧ p.length < 65536) := ⟨hj, hn, hp⟩;clear h hj hn hp;go_enter Tryz.func120, Tryz.ntmps120;go_wp2_with fail
 go_region_held3 (fun w' => w'.cell? ⟨jb, 1, none⟩ = some (.int .u32 j.gen) ∧ w'.cell? ⟨jb, 4, none⟩ = some (.int .i64 j.number) ∧ jb < w'.heap.size ∧ Below w.heap.size w w')
  (first
   | exact jstep2 (by assumption) (by assumption)
   | exact ⟨c1, c4, hlt, (Below.refl _ _).drew⟩)
  (first
   | (go_at_call 107; refine (record_L j.gen j.number p _ HK.out.1 HK.out.2.1 HK.out.2.2).mono ?_; rintro e w' ⟨rfl, hbN⟩))
 rename_i hHeld;go_wp2_with fail;go_ret;exact ⟨rfl, hHeld.2.2.2⟩
def Jn.rest (j : Jn) (disk : Bs) : Bs := (disk.drop j.next).take (j.fin - j.next)
theorem read_L (g k : Nat) (l : Bs) (B : Nat) (G : Gl) (w : World) (h1 : g < 4294967296) (h3 : k < 65536) (hl : l.length ≤ 1000000) (hG : Glob B G w) :
  Calls Tryz.prog 202 #[.string (ofL l), .int .u32 g, .int .u16 k] w fun e w' => e = .returned (recRes (errV G.recd) (firstB g k l)) ∧ Below w.heap.size w w' := by
 rw [← firstB_code];exact readRecord_any g k l _ w (by omega) (by omega) (by omega) (by omega) hG.recd.1 (Nat.lt_of_lt_of_le hG.recd.2 hG.le) (by omega)
theorem step4 {w0 w1 w2 : World} {jb i1 i2 i3 i4 : Nat} {a b c d : Value} (h : w1.cell? ⟨jb, i1, none⟩ = some a ∧ w1.cell? ⟨jb, i2, none⟩ = some b ∧ w1.cell? ⟨jb, i3, none⟩ = some c ∧ w1.cell? ⟨jb, i4, none⟩ = some d ∧ jb < w1.heap.size ∧ Below w0.heap.size w0 w1) (hb : Below w1.heap.size w1 w2) :
  w2.cell? ⟨jb, i1, none⟩ = some a ∧ w2.cell? ⟨jb, i2, none⟩ = some b ∧ w2.cell? ⟨jb, i3, none⟩ = some c ∧ w2.cell? ⟨jb, i4, none⟩ = some d ∧ jb < w2.heap.size ∧ Below w0.heap.size w0 w2 :=
 ⟨(below_cell hb h.2.2.2.2.1).trans h.1, (below_cell hb h.2.2.2.2.1).trans h.2.1, (below_cell hb h.2.2.2.2.1).trans h.2.2.1, (below_cell hb h.2.2.2.2.1).trans h.2.2.2.1, Nat.lt_of_lt_of_le h.2.2.2.2.1 hb.size, bstep h.2.2.2.2.2 hb⟩
theorem jread_any (jb db : Nat) (j : Jn) (disk : Bs) (B : Nat) (G : Gl) (w : World) (h : JB w jb db j) (hj : j.gen < 4294967296) (hn : j.number < 65536) (hx : j.next ≤ j.fin) (hf : j.fin ≤ disk.length) (hd : disk.length ≤ 6400) (hG : Glob B G w) :
  Calls Tryz.prog 186 #[.pointer (some ⟨jb, 0, none⟩), .string (ofL disk)] w fun e w' => e = .returned (recRes (errV G.recd) (firstB j.gen j.number (j.rest disk))) ∧ Below w.heap.size w w' := by
 obtain ⟨l, hl⟩ : ∃ l, l = j.rest disk := ⟨_, rfl⟩;have HEX : Hid ((ofL disk).extract j.next j.fin = ofL l) := by
  show _ = _;rw [extract_ofL, hl]; rfl
 have hll : l.length ≤ 1000000 := by rw [hl]; unfold Jn.rest; rw [List.length_take, List.length_drop]; omega
 rw [← hl];have hs : ∃ a b c, recRes (errV G.recd) (firstB j.gen j.number l) = .tuple #[a, b, c] := by
  cases firstB j.gen j.number l with
  | none => exact ⟨_, _, _, rfl⟩
  | some p => exact ⟨_, _, _, rfl⟩
 obtain ⟨r1, r2, r3, hr⟩ := hs;have HR : Hid (recRes (errV G.recd) (firstB j.gen j.number l) = .tuple #[r1, r2, r3]) := hr;have hlt := h.lt;have c1 : w.cell? ⟨jb, 1, none⟩ = some (.int .u32 j.gen) := Blk.cell h 1;have c4 : w.cell? ⟨jb, 4, none⟩ = some (.int .i64 j.number) := Blk.cell h 4;have c5 : w.cell? ⟨jb, 5, none⟩ = some (.int .i64 j.next) := Blk.cell h 5;have c6 : w.cell? ⟨jb, 6, none⟩ = some (.int .i64 j.fin) := Blk.cell h 6;have w16 : IntKind.u16.wrap (j.number : Int) = j.number := IntWalk.u16_in _ (by omega);have HK : Hid (j.gen < 4294967296 ∧ j.number < 65536 ∧ l.length ≤ 1000000) := ⟨hj, hn, hll⟩;have HG : Hid (Glob B G w) := hG;have g1 : (0 : Int) ≤ j.next := by omega
 have g2 : (j.next : Int) ≤ j.fin := by omega
 have g3 : (j.fin : Int) ≤ disk.length := by omega
 clear h hj hn hx hf hd hG hl hll hr;go_enter Tryz.func186, Tryz.ntmps186;go_wp2_with fail
 go_region_held3 (fun w' => w'.cell? ⟨jb, 1, none⟩ = some (.int .u32 j.gen) ∧ w'.cell? ⟨jb, 4, none⟩ = some (.int .i64 j.number) ∧ w'.cell? ⟨jb, 5, none⟩ = some (.int .i64 j.next) ∧ w'.cell? ⟨jb, 6, none⟩ = some (.int .i64 j.fin) ∧ jb < w'.heap.size ∧ Below w.heap.size w w')
  (first
   | exact step4 (by assumption) (by assumption)
   | exact ⟨c1, c4, c5, c6, hlt, (Below.refl _ _).drew⟩)
  (first
   | (go_at_call 202; rw [HEX.out]; refine (read_L j.gen j.number l B G _ HK.out.1 HK.out.2.1 HK.out.2.2 ?_).mono ?_; exact HG.out.drew; rw [HR.out]; rintro e w' ⟨rfl, hbN⟩))
 rename_i hHeld;go_wp2_with fail;refine bodyPost_ret (v := .tuple #[r1, r2, r3]) (by simp [results, Tryz.results186, go_sem]) rfl ⟨?_, hHeld.2.2.2.2.2⟩;rw [HR.out]
end Go.Proofs.YtmnajomkfnkmeaaGreatDoor
namespace Go.Proofs.YtmnajomkfnkmeaaGreatDoor
open Go.RowKit Go.Conc
attribute [local go_sem] ofL_size
theorem store_yes {d : Dv} {a : Nat} {t : Bs} (h : (d.put a t).1 = true) : d.store a t = (d.put a t).2.flush := by unfold Dv.store; rw [if_pos h]
theorem store_no {d : Dv} {a : Nat} {t : Bs} (h : (d.put a t).1 = false) : d.store a t = (false, (d.put a t).2) := by unfold Dv.store; rw [if_neg (by rw [h]; decide)]
theorem jstore_any (jb db B : Nat) (F : Nat → Prop) (d : Dv) (j : Jn) (G : Gl) (a : Nat) (t : Bs) (w : World) (h : DrvAt w B db F d) (hok : d.ok) (hu : d.down = false) (hb : a + t.length ≤ d.stable.length) (hw : d.way.length ≤ 1000) (hG : Glob B G w) (hj : JB w jb db j) (hnf : ¬ F jb) :
  Calls Tryz.prog 123 #[.pointer (some ⟨jb, 0, none⟩), .int .i64 a, .string (ofL t)] w fun e w' => e = .returned (downV (errV G.down) (d.store a t).1) ∧ DrvTo w B db F (d.store a t).2 w' := by
 have c0 : w.cell? ⟨jb, 0, none⟩ = some (drvV db) := Blk.cell hj 0;have HJ : Hid (JB w jb db j ∧ ¬ F jb) := ⟨hj, hnf⟩;have HG : Hid (Glob B G w) := hG;have HH : Hid (DrvAt w B db F d) := h;have HOK : Hid (d.ok ∧ d.down = false ∧ a + t.length ≤ d.stable.length ∧ d.way.length ≤ 1000) := ⟨hok, hu, hb, hw⟩;clear hj hnf hG h hok hu hb hw;unfold drvV at c0;go_enter Tryz.func123, Tryz.ntmps123;go_wp2_with fail;refine (put_drive db B F d G a t _ HH.out HOK.out.1 HOK.out.2.1 HOK.out.2.2.1 HOK.out.2.2.2 HG.out).mono ?_;rintro e w1 ⟨rfl, hd1⟩;have HD1 : Hid (DrvTo w B db F (d.put a t).2 w1) := hd1;have HO1 : Hid ((d.put a t).2.ok) := (Dv.put_ok HOK.out.1 HOK.out.2.2.1).1;have HY : Hid ((d.put a t).1 = true → d.store a t = (d.put a t).2.flush) := store_yes;have HN : Hid ((d.put a t).1 = false → d.store a t = (false, (d.put a t).2)) := store_no;clear hd1;generalize d.put a t = r at *
 by_cases hr : r.1 = true
 ·have HS : Hid (d.store a t = r.2.flush) := HY.out hr;rw [hr];obtain ⟨F1, ha1, hf1, hn1⟩ := HD1.out;have HA : Hid (DrvAt w1 B db F1 r.2 ∧ Fr F w w1 ∧ ∀ b, F1 b → F b ∨ w.heap.size ≤ b) := ⟨ha1, hf1, hn1⟩;have c0' : w1.cell? ⟨jb, 0, none⟩ = some (.iface 84 (.pointer (some ⟨db, 0, none⟩))) := (hf1.cell (p := ⟨jb, 0, none⟩) (HJ.out.1.lt) HJ.out.2).trans c0;have HG1 : Hid (Glob B G w1) := HG.out.fr hf1 (fun b hb => (HH.out.foot hb).1);clear ha1 hf1 hn1 hr HY HN;unfold downV;go_wp2_with fail;refine (flush_any db B F1 r.2 G _ HA.out.1 HO1.out HG1.out).mono ?_;rintro e w2 ⟨rfl, hd2⟩;have HD2 : Hid (DrvTo w B db F r.2.flush.2 w2) := DrvTo.trans HA.out.2.1 HA.out.2.2 hd2;clear hd2;generalize r.2.flush = q at *
  go_wp2_with fail;go_ret;rw [HS.out];exact ⟨rfl, HD2.out⟩
 ·have HS : Hid (d.store a t = (false, r.2)) := HN.out (Bool.eq_false_iff.2 hr);rw [Bool.eq_false_iff.2 hr];clear hr HY HN;unfold downV errV;go_wp2_with fail;go_ret;rw [HS.out];exact ⟨rfl, HD1.out⟩
end Go.Proofs.YtmnajomkfnkmeaaGreatDoor
namespace Go.Proofs.YtmnajomkfnkmeaaGreatDoor
open Go.RowKit Go.Conc
attribute [local go_sem] ofL_size
def jnOf (len : Nat) (st : St) : Jn := ⟨st.gen, st.reg, st.slot, st.next, regAt len st.reg + st.endp, regAt len st.reg + halfN len⟩
theorem jnOf_does (len : Nat) (st : St) (c : Chg) : (jnOf len st).passed ((chgB c).length + 10) = jnOf len (st.does c) := by
 unfold jnOf Jn.passed St.does;simp only [Jn.mk.injEq, true_and, and_true];omega
structure DJ (w : World) (B db jb : Nat) (F : Nat → Prop) (m : Kp) (d : Dv) : Prop where
 drv : DrvAt w B db F d
 ok : d.ok
 kd : KD m d
 jrn : JB w jb db (jnOf m.disk.length m.st)
 apart : ¬ F jb
 ge : B ≤ jb
theorem DJ.size {w : World} {B db jb : Nat} {F : Nat → Prop} {m : Kp} {d : Dv} (h : DJ w B db jb F m d) : okSize m.disk.length := by rw [← h.kd.stable]; exact h.ok.size
def DJTo (w : World) (B db jb : Nat) (F : Nat → Prop) (m : Kp) (w' : World) : Prop := ∃ F' d', DJ w' B db jb F' m d' ∧ Fr (fun b => F b ∨ b = jb) w w' ∧ ∀ b, F' b → F b ∨ w.heap.size ≤ b
theorem DJTo.same {w : World} {B db jb : Nat} {F : Nat → Prop} {m : Kp} {d : Dv} (h : DJ w B db jb F m d) : DJTo w B db jb F m w := ⟨F, d, h, Fr.refl _ w, fun _ h => Or.inl h⟩
theorem DJ.kept {S : Nat → Prop} {w w' : World} {B db jb : Nat} {F : Nat → Prop} {m : Kp} {d : Dv} (h : DJ w B db jb F m d) (hf : Fr S w w') (hn : ∀ b, F b ∨ b = jb → ¬ S b) : DJ w' B db jb F m d :=
 ⟨h.drv.kept hf (fun b hb => hn b (Or.inl hb)), h.ok, h.kd, h.jrn.kept hf (hn jb (Or.inr rfl)), h.apart, h.ge⟩
theorem DJ.below {w w' : World} {B db jb : Nat} {F : Nat → Prop} {m : Kp} {d : Dv} (h : DJ w B db jb F m d) (hb : Below w.heap.size w w') : DJ w' B db jb F m d := h.kept (S := fun _ => False) (Fr.of_below hb) (fun _ _ h => h)
theorem DJ.foot {w : World} {B db jb : Nat} {F : Nat → Prop} {m : Kp} {d : Dv} (h : DJ w B db jb F m d) {b : Nat} (hb : F b ∨ b = jb) : B ≤ b ∧ b < w.heap.size := by
 rcases hb with hb | rfl
 ·exact h.drv.foot hb
 ·exact ⟨h.ge, h.jrn.lt⟩
theorem DJTo.trans {w w1 w2 : World} {B db jb : Nat} {F F1 : Nat → Prop} {m : Kp} (hf : Fr (fun b => F b ∨ b = jb) w w1) (hF : ∀ b, F1 b → F b ∨ w.heap.size ≤ b) (h2 : DJTo w1 B db jb F1 m w2) : DJTo w B db jb F m w2 := by
 obtain ⟨F2, d2, ha2, hf2, hF2⟩ := h2;refine ⟨F2, d2, ha2, hf.trans hf2 (fun i hi h => ?_), fun b hb => ?_⟩
 ·rcases h with h | h
  ·rcases hF i h with h | h
   ·exact Or.inl h
   ·omega
  ·exact Or.inr h
 ·rcases hF2 b hb with h | h
  ·exact hF b h
  ·exact Or.inr (Nat.le_trans hf.size h)
theorem DJTo.after_below {w w1 w2 : World} {B db jb : Nat} {F : Nat → Prop} {m : Kp} (hb : Below w.heap.size w w1) (h2 : DJTo w1 B db jb F m w2) : DJTo w B db jb F m w2 := DJTo.trans (Fr.of_below hb) (fun _ h => Or.inl h) h2
theorem writes_st (m : Kp) (p : Nat) (r : Bs) (hu : m.down = false) (hw : m.way = []) : (m.writes p r).2.st = m.st ∧ (p + r.length ≤ m.disk.length → (m.writes p r).2.disk.length = m.disk.length) := by
 cases h : (m.writes p r).1 with
 | true => rw [writes_yes hu h]; exact ⟨rfl, fun hp => laidB_length hp⟩
 | false =>
  obtain ⟨qs, rs, _, _, e⟩ := writes_no hu hw h;rw [e]; exact ⟨rfl, fun _ => rfl⟩
theorem mstore_any (jb db xb B : Nat) (F : Nat → Prop) (d : Dv) (m : Kp) (j : Jn) (G : Gl) (a : Nat) (t : Bs) (w : World) (h : DJ w B db jb F m d) (hu : m.down = false) (ht : 0 < t.length) (hb : a + t.length ≤ m.disk.length) (hG : Glob B G w) (hj : JB w xb db j) (hnf : ¬ F xb) :
  Calls Tryz.prog 123 #[.pointer (some ⟨xb, 0, none⟩), .int .i64 a, .string (ofL t)] w fun e w' => e = .returned (downV (errV G.down) (m.writes a t).1) ∧ ∃ F' d', DrvAt w' B db F' d' ∧ d'.ok ∧ KD (m.writes a t).2 d' ∧ Fr F w w' ∧ ∀ b, F' b → F b ∨ w.heap.size ≤ b := by
 have hdd : d.down = false := h.kd.down.trans hu;have hst : d.stable.length = m.disk.length := by rw [h.kd.stable]
 refine (jstore_any xb db B F d j G a t w h.drv h.ok hdd (by omega) (by rw [(h.kd.rest hdd).1]; exact Nat.zero_le _) hG hj hnf).mono ?_;rintro e w' ⟨rfl, F', ha, hf, hn⟩;obtain ⟨e1, e2⟩ := h.kd.store h.ok hu ht hb;refine ⟨by rw [e1], F', _, ha, ?_, e2, hf, hn⟩;have hp := Dv.put_ok h.ok (a := a) (t := t) (by omega);unfold Dv.store;split
 ·exact (Dv.flush_ok hp.1).1
 ·exact hp.1
def jerrV (G : Gl) (e : Nat) : Value := if e = 0 then .nilIface else if e = 4 then errV G.down else errV G.full
theorem change_full {m : Kp} {c : Chg} (h : m.full c = true) : m.change c = (9, m) := by unfold Kp.change; rw [if_pos h]
theorem change_yes {m : Kp} {c : Chg} (h : m.full c = false) (hw : (m.writes (regAt m.disk.length m.st.reg + m.st.endp) (recB m.st.gen m.st.next (chgB c))).1 = true) : m.change c = (0, { (m.writes (regAt m.disk.length m.st.reg + m.st.endp) (recB m.st.gen m.st.next (chgB c))).2 with st := m.st.does c }) := by
 unfold Kp.change; rw [if_neg (by rw [h]; decide), if_pos hw]
theorem change_no {m : Kp} {c : Chg} (h : m.full c = false) (hw : (m.writes (regAt m.disk.length m.st.reg + m.st.endp) (recB m.st.gen m.st.next (chgB c))).1 = false) : m.change c = (4, (m.writes (regAt m.disk.length m.st.reg + m.st.endp) (recB m.st.gen m.st.next (chgB c))).2) := by
 unfold Kp.change; rw [if_neg (by rw [h]; decide), if_neg (by rw [hw]; decide)]
theorem KD.with_st {m : Kp} {d : Dv} (h : KD m d) (st : St) : KD { m with st := st } d := ⟨h.stable, h.fuse, h.down, h.way, h.rest⟩
theorem appended {w w1 w2 : World} {B db jb : Nat} {F F1 : Nat → Prop} {m W : Kp} {d1 : Dv} {st : St} (hjw : jb < w.heap.size) (hnf : ¬ F jb) (hge : B ≤ jb) (hd : DrvAt w1 B db F1 d1) (hok : d1.ok) (hkd : KD W d1) (hl : W.disk.length = m.disk.length)
  (hf : Fr F w w1) (hn : ∀ b, F1 b → F b ∨ w.heap.size ≤ b) (hj : JB w2 jb db (jnOf m.disk.length st)) (hf2 : Fr (· = jb) w1 w2) : DJTo w B db jb F { W with st := st } w2 := by
 have hn1 : ¬ F1 jb := fun h => by
  rcases hn jb h with h | h
  ·exact hnf h
  ·omega
 refine ⟨F1, d1, ⟨hd.kept hf2 (fun b hb e => hn1 (e ▸ hb)), hok, hkd.with_st st, ?_, hn1, hge⟩, (hf.mono (fun _ _ h => Or.inl h)).trans hf2 (fun _ _ h => Or.inr h), hn⟩;show JB w2 jb db (jnOf W.disk.length st);rw [hl]; exact hj
theorem append_any (jb db B : Nat) (F : Nat → Prop) (d : Dv) (m : Kp) (G : Gl) (c : Chg) (t : Nat) (w : World) (h : DJ w B db jb F m d) (hm : Good m) (hc : c.ok) (ht : t ≤ maxT) (hG : Glob B G w) :
  Calls Tryz.prog 110 #[.pointer (some ⟨jb, 0, none⟩), chgW t c] w fun e w' => e = .returned (jerrV G (m.change c).1) ∧ DJTo w B db jb F (m.change c).2 w' := by
 have hbd := hm.holds.bounds;have hsz := h.size;have hra := regAt_le hsz hbd.2.2.1;have hcl := chgB_length c hc;have HH : Hid (DJ w B db jb F m d) := h;have HG : Hid (Glob B G w) := hG;have HM : Hid (Good m) := hm;have HC : Hid (c.ok ∧ t ≤ maxT) := ⟨hc, ht⟩;have HB : Hid (regAt m.disk.length m.st.reg + halfN m.disk.length ≤ m.disk.length ∧ m.disk.length ≤ 6400 ∧ m.st.endp ≤ halfN m.disk.length ∧ m.st.gen < 4294967296 ∧ (chgB c).length ≤ 25) := ⟨hra.1, hsz.2.2, hbd.2.2.2.2.1, hbd.2.1, hcl.2⟩;have hsv : ∃ k id too u t' n v, chgW t c = chV k id too u t' n v := by cases c <;> exact ⟨_, _, _, _, _, _, _, rfl⟩
 obtain ⟨k, id, too, u, t', n, v, hv⟩ := hsv;have HV : Hid (chgW t c = chV k id too u t' n v) := hv;have hq : Blk (w.alloc (.cells (chA k id too u t' n v) 101)) w.heap.size (chA k id too u t' n v) 101 := Blk.new _ _ _;have HBL : Hid (Below w.heap.size w (w.alloc (.cells (chA k id too u t' n v) 101))) := bA;unfold chA at hq HBL;have hj0 : JB (w.alloc (.cells #[.int .u8 k, .int .i64 id, .int .i64 too, .int .i64 u, .int .i64 t', .string (ofL n), .string (ofL v)] 101)) jb db (jnOf m.disk.length m.st) := Blk.below h.jrn HBL.out;have c4 := Blk.cell hj0 4;simp only [jrnA, jnOf, gT, gZ, gS] at c4;have hgf := (below_cell (i := 0) HBL.out (Nat.lt_of_lt_of_le hG.full.2 hG.le)).trans hG.full.1;rw [hv];unfold chV;by_cases hnx : 65535 < m.st.next
 ·have hfl : m.full c = true := by unfold Kp.full; rw [decide_eq_true hnx, Bool.or_true]
  have HFL : Hid (m.change c = (9, m)) := change_full hfl;clear h hm hc ht hG hbd hsz hra hcl hfl hv hq hj0;go_enter Tryz.func110, Tryz.ntmps110;go_wp2_with fail;go_ret;rw [HFL.out];exact ⟨rfl, DJTo.after_below HBL.out (DJTo.same (HH.out.below HBL.out))⟩
 ·have HJ0 : Hid (JB _ jb db _) := hj0;have HPAY : Hid (∀ w', Calls Tryz.prog 150 #[.agg #[.int .u8 k, .int .i64 id, .int .i64 too, .int .i64 u, .int .i64 t', .string (ofL n), .string (ofL v)]] w' fun e w'' => e = .returned (.string (ofL (chgB c))) ∧ Below w'.heap.size w' w'') := fun w' => by
   have := pay_at c t ht hc w';rw [hv] at this;exact this
  clear h hm hc ht hG hbd hsz hra hcl hv hq hj0;go_enter Tryz.func110, Tryz.ntmps110;go_wp2_with fail;refine (HPAY.out _).mono ?_;rintro e w1 ⟨rfl, hb1⟩;have HB1 : Hid (Below w.heap.size w w1) := bstep HBL.out hb1;have HJ1 : Hid (JB w1 jb db (jnOf m.disk.length m.st)) := Blk.below HJ0.out hb1;clear c4 hgf hb1 HJ0 HPAY;generalize w.alloc (Obj.cells _ _ _) = w0 at *
  clear HBL;go_wp2_with fail;refine (jrecord_any jb db _ (chgB c) _ HJ1.out HB.out.2.2.2.1 (by show m.st.next < 65536; omega) (by have := HB.out.2.2.2.2; omega)).mono ?_;rintro e w2 ⟨rfl, hb2⟩;have HB2 : Hid (Below w.heap.size w w2) := bstep HB1.out hb2;have HJ2 : Hid (JB w2 jb db (jnOf m.disk.length m.st)) := Blk.below HJ1.out hb2;clear hb2 HJ1 HB1;obtain ⟨r, hr⟩ : ∃ r, r = recB m.st.gen m.st.next (chgB c) := ⟨_, rfl⟩;have hrl : r.length = (chgB c).length + 10 := by rw [hr, recB_length]
  rw [show recB (jnOf m.disk.length m.st).gen (jnOf m.disk.length m.st).number (chgB c) = r from hr.symm];have HRR : Hid (r = recB m.st.gen m.st.next (chgB c) ∧ r.length = (chgB c).length + 10) := ⟨hr, hrl⟩;clear hr hrl;go_wp2_with fail;refine (jroom_any jb db _ _ HJ2.out (by show regAt _ _ + _ ≤ regAt _ _ + _; have := HB.out.2.2.1; omega) (by show regAt _ _ + _ ≤ _; have := HB.out.1; have := HB.out.2.1; omega)).mono ?_;rintro e w3 ⟨rfl, hb3⟩;have HB3 : Hid (Below w.heap.size w w3) := bstep HB2.out hb3;have HJ3 : Hid (JB w3 jb db (jnOf m.disk.length m.st)) := Blk.below HJ2.out hb3;clear hb3 HJ2 HB2;rw [show (jnOf m.disk.length m.st).fin - (jnOf m.disk.length m.st).next = halfN m.disk.length - m.st.endp by show regAt _ _ + _ - (regAt _ _ + _) = _; omega];obtain ⟨q, hq⟩ : ∃ q, q = halfN m.disk.length - m.st.endp := ⟨_, rfl⟩;rw [← hq];by_cases hfit : q < r.length
  ·have HFL : Hid (m.change c = (9, m)) := change_full (by
    unfold Kp.full
    rw [decide_eq_true (by have := HRR.out.2; have := HB.out.2.2.1; omega)]; rfl)
   have hgf := (below_cell (i := 0) HB3.out (Nat.lt_of_lt_of_le HG.out.full.2 HG.out.le)).trans HG.out.full.1;clear hq;go_wp2_with fail;go_ret;rw [HFL.out];exact ⟨rfl, DJTo.after_below HB3.out (DJTo.same (HH.out.below HB3.out))⟩
  ·have HFN : Hid (m.full c = false ∧ (chgB c).length + 10 ≤ halfN m.disk.length - m.st.endp) := by
    have h1 := HRR.out.2;have h2 := HB.out.2.2.1;refine ⟨?_, by omega⟩;unfold Kp.full;rw [decide_eq_false (by omega), decide_eq_false hnx]; rfl
   have HD3 : Hid (DJ w3 B db jb F m d) := HH.out.below HB3.out;have HG3 : Hid (Glob B G w3) := HG.out.fr (Fr.of_below (S := fun _ => False) HB3.out) (fun b h => h.elim);have c5 : w3.cell? ⟨jb, 5, none⟩ = some (.int .i64 (jnOf m.disk.length m.st).next) := Blk.cell HJ3.out 5;clear hq;go_wp2_with fail;have HP : Hid (0 < r.length ∧ (jnOf m.disk.length m.st).next + r.length ≤ m.disk.length) := by
    have h1 := HRR.out.2;have h2 := HFN.out.2;have h3 := HB.out.1;have h4 := HB.out.2.2.1;refine ⟨by omega, ?_⟩;show regAt _ _ + _ + _ ≤ _;omega
   refine (mstore_any jb db jb B F d m _ G _ r _ HD3.out HM.out.up HP.out.1 HP.out.2 HG3.out HJ3.out HD3.out.apart).mono ?_;rintro e w4 ⟨rfl, F', d', ha, hok, hkd, hf, hn⟩;have HJ4 : Hid (JB w4 jb db (jnOf m.disk.length m.st)) := HJ3.out.kept hf HD3.out.apart;have HWS : Hid (_ ∧ _) := writes_st m (jnOf m.disk.length m.st).next r HM.out.up HM.out.way;have HWY : Hid ((m.writes (jnOf m.disk.length m.st).next r).1 = true → m.change c = (0, { (m.writes (jnOf m.disk.length m.st).next r).2 with st := m.st.does c })) := fun h => by
    have e : (m.writes (jnOf m.disk.length m.st).next r) = m.writes (regAt m.disk.length m.st.reg + m.st.endp) (recB m.st.gen m.st.next (chgB c)) := by rw [HRR.out.1]; rfl
    rw [e] at h ⊢;exact change_yes HFN.out.1 h
   have HWN : Hid ((m.writes (jnOf m.disk.length m.st).next r).1 = false → m.change c = (4, (m.writes (jnOf m.disk.length m.st).next r).2)) := fun h => by
    have e : (m.writes (jnOf m.disk.length m.st).next r) = m.writes (regAt m.disk.length m.st.reg + m.st.endp) (recB m.st.gen m.st.next (chgB c)) := by rw [HRR.out.1]; rfl
    rw [e] at h ⊢;exact change_no HFN.out.1 h
   have HA : Hid (DrvAt w4 B db F' d' ∧ d'.ok ∧ KD (m.writes (jnOf m.disk.length m.st).next r).2 d' ∧ Fr F w3 w4 ∧ ∀ b, F' b → F b ∨ w3.heap.size ≤ b) := ⟨ha, hok, hkd, hf, hn⟩;have HLT : Hid (jb < w3.heap.size) := HJ3.out.lt;clear ha hok hkd hf hn c5;by_cases hw : (m.writes (jnOf m.disk.length m.st).next r).1 = true
   ·have HE := HWY.out hw;have HE : Hid (m.change c = _) := HE;rw [hw];have HLEN : Hid ((m.writes (jnOf m.disk.length m.st).next r).2.disk.length = m.disk.length) := HWS.out.2 HP.out.2;clear hw HWY HWN HWS;generalize (m.writes (jnOf m.disk.length m.st).next r).2 = W at *
    unfold downV;go_wp2_with fail;refine (pass_any jb db r.length _ _ HJ4.out (by show m.st.next ≤ _; omega) (by have := HP.out.2; have := HB.out.2.1; omega) (by have := HP.out.2; have := HB.out.2.1; omega)).mono ?_;rintro e w5 ⟨rfl, hj5, hf5, hz5⟩;rw [HRR.out.2, jnOf_does] at hj5;have HFIN : Hid (DJTo w B db jb F { W with st := m.st.does c } w5) := DJTo.after_below HB3.out (appended HLT.out HD3.out.apart HD3.out.ge HA.out.1 HA.out.2.1 HA.out.2.2.1 HLEN.out HA.out.2.2.2.1 HA.out.2.2.2.2 hj5 hf5);clear hj5 hf5 hz5;go_wp2_with fail;go_ret;rw [HE.out];exact ⟨rfl, HFIN.out⟩
   ·have HE : Hid (m.change c = _) := HWN.out (Bool.eq_false_iff.2 hw);rw [Bool.eq_false_iff.2 hw];have HLEN : Hid ((m.writes (jnOf m.disk.length m.st).next r).2.disk.length = m.disk.length) := HWS.out.2 HP.out.2;have HST : Hid ((m.writes (jnOf m.disk.length m.st).next r).2.st = m.st) := HWS.out.1;clear hw HWY HWN HWS;generalize (m.writes (jnOf m.disk.length m.st).next r).2 = W at *
    unfold downV errV;go_wp2_with fail;go_ret;rw [HE.out];refine ⟨rfl, ?_⟩;have := DJTo.after_below HB3.out (appended (st := m.st) HLT.out HD3.out.apart HD3.out.ge HA.out.1 HA.out.2.1 HA.out.2.2.1 HLEN.out HA.out.2.2.2.1 HA.out.2.2.2.2 HJ4.out (Fr.refl _ _));rw [← HST.out] at this;exact this
end Go.Proofs.YtmnajomkfnkmeaaGreatDoor
