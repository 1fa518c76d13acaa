import Derived.Test.YtmnajomkfnkmeaaGreatDoorDrvL
import Derived.Test.YtmnajomkfnkmeaaGreatDoorThN
import Derived.BigQuiet
import Derived.Deep.RegionHeld3
import Derived.Handy
import Derived.Test.YtmnajomkfnkmeaaGreatDoorStaD
namespace Go.Proofs.YtmnajomkfnkmeaaGreatDoor
open Go.RowKit Go.Conc
attribute [local go_sem] ofL_size
/-! THE JOURNAL IN MEMORY -/
structure Jn where
  gen : Nat
  reg : Nat
  slot : Nat
  number : Nat
  next : Nat
  fin : Nat
def drvV (db : Nat) : Value := .iface 84 (.pointer (some ⟨db, 0, none⟩))
def jrnA (db : Nat) (j : Jn) : Array Value := #[drvV db, .int .u32 j.gen, .int .u8 j.reg, .int .i64 j.slot, .int .i64 j.number, .int .i64 j.next, .int .i64 j.fin]
def JB (w : World) (jb db : Nat) (j : Jn) : Prop := Blk w jb (jrnA db j) 178
def Jn.passed (j : Jn) (n : Nat) : Jn := { j with number := j.number + 1, next := j.next + n }
set_option maxHeartbeats 400000 in
theorem pass_any (jb db n : Nat) (j : Jn) (w : World) (h : JB w jb db j) (hn : j.number ≤ 100000) (hx : j.next ≤ 100000) (hb : n ≤ 100000) :
    Calls Tryz.prog 124 #[.pointer (some ⟨jb, 0, none⟩), .int .i64 n] w fun e w' => e = .returned (.tuple #[]) ∧ JB w' jb db (j.passed n) ∧ Fr (· = jb) w w' ∧ w'.heap.size = w.heap.size := by
  have HH : Hid (JB w jb db j) := h
  have c4 : w.cell? ⟨jb, 4, none⟩ = some (.int .i64 j.number) := Blk.cell h 4
  have c5 : w.cell? ⟨jb, 5, none⟩ = some (.int .i64 j.next) := Blk.cell h 5
  have f4 : w.frozen? ⟨jb, 4, none⟩ = false := Blk.frozen h 4
  have f5 : w.frozen? ⟨jb, 5, none⟩ = false := Blk.frozen h 5
  clear h
  go_enter Tryz.func124, Tryz.ntmps124
  go_wp2_with fail
  go_end0
  have h1 := HH.out.set 5 (.int .i64 ((j.next : Int) + n))
  have h2 := Blk.set h1 4 (.int .i64 ((j.number : Int) + 1))
  refine ⟨rfl, ?_, ((Fr.refl (· = jb) w).setCell ⟨jb, 5, none⟩ (fun _ => rfl) _).setCell ⟨jb, 4, none⟩ (fun _ => rfl) _, by simp [World.setCell]⟩
  unfold JB jrnA Jn.passed
  rw [show ((j.number + 1 : Nat) : Int) = (j.number : Int) + 1 by omega, show ((j.next + n : Nat) : Int) = (j.next : Int) + n by omega]
  exact h2
/-- the bytes of a region that are not read yet -/
def Jn.rest (j : Jn) (disk : Bs) : Bs := (disk.drop j.next).take (j.fin - j.next)
theorem read_L (g k : Nat) (l : Bs) (B : Nat) (G : Gl) (w : World) (h1 : g < 4294967296) (h3 : k < 65536) (hl : l.length ≤ 1000000) (hG : Glob B G w) :
    Calls Tryz.prog 202 #[.string (ofL l), .int .u32 g, .int .u16 k] w fun e w' => e = .returned (recRes (errV G.recd) (firstB g k l)) ∧ Below w.heap.size w w' := by
  rw [← firstB_code]
  exact readRecord_any g k l _ w (by omega) (by omega) (by omega) (by omega) hG.recd.1 (Nat.lt_of_lt_of_le hG.recd.2 hG.le) (by omega)
theorem step4 {w0 w1 w2 : World} {jb i1 i2 i3 i4 : Nat} {a b c d : Value} (h : w1.cell? ⟨jb, i1, none⟩ = some a ∧ w1.cell? ⟨jb, i2, none⟩ = some b ∧ w1.cell? ⟨jb, i3, none⟩ = some c ∧ w1.cell? ⟨jb, i4, none⟩ = some d ∧ jb < w1.heap.size ∧ Below w0.heap.size w0 w1) (hb : Below w1.heap.size w1 w2) :
    w2.cell? ⟨jb, i1, none⟩ = some a ∧ w2.cell? ⟨jb, i2, none⟩ = some b ∧ w2.cell? ⟨jb, i3, none⟩ = some c ∧ w2.cell? ⟨jb, i4, none⟩ = some d ∧ jb < w2.heap.size ∧ Below w0.heap.size w0 w2 :=
  ⟨(below_cell hb h.2.2.2.2.1).trans h.1, (below_cell hb h.2.2.2.2.1).trans h.2.1, (below_cell hb h.2.2.2.2.1).trans h.2.2.1, (below_cell hb h.2.2.2.2.1).trans h.2.2.2.1, Nat.lt_of_lt_of_le h.2.2.2.2.1 hb.size, bstep h.2.2.2.2.2 hb⟩
set_option maxRecDepth 20000 in
set_option maxHeartbeats 1000000 in
theorem jread_any (jb db : Nat) (j : Jn) (disk : Bs) (B : Nat) (G : Gl) (w : World) (h : JB w jb db j) (hj : j.gen < 4294967296) (hn : j.number < 65536) (hx : j.next ≤ j.fin) (hf : j.fin ≤ disk.length) (hd : disk.length ≤ 6400) (hG : Glob B G w) :
    Calls Tryz.prog 186 #[.pointer (some ⟨jb, 0, none⟩), .string (ofL disk)] w fun e w' => e = .returned (recRes (errV G.recd) (firstB j.gen j.number (j.rest disk))) ∧ Below w.heap.size w w' := by
  obtain ⟨l, hl⟩ : ∃ l, l = j.rest disk := ⟨_, rfl⟩
  have HEX : Hid ((ofL disk).extract j.next j.fin = ofL l) := by
    show _ = _
    rw [extract_ofL, hl]; rfl
  have hll : l.length ≤ 1000000 := by rw [hl]; unfold Jn.rest; rw [List.length_take, List.length_drop]; omega
  rw [← hl]
  have hs : ∃ a b c, recRes (errV G.recd) (firstB j.gen j.number l) = .tuple #[a, b, c] := by
    cases firstB j.gen j.number l with
    | none => exact ⟨_, _, _, rfl⟩
    | some p => exact ⟨_, _, _, rfl⟩
  obtain ⟨r1, r2, r3, hr⟩ := hs
  have HR : Hid (recRes (errV G.recd) (firstB j.gen j.number l) = .tuple #[r1, r2, r3]) := hr
  have hlt := h.lt
  have c1 : w.cell? ⟨jb, 1, none⟩ = some (.int .u32 j.gen) := Blk.cell h 1
  have c4 : w.cell? ⟨jb, 4, none⟩ = some (.int .i64 j.number) := Blk.cell h 4
  have c5 : w.cell? ⟨jb, 5, none⟩ = some (.int .i64 j.next) := Blk.cell h 5
  have c6 : w.cell? ⟨jb, 6, none⟩ = some (.int .i64 j.fin) := Blk.cell h 6
  have w16 : IntKind.u16.wrap (j.number : Int) = j.number := IntWalk.u16_in _ (by omega)
  have HK : Hid (j.gen < 4294967296 ∧ j.number < 65536 ∧ l.length ≤ 1000000) := ⟨hj, hn, hll⟩
  have HG : Hid (Glob B G w) := hG
  have g1 : (0 : Int) ≤ j.next := by omega
  have g2 : (j.next : Int) ≤ j.fin := by omega
  have g3 : (j.fin : Int) ≤ disk.length := by omega
  clear h hj hn hx hf hd hG hl hll hr
  go_enter Tryz.func186, Tryz.ntmps186
  go_wp2_with fail
  go_region_held3 (fun w' => w'.cell? ⟨jb, 1, none⟩ = some (.int .u32 j.gen) ∧ w'.cell? ⟨jb, 4, none⟩ = some (.int .i64 j.number) ∧ w'.cell? ⟨jb, 5, none⟩ = some (.int .i64 j.next) ∧ w'.cell? ⟨jb, 6, none⟩ = some (.int .i64 j.fin) ∧ jb < w'.heap.size ∧ Below w.heap.size w w')
    (first
      | exact step4 (by assumption) (by assumption)
      | exact ⟨c1, c4, c5, c6, hlt, (Below.refl _ _).drew⟩)
    (first
      | (go_at_call 202; rw [HEX.out]; refine (read_L j.gen j.number l B G _ HK.out.1 HK.out.2.1 HK.out.2.2 ?_).mono ?_; exact HG.out.drew; rw [HR.out]; rintro e w' ⟨rfl, hbN⟩))
  rename_i hHeld
  go_wp2_with fail
  refine bodyPost_ret (v := .tuple #[r1, r2, r3]) (by simp [results, Tryz.results186, go_sem]) rfl ⟨?_, hHeld.2.2.2.2.2⟩
  rw [HR.out]
end Go.Proofs.YtmnajomkfnkmeaaGreatDoor
