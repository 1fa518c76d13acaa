import Derived.Test.YtmnajomkfnkmeaaGreatDoorPld
import Derived.Test.YtmnajomkfnkmeaaGreatDoorGmet
import Derived.Carry
import Derived.Deep.Slices
set_option maxRecDepth 100000
namespace Go.Proofs.YtmnajomkfnkmeaaGreatDoor
open Go.ChangeShapes Go.WideShapes Go.ChangeAt Go.RowKit Go.Deep
theorem i64_met5 {n : Int} (h : (Lit.int .i64 n).wf = true) : i64 n := by
 have h : (decide (IntKind.i64.min ≤ n) && decide (n ≤ IntKind.i64.max)) = true := h;rw [Bool.and_eq_true, decide_eq_true_iff, decide_eq_true_iff] at h;exact ⟨h.1, h.2⟩
theorem len5 {α : Type} {l : List α} (h : l.length = 5) : ∃ a b c d e, l = [a, b, c, d, e] := by
 match l, h with
 | [a, b, c, d, e], _ => exact ⟨a, b, c, d, e, rfl⟩
theorem len10 {α : Type} {l : List α} (h : l.length = 10) : ∃ a b c d e f g i j k, l = [a, b, c, d, e, f, g, i, j, k] := by
 match l, h with
 | [a, b, c, d, e, f, g, i, j, k], _ => exact ⟨a, b, c, d, e, f, g, i, j, k, rfl⟩
theorem len14 {α : Type} {l : List α} (h : l.length = 14) : ∃ a b c d e f g i j k m n o p, l = [a, b, c, d, e, f, g, i, j, k, m, n, o, p] := by
 match l, h with
 | [a, b, c, d, e, f, g, i, j, k, m, n, o, p], _ => exact ⟨a, b, c, d, e, f, g, i, j, k, m, n, o, p, rfl⟩
theorem cCfg : Tryz.prog.cellsOf 23 = 5 := by kernel_rfl
theorem cStr5 : Tryz.prog.cellsOf 9 = 1 := by kernel_rfl
theorem cInt5 : Tryz.prog.cellsOf 3 = 1 := by kernel_rfl
theorem cOp : Tryz.prog.cellsOf 29 = 14 := by kernel_rfl
theorem bOp : Tryz.prog.bytesOf 29 = 144 := by kernel_rfl
theorem laidAll5 : laidOutB Tryz.prog = true := by kernel_rfl
def cfgD {H : Type} (c : Cfg) : DataW H := .agg [.lit (.string c.secret), .lit (.int .i64 c.seed), .lit (.int .i64 c.idle), .lit (.int .i64 c.abs), .lit (.int .i64 c.now)]
def opD {H : Type} (o : OpD) : DataW H := .agg [.lit (.int .i64 o.kind), .lit (.int .i64 o.keeper), .lit (.int .i64 o.pass), .lit (.int .i64 o.a), .lit (.int .i64 o.b), .lit (.int .i64 o.c), .lit (.string o.s), .lit (.string o.name), .lit (.string o.value), cfgD o.cfg]
theorem cfg_open {H : Type} {enc : TypeId × Value → H} {W : World} {base fuel : Nat} {sp : Nat → Bool} {held : Bool} {c0 c1 c2 c3 c4 : Value} {x : DataW H × List MemPlace} (hf : DataW.trod enc Tryz.prog W base sp held fuel 23 [c0, c1, c2, c3, c4] = some x) :
  ∃ c : Cfg, [c0, c1, c2, c3, c4] = [.string (ofL c.secret), .int .i64 c.seed, .int .i64 c.idle, .int .i64 c.abs, .int .i64 c.now] ∧ x.1 = cfgD c := by
 obtain ⟨xs, n, _, hx, _, hlen, hg⟩ := DataW.trod_struct Tryz.underlying23 hf;obtain ⟨y0, y1, y2, y3, y4, rfl⟩ := len5 (l := xs) hlen;have g0 := hg 0 _ rfl;have g1 := hg 1 _ rfl;have g2 := hg 2 _ rfl;have g3 := hg 3 _ rfl;have g4 := hg 4 _ rfl;simp [cStr5, cInt5] at g0 g1 g2 g3 g4;obtain ⟨s, e0, rfl, w0⟩ := DataW.trod_string Tryz.underlying9 g0;obtain ⟨n1, e1, rfl, w1⟩ := DataW.trod_int Tryz.underlying3 g1;obtain ⟨n2, e2, rfl, w2⟩ := DataW.trod_int Tryz.underlying3 g2;obtain ⟨n3, e3, rfl, w3⟩ := DataW.trod_int Tryz.underlying3 g3;obtain ⟨n4, e4, rfl, w4⟩ := DataW.trod_int Tryz.underlying3 g4;injection e0 with e0
 injection e1 with e1
 injection e2 with e2
 injection e3 with e3
 injection e4 with e4
 subst e0 e1 e2 e3 e4;refine ⟨⟨toL s, n1, n2, n3, n4⟩, by simp only [ofL_toL], ?_⟩;rw [hx]; rfl
theorem op_open {H : Type} {enc : TypeId × Value → H} {W : World} {base fuel : Nat} {sp : Nat → Bool} {held : Bool} {cs : List Value} {x : DataW H × List MemPlace} (hf : DataW.trod enc Tryz.prog W base sp held fuel 29 cs = some x) :
  ∃ o : OpD, cs = (opC o).toList ∧ x.1 = opD o ∧ i64 o.pass ∧ i64 o.a ∧ i64 o.b ∧ i64 o.c ∧ i64 o.keeper := by
 obtain ⟨xs, n, _, hx, hcl, hlen, hg⟩ := DataW.trod_struct Tryz.underlying29 hf;rw [cOp] at hcl;obtain ⟨y0, y1, y2, y3, y4, y5, y6, y7, y8, y9, rfl⟩ := len10 (l := xs) hlen;obtain ⟨c0, c1, c2, c3, c4, c5, c6, c7, c8, c9, ca, cb, cc, cd, rfl⟩ := len14 hcl;have g0 := hg 0 _ rfl;have g1 := hg 1 _ rfl;have g2 := hg 2 _ rfl;have g3 := hg 3 _ rfl;have g4 := hg 4 _ rfl;have g5 := hg 5 _ rfl;have g6 := hg 6 _ rfl;have g7 := hg 7 _ rfl;have g8 := hg 8 _ rfl;have g9 := hg 9 _ rfl;simp [cStr5, cInt5, cCfg] at g0 g1 g2 g3 g4 g5 g6 g7 g8 g9;obtain ⟨n0, e0, rfl, w0⟩ := DataW.trod_int Tryz.underlying3 g0;obtain ⟨n1, e1, rfl, w1⟩ := DataW.trod_int Tryz.underlying3 g1;obtain ⟨n2, e2, rfl, w2⟩ := DataW.trod_int Tryz.underlying3 g2;obtain ⟨n3, e3, rfl, w3⟩ := DataW.trod_int Tryz.underlying3 g3;obtain ⟨n4, e4, rfl, w4⟩ := DataW.trod_int Tryz.underlying3 g4;obtain ⟨n5, e5, rfl, w5⟩ := DataW.trod_int Tryz.underlying3 g5;obtain ⟨s6, e6, rfl, w6⟩ := DataW.trod_string Tryz.underlying9 g6;obtain ⟨s7, e7, rfl, w7⟩ := DataW.trod_string Tryz.underlying9 g7;obtain ⟨s8, e8, rfl, w8⟩ := DataW.trod_string Tryz.underlying9 g8;obtain ⟨c, e9, hc⟩ := cfg_open g9;simp only [List.cons.injEq, and_true] at e0 e1 e2 e3 e4 e5 e6 e7 e8 e9;obtain ⟨f0, f1, f2, f3, f4⟩ := e9;subst e0 e1 e2 e3 e4 e5 e6 e7 e8 f0 f1 f2 f3 f4;refine ⟨⟨n0, n1, n2, n3, n4, n5, toL s6, toL s7, toL s8, c⟩, by simp only [opC, ofL_toL], ?_, i64_met5 w2, i64_met5 w3, i64_met5 w4, i64_met5 w5, i64_met5 w1⟩;rw [hx];simp only [List.map_cons, List.map_nil, hc];rfl
theorem mem_weightsAll {H : Type} {P : Program} {e : TypeId} {d : DataW H} {n : Nat} : ∀ {l : List (DataW H)}, d ∈ l → n ∈ d.weights P e → n ∈ DataW.weightsAll P e l
 | x :: r, h, hn => by
  unfold DataW.weightsAll;rcases List.mem_cons.1 h with rfl | h
  ·exact List.mem_append_left _ hn
  ·exact List.mem_append_right _ (mem_weightsAll h hn)
theorem opD_weights {H : Type} (o : OpD) : (opD o : DataW H).weights Tryz.prog 29 = [o.s.length, o.name.length, o.value.length, o.cfg.secret.length] := by
 simp [opD, cfgD, DataW.weights, DataW.weightsEach, Tryz.underlying29, Tryz.underlying23]
theorem ops_met {H : Type} {enc : TypeId × Value → H} {W : World} {base : Nat} {v : Value} {d : DataW H} {p : List MemPlace} (hv : Value.okWide Tryz.prog W .any base 31 v) (h1k : DataW.Trod enc Tryz.prog W 0 (fun _ => true) true 31 v d p) (hlt : ∀ x ∈ p, x.block < W.heap.size)
  (hsz : ∀ n ∈ d.weights Tryz.prog 31, n ≤ reachBytes) :
  (∃ os, OpsV W v os ∧ (∀ o ∈ os, OpOk o) ∧ os.length + 1 ≤ 1000000000000) ∧ ∀ (W' : World), Below W.heap.size W W' → DataW.Trod enc Tryz.prog W' 0 (fun b => decide (b < W.heap.size)) true 31 v d p := by
 obtain ⟨a0, len, cap, rfl⟩ := okWide_slice Tryz.underlying31 hv;refine ⟨?_, fun W' hn => Below.trod laidAll5 (by kernel_rfl) (of_decide_eq_true (by kernel_rfl)) h1k hn hlt⟩;obtain ⟨fuel, hf⟩ := h1k;rcases open_slice Tryz.underlying31 hf with ⟨hcs, hx⟩ | ⟨a, len', cap', m, n, D, Pl, hcs, _, hl, hm, hmm, hx, hcell⟩
 ·simp [Value.cells] at hcs;obtain ⟨rfl, rfl, rfl⟩ := hcs;exact ⟨[], Or.inl ⟨rfl, rfl⟩, (fun o ho => by cases ho), by simp⟩
 ·simp [Value.cells] at hcs;obtain ⟨rfl, rfl, rfl⟩ := hcs;simp only [Prod.mk.injEq] at hx;obtain ⟨rfl, rfl⟩ := hx;simp only [if_true] at hmm;subst hmm;have : Inhabited OpD := ⟨opL⟩;obtain ⟨O, hO⟩ := choose_lt (α := OpD) (n := len) (p := fun i o => (∀ j, j < 14 → W.cell? (a.add (i * 14 + j)) = (opC o)[j]?) ∧ D i = opD o ∧ i64 o.pass ∧ i64 o.a ∧ i64 o.b ∧ i64 o.c ∧ i64 o.keeper) (fun i hi => by
   obtain ⟨cs, h1, h2⟩ := hcell i (by omega)
   obtain ⟨o, rfl, h3, h4⟩ := op_open h2
   rw [cOp] at h1
   obtain ⟨-, -, hc⟩ := World.cells?_some h1
   refine ⟨o, fun j hj => ?_, h3, h4⟩
   have := hc j hj
   rw [Addr.add_add] at this
   rw [this, Array.getElem?_toList])
  have hw : ∀ i, i < len → ∀ k ∈ (opD (O i) : DataW H).weights Tryz.prog 29, k ≤ reachBytes := fun i hi k hk => by
   refine hsz k ?_;unfold DataW.weights;rw [Tryz.underlying31];refine List.mem_cons_of_mem _ (List.mem_append_left _ (mem_weightsAll (d := D i) (List.mem_map.2 ⟨i, List.mem_range.2 hi, rfl⟩) ?_));rw [(hO i hi).2.1];exact hk
  have hlen : len * 144 ≤ reachBytes := by
   refine Nat.le_trans ?_ (hsz ((((List.range len).map D).length + ((List.range (m - len)).map fun j => D (len + j)).length) * Tryz.prog.bytesOf 29) ?_)
   ·rw [bOp];refine Nat.mul_le_mul_right _ ?_;simp
   ·unfold DataW.weights;rw [Tryz.underlying31];exact List.mem_cons_self
  have hll : ((List.range len).map O).length = len := by simp
  refine ⟨(List.range len).map O, Or.inr ⟨a, m, by rw [hll], ⟨fun h0 => ?_, fun i hi j hj => ?_⟩⟩, fun o ho => ?_, ?_⟩
  ·rw [hll] at h0;obtain ⟨b, off, spot⟩ := a;exact hlt (.cell b off) (List.mem_append_left _ (MemPlace.mem_row.2 ⟨0, by rw [cOp]; omega, by simp⟩))
  ·rw [hll] at hi;have := (hO i hi).1 j hj;simpa using this
  ·obtain ⟨i, hi, rfl⟩ := List.mem_map.1 ho;have hi := List.mem_range.1 hi;obtain ⟨-, -, h1, h2, h3, h4, h5⟩ := hO i hi;have hw := hw i hi;rw [opD_weights] at hw;have hr : reachBytes ≤ 9223372036854774000 := by decide
   exact ⟨h1, h2, h3, h4, h5, Nat.le_trans (hw _ (by simp)) hr, Nat.le_trans (hw _ (by simp)) hr, Nat.le_trans (hw _ (by simp)) hr, Nat.le_trans (hw _ (by simp)) hr⟩
  ·rw [hll];have hr : reachBytes = 140737488351232 := by decide
   omega
end Go.Proofs.YtmnajomkfnkmeaaGreatDoor
