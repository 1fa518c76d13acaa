import Derived.Test.YtmnajomkfnkmeaaGreatDoorKa
import Derived.DeepKeys
import Derived.Laws.StructEq
import Derived.Deep.RegionHeld3
import Derived.Deep.AppendLies
namespace Go.Proofs.YtmnajomkfnkmeaaGreatDoor
open Go.RowKit Go.Conc
attribute [local go_sem] ofL_size
/-! keep.told, keep.same -/
structure TS where
  a : Bs × Nat
  b : Bs × Nat
  c : Bs × Nat
  deriving DecidableEq
def tsOf (m : Kp) (p : Bs) : TS := ⟨m.get p (nm 0), m.get p (nm 1), m.get p (nm 2)⟩
def tsV (x : TS) : List Value := [.string (ofL x.a.1), .string (ofL x.b.1), .string (ofL x.c.1), .int .i64 x.a.2, .int .i64 x.b.2, .int .i64 x.c.2]
theorem tsV_length (x : TS) : (tsV x).length = 6 := rfl
def tolds (m : Kp) (ps : List Bs) : List TS := ps.map (tsOf m)
theorem tolds_length (m : Kp) (ps : List Bs) : (tolds m ps).length = ps.length := by simp [tolds]
abbrev TO (w : World) (s : Value) (l : List TS) : Prop := Own w 116 6 tsV s l
def eS : ByteArray := { data := #[] }
/-- a state under way -/
def tsPart (x : TS) : Nat → Array Value
  | 0 => #[.string eS, .string eS, .string eS, .int .i64 0, .int .i64 0, .int .i64 0]
  | 1 => #[.string (ofL x.a.1), .string eS, .string eS, .int .i64 x.a.2, .int .i64 0, .int .i64 0]
  | 2 => #[.string (ofL x.a.1), .string (ofL x.b.1), .string eS, .int .i64 x.a.2, .int .i64 x.b.2, .int .i64 0]
  | _ => #[.string (ofL x.a.1), .string (ofL x.b.1), .string (ofL x.c.1), .int .i64 x.a.2, .int .i64 x.b.2, .int .i64 x.c.2]
theorem info_state : (Tryz.prog.info? 116).map (fun i => (i.zero, i.size, i.bytes)) = some (some (.agg (tsPart ⟨([], 0), ([], 0), ([], 0)⟩ 0)), 6, 72) := by kernel_rfl
theorem take_succ_map {α β : Type} (f : α → β) (l : List α) (k : Nat) (h : k < l.length) : (l.take (k + 1)).map f = (l.take k).map f ++ [f l[k]] := by
  rw [List.take_succ_eq_append_getElem h, List.map_append]; rfl
theorem told_nil (kb : Nat) (w : World) :
    Calls Tryz.prog 33 #[.pointer (some ⟨kb, 0, none⟩), .slice none 0 0] w fun e w' => e = .returned (.slice none 0 0) ∧ Below w.heap.size w w' := by
  go_enter Tryz.func33, Tryz.ntmps33
  go_wp2_with fail
  refine (names_any _).mono ?_
  rintro e w1 ⟨rfl, hb1, -⟩
  have HB1 : Hid (Below w.heap.size w w1) := hb1
  clear hb1
  go_wp2_with fail
  go_loopw [5, 7] (fun lv iv wx => lv = .slice none 0 0 ∧ iv = .int .i64 0 ∧ Hid (Below w.heap.size w wx)) (fun _ _ _ => 0)
  case atStart => exact ⟨rfl, rfl, HB1.out⟩
  case round =>
    obtain ⟨rfl, rfl, HB⟩ := hrel
    go_wp2_with fail
    go_ret
    exact ⟨rfl, HB.out⟩
/-- what told gives -/
def ToldTo (w : World) (l : List TS) (e : Ending) (w' : World) : Prop := ∃ r, e = .returned r ∧ Below w.heap.size w w' ∧ TO w' r l ∧ ∀ b, r.ownBlock = some b → w.heap.size ≤ b
structure TI (w1 wx : World) (lv : Value) (l : List TS) : Prop where
  bel : Below w1.heap.size w1 wx
  own : TO wx lv l
  far : ∀ b, lv.ownBlock = some b → w1.heap.size ≤ b
theorem TI.below {w1 wx w' : World} {lv : Value} {l : List TS} (h : TI w1 wx lv l) (hb : Below wx.heap.size wx w') : TI w1 w' lv l := ⟨bstep h.bel hb, h.own.below hb, h.far⟩
theorem below_at {B : Nat} {w w' : World} (h : Below B w w') {a : Addr} (ha : a.block < B) : w'.cell? a = w.cell? a := World.cell?_of_block (w := w) (h.block a.block ha)
theorem tstep {w0 w1 w2 : World} {a b : Addr} {u v : Value} (h : w1.cell? a = some u ∧ w1.cell? b = some v ∧ a.block < w1.heap.size ∧ b.block < w1.heap.size ∧ Below w0.heap.size w0 w1) (hb : Below w1.heap.size w1 w2) :
    w2.cell? a = some u ∧ w2.cell? b = some v ∧ a.block < w2.heap.size ∧ b.block < w2.heap.size ∧ Below w0.heap.size w0 w2 :=
  ⟨(below_at hb h.2.2.1).trans h.1, (below_at hb h.2.2.2.1).trans h.2.1, Nat.lt_of_lt_of_le h.2.2.1 hb.size, Nat.lt_of_lt_of_le h.2.2.2.1 hb.size, bstep h.2.2.2.2 hb⟩
theorem TI.pushed {w1 wr w2 : World} {lv : Value} {l : List TS} {o : Obj} {n g cap : Nat} {x : TS} (h : TI w1 wr lv l) (hn : l.length = n) (hown : w2.ownsRow 0 116 6 (.slice (some ⟨g, 0, none⟩) (n + 1) cap) (n + 1) (flatV tsV l ++ tsV x))
    (hgr : (wr.alloc o).grownBy w2 lv.ownBlock) (hloc : lv.ownBlock = some g ∨ g = (wr.alloc o).heap.size) : TI w1 w2 (.slice (some ⟨g, 0, none⟩) (n + 1) cap) (l ++ [x]) := by
  have hb := h.bel.alloc h.bel.size o
  refine ⟨⟨hgr.os.trans hb.os, hgr.tape.trans hb.tape, hgr.output.trans hb.output, Nat.le_trans hb.size hgr.size, fun i hi => (hgr.block i (Nat.lt_of_lt_of_le hi hb.size) (fun e => ?_)).trans (hb.block i hi)⟩, Own.pushed hn hown, fun b hb' => ?_⟩
  · have := h.far i e.symm; omega
  · have e : some g = some b := hb'
    injection e with e
    subst e
    rcases hloc with h1 | h1
    · exact h.far g h1
    · have := hb.size; omega
theorem ts_push {w : World} {sv : Value} {l : List TS} {n : Nat} (h : TO w sv l) (hn : l.length = n) (hle : n ≤ 1000) (x : TS) :
    ∃ i0, Tryz.prog.info? 116 = some i0 ∧ i0.zero = some (.agg (tsPart ⟨([], 0), ([], 0), ([], 0)⟩ 0)) ∧ i0.size = 6 ∧ i0.bytes = 72 ∧ (w.alloc (.cells (tsPart x 3) 116)).ownsRow 0 116 6 sv n (flatV tsV l) ∧
      (∀ (j : Nat) (u : Value), (tsV x)[j]? = some u → (w.alloc (.cells (tsPart x 3) 116)).cell? ((⟨w.heap.size, 0, none⟩ : Addr).add j) = some u) ∧ (∀ u ∈ tsV x, u.oneCell' = true) ∧ n + 1 ≤ maxLen ∧ (n + 1) * 72 ≤ 140737488355328 := by
  obtain ⟨i0, hi, hzz⟩ := Option.map_eq_some_iff.1 info_state
  simp only [Prod.mk.injEq] at hzz
  obtain ⟨hz, hs0, hb⟩ := hzz
  have ho : TO (w.alloc (.cells (tsPart x 3) 116)) sv l := h.below ((Below.refl _ _).alloc (Nat.le_refl _) _)
  unfold TO Own at ho
  rw [hn] at ho
  refine ⟨i0, hi, hz, hs0, hb, ho, World.news_of_block (Blk.new w _ _), fun u hu => ?_, by unfold maxLen; omega, by omega⟩
  simp only [tsV, List.mem_cons, List.not_mem_nil, or_false] at hu
  rcases hu with rfl | rfl | rfl | rfl | rfl | rfl <;> rfl
set_option maxRecDepth 20000 in
set_option maxHeartbeats 4000000 in
theorem told_some (B kb : Nat) (F : Nat → Prop) (m : Kp) (G : Gl) (q cap : Nat) (ps : List Bs) (w : World) (h : KAt w B kb F m) (hG : Glob B G w) (hs : SO w (.slice (some ⟨q, 0, none⟩) ps.length cap) ps) (hp : ∀ p ∈ ps, p.length ≤ 9) (hn : ps.length ≤ 1000) :
    Calls Tryz.prog 33 #[.pointer (some ⟨kb, 0, none⟩), .slice (some ⟨q, 0, none⟩) ps.length cap] w fun e w' => ToldTo w (tolds m ps) e w' := by
  obtain ⟨HK, HG, HS⟩ : Hid (KAt w B kb F m) ∧ Hid (Glob B G w) ∧ Hid (SO w (.slice (some ⟨q, 0, none⟩) ps.length cap) ps) := ⟨h, hG, hs⟩
  have HP : Hid (∀ p ∈ ps, p.length ≤ 9) := hp
  have hq : q < w.heap.size := hs.lt rfl
  obtain ⟨nl, hnl⟩ : ∃ nl, nl = ps.length := ⟨_, rfl⟩
  clear h hG hs hp
  go_enter Tryz.func33, Tryz.ntmps33
  go_wp2_with fail
  refine (names_any _).mono ?_
  rintro e w1 ⟨rfl, hb1, hcn⟩
  have HB1 : Hid (Below w.heap.size w w1) := hb1
  have HCN : Hid (∀ k, k < 3 → w1.cell? ⟨w.heap.size, k, none⟩ = some (.string (ofL (nm k)))) := hcn
  have hnb : w.heap.size < w1.heap.size := by
    have e := hcn 0 (by decide)
    unfold World.cell? at e
    cases e1 : w1.heap[w.heap.size]? with
    | none => rw [e1] at e; cases e
    | some x => exact (Array.getElem?_eq_some_iff.1 e1).1
  have HQ1 : Hid (q < w1.heap.size) := Nat.lt_of_lt_of_le hq hb1.size
  have HNB : Hid (w.heap.size < w1.heap.size) := hnb
  have HK1 : Hid (KAt w1 B kb F m) := HK.out.below hb1
  have HG1 : Hid (Glob B G w1) := HG.out.fr (S := fun _ => False) (Fr.of_below hb1) (fun _ h => h.elim)
  have HS1 : Hid (SO w1 (.slice (some ⟨q, 0, none⟩) ps.length cap) ps) := HS.out.below hb1
  clear hb1 hcn hnb hq HK HG HS
  generalize hnbe : w.heap.size = nb at *
  have HNE : Hid (w.heap.size = nb) := hnbe
  clear hnbe
  go_wp2_with fail
  go_loopw [5, 7] (fun lv iv wx => ∃ k : Nat, k ≤ ps.length ∧ iv = .int .i64 k ∧ Hid (TI w1 wx lv (tolds m (ps.take k)))) (fun _ iv _ => ps.length - (intOf iv).toNat)
  case atStart => exact ⟨0, Nat.zero_le _, rfl, Below.refl _ _, Own.nil _ _ _ _, fun b hb => by cases hb⟩
  case round =>
    obtain ⟨k, hk, rfl, HT⟩ := hrel
    by_cases hlt : k < ps.length
    · have HPK : Hid (ps[k].length ≤ 9) := HP.out _ (List.getElem_mem hlt)
      obtain ⟨p, hpe⟩ : ∃ p, p = ps[k] := ⟨_, rfl⟩
      have HPE : Hid (p = ps[k]) := hpe
      rw [← hpe] at HPK
      have HCP : Hid (w1.cell? ⟨q, k, none⟩ = some (.string (ofL p))) := by rw [hpe]; exact HS1.out.cell k hlt
      have HTS : Hid (tolds m (ps.take (k + 1)) = tolds m (ps.take k) ++ [tsOf m p]) := by rw [hpe]; exact take_succ_map _ _ _ hlt
      clear hpe
      obtain ⟨wo, hwo⟩ : ∃ wo, wo = wr := ⟨_, rfl⟩
      subst hwo
      go_wp2_with fail
      go_loopw [9] (fun jv wx => ∃ j : Nat, j ≤ 3 ∧ jv = .int .i64 j ∧ Hid (Below wo.heap.size wo wx ∧ Blk wx wo.heap.size (tsPart (tsOf m p) j) 116)) (fun jv _ => 3 - (intOf jv).toNat)
      case atStart => exact ⟨0, by omega, rfl, (Below.refl _ _).alloc (Nat.le_refl _) _, Blk.new _ _ _⟩
      case round =>
        obtain ⟨j, hj, rfl, HBI⟩ := hrel
        have HW1 : Hid (w1.heap.size ≤ wo.heap.size) := HT.out.bel.size
        obtain rfl | rfl | rfl | rfl : j = 0 ∨ j = 1 ∨ j = 2 ∨ j = 3 := by omega
        · have cn := HCN.out 0 (by decide)
          have hqq := HQ1.out
          have hnn := HNB.out
          have cp : wr.cell? ⟨q, k, none⟩ = some (.string (ofL p)) := (below_at HBI.out.1 (Nat.lt_of_lt_of_le hqq HW1.out)).trans ((below_at HT.out.bel hqq).trans HCP.out)
          have cn : wr.cell? ⟨nb, 0, none⟩ = some (.string (ofL (nm 0))) := (below_at HBI.out.1 (Nat.lt_of_lt_of_le hnn HW1.out)).trans ((below_at HT.out.bel hnn).trans cn)
          have lq : q < wr.heap.size := Nat.lt_of_lt_of_le hqq (Nat.le_trans HW1.out HBI.out.1.size)
          have ln : nb < wr.heap.size := Nat.lt_of_lt_of_le hnn (Nat.le_trans HW1.out HBI.out.1.size)
          have HGET : Hid (∀ w', (w'.cell? ⟨q, k, none⟩ = some (.string (ofL p)) ∧ w'.cell? ⟨nb, 0, none⟩ = some (.string (ofL (nm 0))) ∧ q < w'.heap.size ∧ nb < w'.heap.size ∧ Below wr.heap.size wr w') → Calls Tryz.prog 27 #[.pointer (some ⟨kb, 0, none⟩), .string (ofL p), .string (ofL (nm 0))] w' fun e w'' => e = .returned (.tuple #[.string (ofL (m.get p (nm 0)).1), .int .i64 (m.get p (nm 0)).2]) ∧ Below w'.heap.size w' w'') := fun w' hw' =>
            kget_any B kb F m G p (nm 0) w' (((HK1.out.below HT.out.bel).below HBI.out.1).below hw'.2.2.2.2) (by have := HPK.out; omega) (((HG1.out.fr (S := fun _ => False) (Fr.of_below HT.out.bel) (fun _ h => h.elim)).fr (S := fun _ => False) (Fr.of_below HBI.out.1) (fun _ h => h.elim)).fr (S := fun _ => False) (Fr.of_below hw'.2.2.2.2) (fun _ h => h.elim))
          clear hqq hnn
          go_upto_region 10 with fail
          go_region_held3 (fun w' => w'.cell? ⟨q, k, none⟩ = some (.string (ofL p)) ∧ w'.cell? ⟨nb, 0, none⟩ = some (.string (ofL (nm 0))) ∧ q < w'.heap.size ∧ nb < w'.heap.size ∧ Below wr.heap.size wr w')
            (first
              | exact tstep (by assumption) (by assumption)
              | exact ⟨cp, cn, lq, ln, (Below.refl _ _).drew⟩)
            (first
              | (go_at_call 27; refine (HGET.out _ (by assumption)).mono ?_; rintro e w' ⟨rfl, hbN⟩))
          rename_i hHeld
          have hblk := HBI.out.2.below hHeld.2.2.2.2
          have HB2 : Hid (Below wo.heap.size wo w') := below_step HBI.out.1 hHeld.2.2.2.2
          have a0 := hblk.cell 0
          have a1 := hblk.cell 3
          have a2 := hblk.frozen 0
          have a3 := hblk.frozen 3
          simp only [tsPart, List.getElem?_toArray, List.getElem?_cons_zero, List.getElem?_cons_succ] at a0 a1
          have hlt' := hblk.lt
          have HSET : Hid (Blk ((w'.setCell ⟨wo.heap.size, 0, none⟩ (.string (ofL (m.get p (nm 0)).1))).setCell ⟨wo.heap.size, 3, none⟩ (.int .i64 (m.get p (nm 0)).2)) wo.heap.size (tsPart (tsOf m p) 1) 116) :=
            (hblk.set 0 (.string (ofL (m.get p (nm 0)).1))).set 3 (.int .i64 (m.get p (nm 0)).2)
          clear hblk hHeld cp cn lq ln HGET hbN HBI
          go_wp2_with fail
          go_roundw
          case rel => exact ⟨1, by omega, by go_num, (HB2.out.setCell (Nat.le_refl _) _).setCell (Nat.le_refl _) _, HSET.out⟩
          case measure => simp [intOf]
        · have cn := HCN.out 1 (by decide)
          have hqq := HQ1.out
          have hnn := HNB.out
          have cp : wr.cell? ⟨q, k, none⟩ = some (.string (ofL p)) := (below_at HBI.out.1 (Nat.lt_of_lt_of_le hqq HW1.out)).trans ((below_at HT.out.bel hqq).trans HCP.out)
          have cn : wr.cell? ⟨nb, 1, none⟩ = some (.string (ofL (nm 1))) := (below_at HBI.out.1 (Nat.lt_of_lt_of_le hnn HW1.out)).trans ((below_at HT.out.bel hnn).trans cn)
          have lq : q < wr.heap.size := Nat.lt_of_lt_of_le hqq (Nat.le_trans HW1.out HBI.out.1.size)
          have ln : nb < wr.heap.size := Nat.lt_of_lt_of_le hnn (Nat.le_trans HW1.out HBI.out.1.size)
          have HGET : Hid (∀ w', (w'.cell? ⟨q, k, none⟩ = some (.string (ofL p)) ∧ w'.cell? ⟨nb, 1, none⟩ = some (.string (ofL (nm 1))) ∧ q < w'.heap.size ∧ nb < w'.heap.size ∧ Below wr.heap.size wr w') → Calls Tryz.prog 27 #[.pointer (some ⟨kb, 0, none⟩), .string (ofL p), .string (ofL (nm 1))] w' fun e w'' => e = .returned (.tuple #[.string (ofL (m.get p (nm 1)).1), .int .i64 (m.get p (nm 1)).2]) ∧ Below w'.heap.size w' w'') := fun w' hw' =>
            kget_any B kb F m G p (nm 1) w' (((HK1.out.below HT.out.bel).below HBI.out.1).below hw'.2.2.2.2) (by have := HPK.out; omega) (((HG1.out.fr (S := fun _ => False) (Fr.of_below HT.out.bel) (fun _ h => h.elim)).fr (S := fun _ => False) (Fr.of_below HBI.out.1) (fun _ h => h.elim)).fr (S := fun _ => False) (Fr.of_below hw'.2.2.2.2) (fun _ h => h.elim))
          clear hqq hnn
          go_upto_region 10 with fail
          go_region_held3 (fun w' => w'.cell? ⟨q, k, none⟩ = some (.string (ofL p)) ∧ w'.cell? ⟨nb, 1, none⟩ = some (.string (ofL (nm 1))) ∧ q < w'.heap.size ∧ nb < w'.heap.size ∧ Below wr.heap.size wr w')
            (first
              | exact tstep (by assumption) (by assumption)
              | exact ⟨cp, cn, lq, ln, (Below.refl _ _).drew⟩)
            (first
              | (go_at_call 27; refine (HGET.out _ (by assumption)).mono ?_; rintro e w' ⟨rfl, hbN⟩))
          rename_i hHeld
          have hblk := HBI.out.2.below hHeld.2.2.2.2
          have HB2 : Hid (Below wo.heap.size wo w') := below_step HBI.out.1 hHeld.2.2.2.2
          have a0 := hblk.cell 1
          have a1 := hblk.cell 4
          have a2 := hblk.frozen 1
          have a3 := hblk.frozen 4
          simp only [tsPart, List.getElem?_toArray, List.getElem?_cons_zero, List.getElem?_cons_succ] at a0 a1
          have hlt' := hblk.lt
          have HSET : Hid (Blk ((w'.setCell ⟨wo.heap.size, 1, none⟩ (.string (ofL (m.get p (nm 1)).1))).setCell ⟨wo.heap.size, 4, none⟩ (.int .i64 (m.get p (nm 1)).2)) wo.heap.size (tsPart (tsOf m p) 2) 116) :=
            (hblk.set 1 (.string (ofL (m.get p (nm 1)).1))).set 4 (.int .i64 (m.get p (nm 1)).2)
          clear hblk hHeld cp cn lq ln HGET hbN HBI
          go_wp2_with fail
          go_roundw
          case rel => exact ⟨2, by omega, by go_num, (HB2.out.setCell (Nat.le_refl _) _).setCell (Nat.le_refl _) _, HSET.out⟩
          case measure => simp [intOf]
        · have cn := HCN.out 2 (by decide)
          have hqq := HQ1.out
          have hnn := HNB.out
          have cp : wr.cell? ⟨q, k, none⟩ = some (.string (ofL p)) := (below_at HBI.out.1 (Nat.lt_of_lt_of_le hqq HW1.out)).trans ((below_at HT.out.bel hqq).trans HCP.out)
          have cn : wr.cell? ⟨nb, 2, none⟩ = some (.string (ofL (nm 2))) := (below_at HBI.out.1 (Nat.lt_of_lt_of_le hnn HW1.out)).trans ((below_at HT.out.bel hnn).trans cn)
          have lq : q < wr.heap.size := Nat.lt_of_lt_of_le hqq (Nat.le_trans HW1.out HBI.out.1.size)
          have ln : nb < wr.heap.size := Nat.lt_of_lt_of_le hnn (Nat.le_trans HW1.out HBI.out.1.size)
          have HGET : Hid (∀ w', (w'.cell? ⟨q, k, none⟩ = some (.string (ofL p)) ∧ w'.cell? ⟨nb, 2, none⟩ = some (.string (ofL (nm 2))) ∧ q < w'.heap.size ∧ nb < w'.heap.size ∧ Below wr.heap.size wr w') → Calls Tryz.prog 27 #[.pointer (some ⟨kb, 0, none⟩), .string (ofL p), .string (ofL (nm 2))] w' fun e w'' => e = .returned (.tuple #[.string (ofL (m.get p (nm 2)).1), .int .i64 (m.get p (nm 2)).2]) ∧ Below w'.heap.size w' w'') := fun w' hw' =>
            kget_any B kb F m G p (nm 2) w' (((HK1.out.below HT.out.bel).below HBI.out.1).below hw'.2.2.2.2) (by have := HPK.out; omega) (((HG1.out.fr (S := fun _ => False) (Fr.of_below HT.out.bel) (fun _ h => h.elim)).fr (S := fun _ => False) (Fr.of_below HBI.out.1) (fun _ h => h.elim)).fr (S := fun _ => False) (Fr.of_below hw'.2.2.2.2) (fun _ h => h.elim))
          clear hqq hnn
          go_upto_region 10 with fail
          go_region_held3 (fun w' => w'.cell? ⟨q, k, none⟩ = some (.string (ofL p)) ∧ w'.cell? ⟨nb, 2, none⟩ = some (.string (ofL (nm 2))) ∧ q < w'.heap.size ∧ nb < w'.heap.size ∧ Below wr.heap.size wr w')
            (first
              | exact tstep (by assumption) (by assumption)
              | exact ⟨cp, cn, lq, ln, (Below.refl _ _).drew⟩)
            (first
              | (go_at_call 27; refine (HGET.out _ (by assumption)).mono ?_; rintro e w' ⟨rfl, hbN⟩))
          rename_i hHeld
          have hblk := HBI.out.2.below hHeld.2.2.2.2
          have HB2 : Hid (Below wo.heap.size wo w') := below_step HBI.out.1 hHeld.2.2.2.2
          have a0 := hblk.cell 2
          have a1 := hblk.cell 5
          have a2 := hblk.frozen 2
          have a3 := hblk.frozen 5
          simp only [tsPart, List.getElem?_toArray, List.getElem?_cons_zero, List.getElem?_cons_succ] at a0 a1
          have hlt' := hblk.lt
          have HSET : Hid (Blk ((w'.setCell ⟨wo.heap.size, 2, none⟩ (.string (ofL (m.get p (nm 2)).1))).setCell ⟨wo.heap.size, 5, none⟩ (.int .i64 (m.get p (nm 2)).2)) wo.heap.size (tsPart (tsOf m p) 3) 116) :=
            (hblk.set 2 (.string (ofL (m.get p (nm 2)).1))).set 5 (.int .i64 (m.get p (nm 2)).2)
          clear hblk hHeld cp cn lq ln HGET hbN HBI
          go_wp2_with fail
          go_roundw
          case rel => exact ⟨3, by omega, by go_num, (HB2.out.setCell (Nat.le_refl _) _).setCell (Nat.le_refl _) _, HSET.out⟩
          case measure => simp [intOf]
        · have h0 := HBI.out.2.cell 0
          have h1 := HBI.out.2.cell 1
          have h2 := HBI.out.2.cell 2
          have h3 := HBI.out.2.cell 3
          have h4 := HBI.out.2.cell 4
          have h5 := HBI.out.2.cell 5
          simp only [tsPart, List.getElem?_toArray, List.getElem?_cons_zero, List.getElem?_cons_succ] at h0 h1 h2 h3 h4 h5
          have HT2 : Hid (TI w1 wr u5 (tolds m (ps.take k))) := HT.out.below HBI.out.1
          have hlen : (tolds m (ps.take k)).length = k := by rw [tolds_length, List.length_take]; omega
          have hk1 : k ≤ 1000 := by omega
          obtain ⟨i0, hfacts⟩ := ts_push HT2.out.own hlen hk1 (tsOf m p)
          have HF : Hid (_ ∧ _ ∧ _ ∧ _ ∧ _ ∧ _ ∧ _ ∧ _ ∧ _) := hfacts
          have hsh : u5 = .slice none 0 0 ∧ k = 0 ∨ ∃ g cap, u5 = .slice (some ⟨g, 0, none⟩) k cap := by
            rcases HT2.out.own.cases with ⟨h, e⟩ | ⟨g, cap, h, _⟩
            · exact Or.inl ⟨h, by rw [e] at hlen; exact hlen.symm⟩
            · exact Or.inr ⟨g, cap, by rw [h, hlen]⟩
          have HLEN : Hid ((tolds m (ps.take k)).length = k) := hlen
          clear hfacts hlen HBI
          rcases hsh with ⟨rfl, rfl⟩ | ⟨g0, cap0, rfl⟩
          · skip
            go_wp2_with (at_builtin; refine wpList_append_lies _ rfl _ _ 61 rfl 0 116 i0 (.agg (tsPart ⟨([], 0), ([], 0), ([], 0)⟩ 0)) 6 72 Tryz.underlying61 HF.out.1 HF.out.2.1 HF.out.2.2.1 HF.out.2.2.2.1 rfl (by decide) _ 0 (flatV tsV (tolds m (ps.take 0))) rfl HF.out.2.2.2.2.1 ⟨wr.heap.size, 0, none⟩ 1 1 (tsV (tsOf m p)) rfl rfl HF.out.2.2.2.2.2.1 HF.out.2.2.2.2.2.2.1 (by decide) HF.out.2.2.2.2.2.2.2.1 HF.out.2.2.2.2.2.2.2.2 (Nat.zero_le _) _ rfl ?_; intro g cap w2 hown hgr hloc hlt; have Q3 : Hid (TI w1 w2 _ _) := TI.pushed HT2.out HLEN.out hown hgr hloc; clear hown hgr hloc hlt)
            rw [← HTS.out] at Q3
            go_roundw
            case rel => exact ⟨0 + 1, hlt, by go_num, Q3⟩
            case measure => simp [intOf]; omega
          · skip
            go_wp2_with (at_builtin; refine wpList_append_lies _ rfl _ _ 61 rfl 0 116 i0 (.agg (tsPart ⟨([], 0), ([], 0), ([], 0)⟩ 0)) 6 72 Tryz.underlying61 HF.out.1 HF.out.2.1 HF.out.2.2.1 HF.out.2.2.2.1 rfl (by decide) _ k (flatV tsV (tolds m (ps.take k))) rfl HF.out.2.2.2.2.1 ⟨wr.heap.size, 0, none⟩ 1 1 (tsV (tsOf m p)) rfl rfl HF.out.2.2.2.2.2.1 HF.out.2.2.2.2.2.2.1 (by decide) HF.out.2.2.2.2.2.2.2.1 HF.out.2.2.2.2.2.2.2.2 (Nat.zero_le _) _ rfl ?_; intro g cap w2 hown hgr hloc hlt; have Q3 : Hid (TI w1 w2 _ _) := TI.pushed HT2.out HLEN.out hown hgr hloc; clear hown hgr hloc hlt)
            rw [← HTS.out] at Q3
            go_roundw
            case rel => exact ⟨k + 1, hlt, by go_num, Q3⟩
            case measure => simp [intOf]; omega
    · have hke : k = ps.length := by omega
      go_wp2_with fail
      go_ret
      refine ⟨_, rfl, ?_, ?_, ?_⟩
      · have := HT.out.bel
        have hb := HB1.out
        rw [← HNE.out] at hb
        exact below_step hb this
      · have := HT.out.own
        rw [hke, List.take_length] at this
        exact this
      · intro b hb
        have hle := HB1.out.size
        exact Nat.le_trans hle (HT.out.far b hb)
theorem told_any (B kb : Nat) (F : Nat → Prop) (m : Kp) (G : Gl) (s : Value) (ps : List Bs) (w : World) (h : KAt w B kb F m) (hG : Glob B G w) (hs : SO w s ps) (hp : ∀ p ∈ ps, p.length ≤ 9) (hn : ps.length ≤ 1000) :
    Calls Tryz.prog 33 #[.pointer (some ⟨kb, 0, none⟩), s] w fun e w' => ToldTo w (tolds m ps) e w' := by
  rcases hs.cases with ⟨rfl, rfl⟩ | ⟨q, cap, rfl, _⟩
  · refine (told_nil kb w).mono ?_
    rintro e w' ⟨rfl, hb⟩
    exact ⟨_, rfl, hb, Own.nil _ _ _ _, fun b hb => by cases hb⟩
  · exact told_some B kb F m G q cap ps w h hG hs hp hn
theorem len_to {w : World} {s : Value} {l : List TS} (h : TO w s l) (w' : World) : Sem.run Tryz.prog (Builtin.len_ #[61] 3 #[s]) w' = .ok (.int .i64 (l.length : Int)) w' := by
  rcases h.cases with ⟨rfl, rfl⟩ | ⟨q, cap, rfl, _, _, hm⟩
  · simp [go_sem]
  · simp [go_sem]
theorem to_cells {w : World} {q n cap : Nat} {l : List TS} (h : TO w (.slice (some ⟨q, 0, none⟩) n cap) l) (i : Nat) (hi : i < l.length) (x : TS) (hx : x = l[i]) :
    w.cell? ⟨q, i * 6, none⟩ = some (.string (ofL x.a.1)) ∧ w.cell? ⟨q, i * 6 + 1, none⟩ = some (.string (ofL x.b.1)) ∧ w.cell? ⟨q, i * 6 + 2, none⟩ = some (.string (ofL x.c.1)) ∧
    w.cell? ⟨q, i * 6 + 3, none⟩ = some (.int .i64 x.a.2) ∧ w.cell? ⟨q, i * 6 + 4, none⟩ = some (.int .i64 x.b.2) ∧ w.cell? ⟨q, i * 6 + 5, none⟩ = some (.int .i64 x.c.2) := by
  subst hx
  exact ⟨Own.cell tsV_length h i hi 0 (by decide), Own.cell tsV_length h i hi 1 (by decide), Own.cell tsV_length h i hi 2 (by decide), Own.cell tsV_length h i hi 3 (by decide), Own.cell tsV_length h i hi 4 (by decide), Own.cell tsV_length h i hi 5 (by decide)⟩
theorem to_some {w : World} {s : Value} {l : List TS} (h : TO w s l) {k : Nat} (hk : k < l.length) : ∃ q cap, s = .slice (some ⟨q, 0, none⟩) l.length cap := by
  rcases h.cases with ⟨_, h2⟩ | ⟨q, cap, h1, _⟩
  · rw [h2] at hk; exact absurd hk (Nat.not_lt_zero _)
  · exact ⟨q, cap, h1⟩
theorem str_eqB (a b : Bs) : ((ofL a).toList == (ofL b).toList) = decide (a = b) := by
  rw [eq_toList, Bool.eq_iff_iff, beq_iff_eq, decide_eq_true_iff]; exact ⟨fun h => by rwa [toL_ofL, toL_ofL] at h, fun h => by rw [h]⟩
def sEq (a b c d e f : Bs) : Bool := decide (a = d ∧ b = e ∧ c = f)
def nEq (a b c d e f : Nat) : Bool := decide (a = d ∧ b = e ∧ c = f)
theorem ts_eq (x y : TS) : x = y ↔ sEq x.a.1 x.b.1 x.c.1 y.a.1 y.b.1 y.c.1 = true ∧ nEq x.a.2 x.b.2 x.c.2 y.a.2 y.b.2 y.c.2 = true := by
  obtain ⟨⟨a, b⟩, ⟨c, d⟩, ⟨e, f⟩⟩ := x
  obtain ⟨⟨a', b'⟩, ⟨c', d'⟩, ⟨e', f'⟩⟩ := y
  unfold sEq nEq
  rw [decide_eq_true_iff, decide_eq_true_iff]
  constructor
  · intro h; cases h; exact ⟨⟨rfl, rfl, rfl⟩, rfl, rfl, rfl⟩
  · rintro ⟨⟨rfl, rfl, rfl⟩, rfl, rfl, rfl⟩; rfl
theorem eqStrs (a b c d e f : Bs) (w : World) : (Op.equalIn 9999 113 (.agg #[.string (ofL a), .string (ofL b), .string (ofL c)]) (.agg #[.string (ofL d), .string (ofL e), .string (ofL f)])).run Tryz.prog w = .ok (sEq a b c d e f) w := by
  unfold sEq
  have u3 := Tryz.underlying9
  have a3 := Tryz.isAgg9
  have z3 := Tryz.sizeOf9
  rw [show (9999 : Nat) = 9998 + 1 from rfl, Op.equalIn]
  simp only [Sem.run_bind, run_underlying Tryz.underlying113, Result.andThen_ok]
  simp only [Std.Legacy.Range.forIn_eq_forIn_range', Std.Legacy.Range.size, Nat.sub_zero, Nat.add_sub_cancel, Nat.div_one, List.range'_succ, List.range'_zero, List.forIn_cons, List.forIn_nil]
  have q1 := str_eqB a d
  have q2 := str_eqB b e
  have q3 := str_eqB c f
  go_simp
  by_cases h1 : a = d <;> by_cases h2 : b = e <;> by_cases h3 : c = f <;> simp [h1, h2, h3]
theorem eqNums (a b c d e f : Nat) (w : World) : (Op.equalIn 9999 114 (.agg #[.int .i64 a, .int .i64 b, .int .i64 c]) (.agg #[.int .i64 d, .int .i64 e, .int .i64 f])).run Tryz.prog w = .ok (nEq a b c d e f) w := by
  unfold nEq
  have u3 := Tryz.underlying35
  have a3 := Tryz.isAgg35
  have z3 := Tryz.sizeOf35
  rw [show (9999 : Nat) = 9998 + 1 from rfl, Op.equalIn]
  simp only [Sem.run_bind, run_underlying Tryz.underlying114, Result.andThen_ok]
  simp only [Std.Legacy.Range.forIn_eq_forIn_range', Std.Legacy.Range.size, Nat.sub_zero, Nat.add_sub_cancel, Nat.div_one, List.range'_succ, List.range'_zero, List.forIn_cons, List.forIn_nil]
  go_simp
  by_cases h1 : a = d <;> by_cases h2 : b = e <;> by_cases h3 : c = f <;> simp [h1, h2, h3] <;> omega
attribute [local go_sem] eqStrs eqNums
set_option maxRecDepth 20000 in
set_option maxHeartbeats 4000000 in
theorem same_any (a b : Value) (la lb : List TS) (w : World) (ha : TO w a la) (hb : TO w b lb) (hn : la.length ≤ 1000) :
    Calls Tryz.prog 35 #[a, b] w fun e w' => e = .returned (.bool (decide (la = lb))) ∧ Below w.heap.size w w' := by
  have HA : Hid (TO w a la) := ha
  have HB : Hid (TO w b lb) := hb
  have l1 : ∀ w', Sem.run Tryz.prog (Builtin.len_ #[61] 3 #[a]) w' = .ok (.int .i64 (la.length : Int)) w' := len_to ha
  have l2 : ∀ w', Sem.run Tryz.prog (Builtin.len_ #[61] 3 #[b]) w' = .ok (.int .i64 (lb.length : Int)) w' := len_to hb
  obtain ⟨D, hD⟩ : ∃ D, D = decide (la = lb) := ⟨_, rfl⟩
  have HD : Hid (D = decide (la = lb)) := hD
  rw [← hD]
  clear hD ha hb
  by_cases hl : la.length = lb.length
  · have HL : Hid (la.length = lb.length) := hl
    obtain ⟨n, hne⟩ : ∃ n, n = la.length := ⟨_, rfl⟩
    have HN : Hid (n = la.length) := hne
    rw [← hl, ← hne] at l2
    rw [← hne] at l1 hn
    clear hl hne
    go_enter Tryz.func35, Tryz.ntmps35
    go_wp2_with fail
    go_loopw [5] (fun iv wx => ∃ k : Nat, k ≤ n ∧ iv = .int .i64 k ∧ Hid (la.take k = lb.take k) ∧ Hid (Below w.heap.size w wx)) (fun iv _ => n - (intOf iv).toNat)
    case atStart => exact ⟨0, Nat.zero_le _, rfl, rfl, Below.refl _ _⟩
    case round =>
      obtain ⟨k, hk, rfl, HE, HW⟩ := hrel
      by_cases hlt : k < n
      · have h1 : k < la.length := by rw [← HN.out]; exact hlt
        have h2 : k < lb.length := by rw [← HL.out]; exact h1
        obtain ⟨x, hx⟩ : ∃ x, x = la[k] := ⟨_, rfl⟩
        obtain ⟨y, hy⟩ : ∃ y, y = lb[k] := ⟨_, rfl⟩
        have HAr := HA.out.below HW.out
        have HBr := HB.out.below HW.out
        obtain ⟨q1, c1, hs1⟩ := to_some HAr h1
        obtain ⟨q2, c2, hs2⟩ := to_some HBr h2
        rw [← HN.out] at hs1
        rw [← HL.out, ← HN.out] at hs2
        subst hs1
        subst hs2
        obtain ⟨x0, x1, x2, x3, x4, x5⟩ := to_cells HAr k h1 x hx
        obtain ⟨y0, y1, y2, y3, y4, y5⟩ := to_cells HBr k h2 y hy
        have HNX : Hid (x = y → la.take (k + 1) = lb.take (k + 1)) := fun e => by
          rw [List.take_succ_eq_append_getElem h1, List.take_succ_eq_append_getElem h2, HE.out, ← hx, ← hy, e]
        have HNE : Hid (x ≠ y → D = false) := fun e => by
          rw [HD.out, decide_eq_false_iff_not]
          intro e2
          subst e2
          exact e (hx.trans hy.symm)
        clear hx hy HAr HBr h1 h2
        have HXY := ts_eq x y
        by_cases hs : sEq x.a.1 x.b.1 x.c.1 y.a.1 y.b.1 y.c.1 = true
        · by_cases hm : nEq x.a.2 x.b.2 x.c.2 y.a.2 y.b.2 y.c.2 = true
          · have HE2 : Hid (la.take (k + 1) = lb.take (k + 1)) := HNX.out (HXY.2 ⟨hs, hm⟩)
            clear HXY
            go_wp2_with fail
            go_region
            go_wp2_with fail
            go_roundw
            case rel => exact ⟨k + 1, hlt, by go_num, HE2, HW.out.drew⟩
            case measure => simp [intOf]; omega
          · have HV : Hid (D = false) := HNE.out (fun e => hm (HXY.1 e).2)
            rw [Bool.not_eq_true] at hm
            clear HXY
            go_wp2_with fail
            go_region
            go_wp2_with fail
            go_ret
            exact ⟨by rw [HV.out]; rfl, HW.out.drew⟩
        · have HV : Hid (D = false) := HNE.out (fun e => hs (HXY.1 e).1)
          rw [Bool.not_eq_true] at hs
          clear HXY
          go_wp2_with fail
          go_region
          go_wp2_with fail
          go_ret
          exact ⟨by rw [HV.out]; rfl, HW.out.drew⟩
      · have HV : Hid (D = true) := by
          have e := HE.out
          rw [List.take_of_length_le (by have := HN.out; omega), List.take_of_length_le (by have := HN.out; have := HL.out; omega)] at e
          show D = true
          rw [HD.out, decide_eq_true e]
        go_wp2_with fail
        go_ret
        exact ⟨by rw [HV.out]; rfl, HW.out⟩
  · have HV : Hid (D = false) := by
      show D = false
      rw [HD.out, decide_eq_false (fun e => hl (by rw [e]))]
    go_enter Tryz.func35, Tryz.ntmps35
    go_wp2_with fail
    go_ret
    exact ⟨by rw [HV.out]; rfl, Below.refl _ _⟩
end Go.Proofs.YtmnajomkfnkmeaaGreatDoor
