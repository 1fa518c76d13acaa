import Derived.Test.YtmnajomkfnkmeaaGreatDoorPda
import Derived.Deep.Upon
import Derived.Deep.RegionLaw
set_option maxRecDepth 100000
set_option maxHeartbeats 8000000
set_option linter.unusedSimpArgs false
namespace Go.Proofs.YtmnajomkfnkmeaaGreatDoor
open Go.RowKit
attribute [local go_sem] ofL_size
theorem leftAux_len (keep torn part : Int) : ∀ (l : List (Nat × Bs)) (i : Nat) (s : Bs), (∀ x ∈ l, x.1 + 32 ≤ s.length ∧ x.2.length = 32) → (leftAux keep torn part i s l).length = s.length
 | [], _, _, _ => rfl
 | (a, b) :: r, i, s, h => by
  have h1 : a + 32 ≤ s.length ∧ b.length = 32 := h (a, b) (by simp);obtain ⟨h2, h3⟩ := h1;have hl : ∀ c : Bs, c.length ≤ 32 → (laidB s a c).length = s.length := fun c hc => laidB_length (by omega);unfold leftAux;have key : ∀ s' : Bs, s'.length = s.length → (leftAux keep torn part (i + 1) s' r).length = s.length := fun s' hs' => by
   rw [leftAux_len keep torn part r (i + 1) s' (fun x hx => by rw [hs']; exact h x (List.mem_cons_of_mem _ hx)), hs']
  refine key _ ?_;split
  ·exact hl _ (by rw [List.length_take, h3]; exact Nat.min_le_right _ _)
  ·split
   ·exact hl b (by omega)
   ·rfl
theorem left_len {m : Kp} (h : WayFits m) (keep torn part : Int) : (m.left keep torn part).length = m.disk.length := leftAux_len keep torn part m.way 0 m.disk h
theorem step_app0 {P : Program} {ops : Array Oper} {o : Oper} {a : Act} {w : World} {K : Act → World → Prop} {Q : Exit → Act → World → Prop} {E : Prop} (hgd : o.guard = none) (s x : Operand) (t : TypeId)
  (ho : o.op = .call { callee := .builtin .append, args := #[s, x], argTypes := #[t, t] }) (u y v : Value) (hs : a.eval s = u) (hx : a.eval x = y) (hrun : (Builtin.append_ #[t, t] o.type #[u, y]).run P w = .ok v w) (hK : K (a.put o.dst v) w) :
  if Region.wanted o (yielded ops a.tmps) = true then Oper.wp P o a w K Q else E := by
 have hw : Region.wanted o (yielded ops a.tmps) = true := by simp [Region.wanted, hgd]
 rw [if_pos hw];unfold Oper.wp;simp [execOp, ho, resolve, invoke, builtin, hs, hx, hrun, Result.andThen];exact hK
theorem PairP.lay {w w2 : World} {B pb kb rb : Nat} {sv : Value} {Fk Fq : Nat → Prop} {m : Kp} {ps qs : List Bs} {g L cap : Nat} (h : PairP w B pb kb rb sv Fk Fq m ps)
  (hown : SO w2 (.slice (some ⟨g, 0, none⟩) L cap) qs) (hgr : w.grownBy w2 sv.ownBlock) (hloc : sv.ownBlock = some g ∨ g = w.heap.size) :
  PairP (w2.setCell ⟨pb, 2, none⟩ (.slice (some ⟨g, 0, none⟩) L cap)) B pb kb rb (.slice (some ⟨g, 0, none⟩) L cap) Fk Fq m qs ∧ w2.cell? ⟨pb, 2, none⟩ = some sv ∧ w2.frozen? ⟨pb, 2, none⟩ = false ∧
   Fr (fun b => b = pb ∨ sv.ownBlock = some b) w (w2.setCell ⟨pb, 2, none⟩ (.slice (some ⟨g, 0, none⟩) L cap)) ∧ (sv.ownBlock = some g ∨ w.heap.size ≤ g) := by
 have hf : Fr (fun c => sv.ownBlock = some c) w w2 := (Fr.refl (fun c => sv.ownBlock = some c) w).grown hgr (fun k hk _ => hk);have nk : ¬ sv.ownBlock = some pb := fun e => (h.sk pb e).2.2 rfl;have hb2 := h.blk.kept hf nk;have hset := hb2.set 2 (.slice (some ⟨g, 0, none⟩) L cap);have hfs := fr_cell (w := w2) (kb := pb) 2 (.slice (some ⟨g, 0, none⟩) L cap);have hpl := h.blk.lt;have hBp := h.ge.1;have hg4 : g ≠ pb ∧ ¬ Fk g ∧ ¬ Fq g ∧ B ≤ g := by
  rcases hloc with e | e
  ·exact ⟨(h.sk g e).2.2, (h.sk g e).1, (h.sk g e).2.1, h.ge.2.2 g e⟩
  ·refine ⟨by omega, fun x => ?_, fun x => ?_, by omega⟩
   ·have := (h.k.foot x).2; omega
   ·have := h.r.foot x; omega
 refine ⟨⟨hset, (h.k.kept hf (fun b hb e => (h.sk b e).1 hb)).kept hfs (fun b hb e => h.kp (e ▸ hb)), (h.r.kept hf (fun b hb e => (h.sk b e).2.1 hb)).kept hfs (fun b hb e => h.rp (e ▸ hb)), hown.kept hfs (fun c hc e => ?_), h.fit, h.kr, h.kp, h.rp, fun c hc => ?_, h.ge.1, h.ge.2.1, fun c hc => ?_⟩, hb2.cell 2, hb2.frozen 2, (hf.mono (fun b _ e => Or.inr e)).trans hfs (fun b _ e => Or.inl e), ?_⟩
 ·have e2 : some g = some c := hc;injection e2 with e2; exact hg4.1 (e2.trans e)
 ·have e2 : some g = some c := hc;injection e2 with e2
  rw [← e2]; exact ⟨hg4.2.1, hg4.2.2.1, hg4.1⟩
 ·have e2 : some g = some c := hc;injection e2 with e2
  rw [← e2]; exact hg4.2.2.2
 ·rcases hloc with e | e
  ·exact Or.inl e
  ·exact Or.inr (by omega)
theorem PairP.reset {w : World} {B pb kb rb : Nat} {sv : Value} {Fk Fq : Nat → Prop} {m : Kp} {ps : List Bs} (h : PairP w B pb kb rb sv Fk Fq m ps) : PairP (w.setCell ⟨pb, 2, none⟩ sv) B pb kb rb sv Fk Fq m ps := by
 have hfs := fr_cell (w := w) (kb := pb) 2 sv;exact ⟨h.blk.set 2 sv, h.k.kept hfs (fun b hb e => h.kp (e ▸ hb)), h.r.kept hfs (fun b hb e => h.rp (e ▸ hb)), h.ps.kept hfs (fun b hb e => (h.sk b hb).2.2 e), h.fit, h.kr, h.kp, h.rp, h.sk, h.ge⟩
theorem app_none {w : World} {c : Nat} {a : Option Addr} {s : Value} (hs : SO w s []) (hu : SO w (.slice a 0 c) []) (ty : TypeId) : (Builtin.append_ #[57, 57] ty #[s, .slice a 0 c]).run Tryz.prog w = .ok s w := by
 obtain ⟨i0, hi, hzz⟩ := Option.map_eq_some_iff.1 info_str;have hx : Src Tryz.prog i0.size 57 (.slice a 0 c) 0 [] w := by
  cases a with
  | none => exact Src.ofNil (e' := 9) w Tryz.underlying57 c
  | some a => exact Src.ofSlice (e' := 9) w Tryz.underlying57 a 0 c [] (by simp) (fun j u h => by simp at h) (fun u h => by cases h)
 obtain ⟨b, c2, rfl, -⟩ := so_slice hs;exact run_append_nothing w _ _ ty 9 i0 Tryz.underlying57 hi b 0 c2 (Nat.zero_le _) _ hx
theorem app_all {w : World} {q n c : Nat} {ps : List Bs} (h : SO w (.slice (some ⟨q, 0, none⟩) n c) ps) (hn : ps.length = n) (hle : n ≤ 1000000000000) :
  ∃ i0, Tryz.prog.info? 9 = some i0 ∧ i0.zero = some (.string ByteArray.empty) ∧ i0.size = 1 ∧ i0.bytes = 16 ∧ (flatV strV ps).length = n * 1 ∧
   (∀ (j : Nat) (u : Value), (flatV strV ps)[j]? = some u → w.cell? ((⟨q, 0, none⟩ : Addr).add j) = some u) ∧ (∀ u ∈ flatV strV ps, u.oneCell' = true) ∧ 0 + n ≤ maxLen ∧ (0 + n) * 16 ≤ 140737488355328 := by
 obtain ⟨i0, hi, hzz⟩ := Option.map_eq_some_iff.1 info_str;simp only [Prod.mk.injEq] at hzz;obtain ⟨hz, hs0, hb⟩ := hzz;have hl : (flatV strV ps).length = n * 1 := by rw [flatV_length strV_length, hn]
 refine ⟨i0, hi, hz, hs0, hb, hl, fun j u hu => ?_, fun u hu => ?_, by unfold maxLen; omega, by omega⟩
 ·have hj : j < n * 1 := by rw [← hl]; exact (List.getElem?_eq_some_iff.1 hu).1
  have hadd : (⟨q, 0, none⟩ : Addr).add j = ⟨q, j, none⟩ := by unfold Addr.add; split <;> simp_all
  have h' := h;unfold SO Own at h';rw [hn] at h';rw [hadd, World.ownsRow.cellAt h' j hj, hu]
 ·unfold flatV at hu;simp only [List.mem_flatten, List.mem_map] at hu;obtain ⟨l, ⟨x, _, rfl⟩, hu⟩ := hu;rw [List.mem_singleton.1 hu]; rfl
theorem own_all {w : World} {v : Value} {L : Nat} {ps : List Bs} (hL : ps.length = L) (h : w.ownsRow 0 9 1 v (0 + L) (flatV strV [] ++ flatV strV ps)) : SO w v ps := by
 have e : 0 + L = ps.length := by omega
 rw [e] at h;exact h
theorem again_end {w w1 w2 w9 : World} {B pb kb rb : Nat} {sv sv' : Value} {Fk Fq P : Nat → Prop} {m : Kp} {ps : List Bs} (h9 : PairP w9 B pb kb rb sv' Fk Fq m ps) (hP : ∀ b, P b ↔ pfoot pb sv Fk Fq b) (hge : ∀ b, P b → w1.heap.size ≤ b) (h1 : w.heap.size ≤ w1.heap.size) (hf2 : Fr (fun _ => False) w w2) (hf9 : Fr (fun b => b = pb ∨ sv.ownBlock = some b) w2 w9) (hn : ∀ b, sv'.ownBlock = some b → sv.ownBlock = some b ∨ w2.heap.size ≤ b) :
  ∃ Q, PAt w9 B pb Q m ps ∧ (∀ b, Q b → w.heap.size ≤ b) ∧ Fr (fun _ => False) w w9 := by
 have hs2 := hf2.size;have hge' : ∀ b, pfoot pb sv Fk Fq b → w.heap.size ≤ b := fun b hb => Nat.le_trans h1 (hge b ((hP b).2 hb));refine ⟨pfoot pb sv' Fk Fq, ⟨kb, rb, sv', Fk, Fq, h9, fun _ => Iff.rfl⟩, fun b hb => ?_, hf2.trans hf9 (fun i hi e => ?_)⟩
 ·rcases hb with e | e | e | e
  ·exact hge' b (Or.inl e)
  ·exact hge' b (Or.inr (Or.inl e))
  ·exact hge' b (Or.inr (Or.inr (Or.inl e)))
  ·rcases hn b e with e | e
   ·exact hge' b (Or.inr (Or.inr (Or.inr e)))
   ·omega
 ·have : w.heap.size ≤ i := by
   rcases e with e | e
   ·exact hge' i (Or.inl e)
   ·exact hge' i (Or.inr (Or.inr (Or.inr e)))
  omega
def pagTo (w : World) (B : Nat) (ps : List Bs) (o : Option Kp) (e : Ending) (w' : World) : Prop :=
 match o with
 | none => e = .returned (.tuple #[.pointer none, .bool true]) ∧ Fr (fun _ => False) w w'
 | some m => ∃ pb P, e = .returned (.tuple #[.pointer (some ⟨pb, 0, none⟩), .bool true]) ∧ PAt w' B pb P m ps ∧ (∀ b, P b → w.heap.size ≤ b) ∧ Fr (fun _ => False) w w'
theorem pagain_any (B pb : Nat) (P : Nat → Prop) (m : Kp) (ps : List Bs) (G : Gl) (o : OpD) (w : World) (h : PAt w B pb P m ps) (hG : Glob B G w) (ho : OpOk o) (hn : ps.length ≤ 1000000000000) :
  Calls Tryz.prog 51 #[.pointer (some ⟨pb, 0, none⟩), opV o] w (pagTo w B ps (openK (m.left o.a o.b o.c) o.cfg).2) := by
 obtain ⟨kb, rb, sv, Fk, Fq, hp, hP⟩ := h;have HP : Hid (PairP w B pb kb rb sv Fk Fq m ps) := hp;have HPF : Hid (∀ b, P b ↔ pfoot pb sv Fk Fq b) := hP;have HG : Hid (Glob B G w) := hG;have HOK : Hid (OpOk o) := ho;have HN : Hid (ps.length ≤ 1000000000000) := hn;clear hp hP hG ho hn;obtain ⟨w0, hw0⟩ : ∃ w0, w0 = w.alloc (.cells (opC o) 29) := ⟨_, rfl⟩;have HB0 : Hid (Below w.heap.size w w0) := by rw [hw0]; exact bA
 have HO0 : Hid (Blk w0 w.heap.size (opC o) 29) := by rw [hw0]; exact Blk.new w _ _
 have HP0 : Hid (PairP w0 B pb kb rb sv Fk Fq m ps) := HP.out.kept (Fr.of_below (S := fun _ => False) HB0.out) (fun _ _ h => h);have c0 := HP0.out.blk.cell 0;have o3 := HO0.out.cell 3;have o4 := HO0.out.cell 4;have o5 := HO0.out.cell 5;simp only [opC, gT, gZ, gS] at o3 o4 o5 c0;have hbo := HO0.out.lt;have hbp := HP0.out.blk.lt;have HLL : Hid ((m.left o.a o.b o.c).length ≤ 9223372036854775807) := by
  rw [left_len HP.out.fit];obtain ⟨db, jb, sb, mb, f, D, sl, Fd, d, hk, -⟩ := HP.out.k;exact Nat.le_trans hk.dj.size.2.2 (by decide)
 have HCK : Hid (Calls _ _ _ _ _) := kleft_any B kb Fk m o.a o.b o.c w0.drew (HP0.out.k.below (Below.refl _ _).drew) HOK.out.a HOK.out.c;have HCR : Hid (∀ w', Below w.heap.size w w' → Calls Tryz.prog 47 #[.pointer (some ⟨rb, 0, none⟩), .int .i64 o.a, .int .i64 o.b, .int .i64 o.c] w' fun e w'' => e = .returned (.string (ofL (m.left o.a o.b o.c))) ∧ Below w'.heap.size w' w'') := fun w' hb => dkleft_any rb Fq m o.a o.b o.c w' (HP.out.r.below hb) HP.out.fit HOK.out.a HOK.out.c;have HPB : Hid (∀ w', Below w.heap.size w w' → Blk w' pb #[.pointer (some ⟨kb, 0, none⟩), .pointer (some ⟨rb, 0, none⟩), sv] 74) := fun w' hb => HP.out.blk.below hb;have HOB : Hid (∀ w', Below w0.heap.size w0 w' → Blk w' w.heap.size (opC o) 29) := fun w' hb => HO0.out.below hb;generalize m.left o.a o.b o.c = lv at *
 have HPO : Hid (∀ w', Glob B G w' → Calls Tryz.prog 12 #[.string (ofL lv), cfgV o.cfg] w' (poTo w' B (openK lv o.cfg).2)) := fun w' h => popen_any lv o.cfg B G w' HLL.out (Nat.le_trans HOK.out.secret (by decide)) h;generalize (openK lv o.cfg).2 = R at *
 unfold opV;unfold opC cfgV at *
 go_enter Tryz.func51, Tryz.ntmps51;go_upto_region 1 with fail
 rw [← hw0];clear hw0
 go_region_held3 (fun w' => w'.cell? ⟨pb, 0, none⟩ = some (.pointer (some ⟨kb, 0, none⟩)) ∧ w'.cell? ⟨w.heap.size, 3, none⟩ = some (.int .i64 o.a) ∧ w'.cell? ⟨w.heap.size, 4, none⟩ = some (.int .i64 o.b) ∧ w'.cell? ⟨w.heap.size, 5, none⟩ = some (.int .i64 o.c) ∧ pb < w'.heap.size ∧ w.heap.size < w'.heap.size ∧ Below w0.heap.size w0 w')
  (first
   | exact pstep (by assumption) (by assumption)
   | assumption
   | exact ⟨c0, o3, o4, o5, hbp, hbo, (Below.refl _ _).drew⟩)
  (first
   | (go_at_call 23; refine HCK.out.mono ?_; rintro e w' ⟨rfl, hbN⟩))
 rename_i hHeld;obtain ⟨w1, hw1⟩ : ∃ w1, w1 = w' := ⟨_, rfl⟩;subst hw1;have HBx : Hid (Below w0.heap.size w0 w1) := hHeld.2.2.2.2.2.2;have HB1 : Hid (Below w.heap.size w w1) := bstep HB0.out HBx.out;obtain ⟨-, p3, p4, p5, p6, p7, -⟩ := hHeld;have c1 := Blk.cell (HPB.out _ HB1.out) 1;simp only [gT, gZ, gS] at c1;clear hbN o3 o4 o5 c0 hbo hbp HCK;go_upto_region 2 with fail
 go_region_held3 (fun w' => w'.cell? ⟨pb, 1, none⟩ = some (.pointer (some ⟨rb, 0, none⟩)) ∧ w'.cell? ⟨w.heap.size, 3, none⟩ = some (.int .i64 o.a) ∧ w'.cell? ⟨w.heap.size, 4, none⟩ = some (.int .i64 o.b) ∧ w'.cell? ⟨w.heap.size, 5, none⟩ = some (.int .i64 o.c) ∧ pb < w'.heap.size ∧ w.heap.size < w'.heap.size ∧ Below w0.heap.size w0 w')
  (first
   | exact pstep (by assumption) (by assumption)
   | assumption
   | exact ⟨c1, p3, p4, p5, p6, p7, HBx.out.drew⟩)
  (first
   | (go_at_call 47; refine (HCR.out _ HB1.out.drew).mono ?_; rintro e w' ⟨rfl, hbN⟩))
 rename_i hHeld;have HBy : Hid (Below w0.heap.size w0 w') := hHeld.2.2.2.2.2.2;have HB2 : Hid (Below w.heap.size w w') := bstep HB0.out HBy.out;have q9 := (HOB.out _ HBy.out).cell 9;have qa := (HOB.out _ HBy.out).cell 10;have qb := (HOB.out _ HBy.out).cell 11;have qc := (HOB.out _ HBy.out).cell 12;have qd := (HOB.out _ HBy.out).cell 13;simp only [gT, gZ, gS] at q9 qa qb qc qd;clear hHeld hbN HCR c1 p3 p4 p5 p6 p7;have hbs := bsR lv;go_wp2_with fail;refine (HPO.out _ (DigitsBelow HG.out HB2.out)).mono ?_;intro e w2 h2;rcases R with _ | m'
 ·obtain ⟨rfl, hf2⟩ : e = _ ∧ Fr (fun _ => False) w' w2 := h2;have HF2 : Hid (Fr (fun _ => False) w w2) := (Fr.of_below HB2.out).trans hf2 (fun _ _ h => h);clear hf2 q9 qa qb qc qd HPO hbs;go_wp2_with fail;go_ret2;exact ⟨rfl, HF2.out⟩
 ·obtain ⟨nb, Q, rfl, hq, hge, hf2⟩ : ∃ nb Q, e = .returned (.tuple #[.pointer (some ⟨nb, 0, none⟩), .bool true]) ∧ PAt w2 B nb Q m' [] ∧ (∀ b, Q b → w'.heap.size ≤ b) ∧ Fr (fun _ => False) w' w2 := h2;obtain ⟨kb', rb', nv, Fk', Fq', hq, hQ⟩ := hq;have HOLD : Hid (PairP w2 B pb kb rb sv Fk Fq m ps) := (HP.out.kept (Fr.of_below (S := fun _ => False) HB2.out) (fun _ _ h => h)).kept hf2 (fun _ _ h => h);have HF2 : Hid (Fr (fun _ => False) w w2) := (Fr.of_below HB2.out).trans hf2 (fun _ _ h => h);have HF2D : Hid (Fr (fun _ => False) w w2.drew) := HF2.out.trans (Fr.of_below (S := fun _ => False) (Below.refl _ _).drew) (fun _ _ h => h);have HNEW : Hid (PairP w2 B nb kb' rb' nv Fk' Fq' m' [] ∧ (∀ b, Q b ↔ pfoot nb nv Fk' Fq' b) ∧ (∀ b, Q b → w'.heap.size ≤ b)) := ⟨hq, hQ, hge⟩;obtain ⟨na, nc, hnv, -⟩ := so_slice hq.ps;obtain ⟨sa, sc, hsv, hsa⟩ := so_slice HOLD.out.ps;obtain ⟨L, hL⟩ : ∃ L, ps.length = L := ⟨_, rfl⟩;have HL : Hid (ps.length = L ∧ L ≤ 1000000000000) := ⟨hL, hL ▸ HN.out⟩;rw [hL] at hsv hsa;change nv = .slice na 0 nc at hnv;subst hnv hsv;have HNEWD : Hid (PairP w2.drew B nb kb' rb' (.slice na 0 nc) Fk' Fq' m' []) := HNEW.out.1.kept (Fr.of_below (S := fun _ => False) (Below.refl _ _).drew) (fun _ _ h => h);have HOLDD : Hid (PairP w2.drew B pb kb rb (.slice sa L sc) Fk Fq m ps) := HOLD.out.kept (Fr.of_below (S := fun _ => False) (Below.refl _ _).drew) (fun _ _ h => h);have n2 := HNEWD.out.blk.cell 2;have s2 := HOLDD.out.blk.cell 2;have nf := HNEWD.out.blk.frozen 2;simp only [gT, gZ, gS] at n2 s2;clear hq hQ hge hf2 q9 qa qb qc qd HPO hbs hL HP0 HOB HO0 HP;by_cases hL0 : L = 0
  ·subst hL0;have hnil : ps = [] := List.eq_nil_of_length_eq_zero HL.out.1;have HAN : Hid (∀ ty, (Builtin.append_ #[57, 57] ty #[.slice na 0 nc, .slice sa 0 sc]).run Tryz.prog w2.drew = .ok (.slice na 0 nc) w2.drew) := fun ty => app_none HNEWD.out.ps (by rw [hnil] at HOLDD; exact HOLDD.out.ps) ty;have HEND : Hid (pagTo w B ps (some m') (.returned (.tuple #[.pointer (some ⟨nb, 0, none⟩), .bool true])) (w2.drew.setCell ⟨nb, 2, none⟩ (.slice na 0 nc))) := by
    obtain ⟨Q', e1, e2, e3⟩ := again_end (w1 := w') HNEWD.out.reset HNEW.out.2.1 HNEW.out.2.2 HB2.out.size HF2D.out ((fr_cell (w := w2.drew) (kb := nb) 2 (.slice na 0 nc)).mono (fun _ _ e => Or.inl e)) (fun b hb => Or.inl hb);rw [← hnil] at e1;exact ⟨nb, Q', rfl, e1, e2, e3⟩
   clear hnil hsa;go_wp2_with fail
   go_region_law (refine step_app0 rfl _ _ 57 rfl (.slice na 0 nc) (.slice sa 0 sc) (.slice na 0 nc) rfl rfl (HAN.out _) ?_)
   all_goals go_wp2_with fail
   all_goals go_ret2
   all_goals exact HEND.out
  ·obtain ⟨q, rfl, hq⟩ := hsa (by omega);obtain ⟨i0, hfacts⟩ := app_all HOLDD.out.ps HL.out.1 HL.out.2;have HF : Hid (_ ∧ _ ∧ _ ∧ _ ∧ _ ∧ _ ∧ _ ∧ _ ∧ _) := hfacts;have HL0 : Hid (0 < L) := Nat.pos_of_ne_zero hL0;have HNS : Hid (w2.drew.ownsRow 0 9 1 (.slice na 0 nc) 0 (flatV strV [])) := HNEWD.out.ps;clear hfacts hL0 hsa hq;go_wp2_with fail
   go_region_law (refine step_append_lies _ rfl _ _ 57 rfl 0 9 i0 (.string ByteArray.empty) 1 16 Tryz.underlying57 HF.out.1 HF.out.2.1 HF.out.2.2.1 HF.out.2.2.2.1 rfl (by decide) (.slice na 0 nc) 0 (flatV strV []) rfl HNS.out ⟨q, 0, none⟩ L sc (flatV strV ps) rfl HF.out.2.2.2.2.1 HF.out.2.2.2.2.2.1 HF.out.2.2.2.2.2.2.1 HL0.out HF.out.2.2.2.2.2.2.2.1 HF.out.2.2.2.2.2.2.2.2 (Nat.zero_le _) _ rfl ?_; intro g cap2 w5 hown hgr hloc hlt; obtain ⟨p1, p2, p3, p4, p5⟩ := PairP.lay HNEWD.out (own_all HL.out.1 hown) hgr hloc; have HQ : Hid (_ ∧ _ ∧ _) := ⟨p1, p4, p5⟩; clear hown hgr hloc hlt p1 p4 p5)
   all_goals go_wp2_with fail
   all_goals go_ret2
   all_goals
    have hq := HQ.out;rw [Nat.zero_add] at hq;obtain ⟨h1, h4, h5⟩ := hq;obtain ⟨Q', e1, e2, e3⟩ := again_end (w1 := w') h1 HNEW.out.2.1 HNEW.out.2.2 HB2.out.size HF2D.out h4 (fun b hb => by
     have e2 : some g = some b := hb
     injection e2 with e2
     rw [← e2]; exact h5)
    exact ⟨nb, Q', rfl, e1, e2, e3⟩
end Go.Proofs.YtmnajomkfnkmeaaGreatDoor
namespace Go.Proofs.YtmnajomkfnkmeaaGreatDoor
open Go.RowKit
attribute [local go_sem] ofL_size
def PE (w : World) (B pb : Nat) (P : Nat → Prop) (n : Nat) : Prop := ∃ m ps, PAt w B pb P m ps ∧ PsOk ps n
theorem PE.kept {S : Nat → Prop} {w w' : World} {B pb : Nat} {P : Nat → Prop} {n : Nat} (h : PE w B pb P n) (hf : Fr S w w') (hn : ∀ b, P b → ¬ S b) : PE w' B pb P n := by
 obtain ⟨m, ps, h, h2⟩ := h;exact ⟨m, ps, h.kept hf hn, h2⟩
theorem PE.foot {w : World} {B pb : Nat} {P : Nat → Prop} {n : Nat} (h : PE w B pb P n) {b : Nat} (hb : P b) : B ≤ b ∧ b < w.heap.size := by
 obtain ⟨m, ps, h, h2⟩ := h;exact h.foot hb
theorem PE.up {w : World} {B pb : Nat} {P : Nat → Prop} {n : Nat} (h : PE w B pb P n) : PE w B pb P (n + 1) := by
 obtain ⟨m, ps, h, h2⟩ := h;exact ⟨m, ps, h, Nat.le_succ_of_le h2.1, h2.2⟩
def NewP (w : World) (B n : Nat) (e : Ending) (w' : World) : Prop := Fr (fun _ => False) w w' ∧ (e = .returned (.tuple #[.pointer none, .bool true]) ∨ ∃ pb P, e = .returned (.tuple #[.pointer (some ⟨pb, 0, none⟩), .bool true]) ∧ PE w' B pb P n ∧ ∀ b, P b → w.heap.size ≤ b)
theorem open_new (d : Bs) (c : Cfg) (B n : Nat) (G : Gl) (w : World) (hd : d.length ≤ 9223372036854775807) (hs : c.secret.length ≤ 9223372036854775000) (hG : Glob B G w) :
  Calls Tryz.prog 12 #[.string (ofL d), cfgV c] w (NewP w B n) := by
 refine (popen_any d c B G w hd hs hG).mono ?_;intro e w' h;rcases hO : (openK d c).2 with _ | m
 ·rw [hO] at h;obtain ⟨h1, h2⟩ := h;exact ⟨h2, Or.inl h1⟩
 ·rw [hO] at h;obtain ⟨pb, P, h1, h2, h3, h4⟩ := h;exact ⟨h4, Or.inr ⟨pb, P, h1, ⟨m, [], h2, Nat.zero_le _, fun s hs => by cases hs⟩, h3⟩⟩
theorem again_new (B pb : Nat) (P : Nat → Prop) (G : Gl) (o : OpD) (n : Nat) (w : World) (h : PE w B pb P n) (hG : Glob B G w) (ho : OpOk o) (hn : n ≤ 1000000000000) :
  Calls Tryz.prog 51 #[.pointer (some ⟨pb, 0, none⟩), opV o] w (NewP w B n) := by
 obtain ⟨m, ps, h, hps⟩ := h;refine (pagain_any B pb P m ps G o w h hG ho (Nat.le_trans hps.1 hn)).mono ?_;intro e w' h;rcases hO : (openK (m.left o.a o.b o.c) o.cfg).2 with _ | m'
 ·rw [hO] at h;obtain ⟨h1, h2⟩ := h;exact ⟨h2, Or.inl h1⟩
 ·rw [hO] at h;obtain ⟨pb, P, h1, h2, h3, h4⟩ := h;exact ⟨h4, Or.inr ⟨pb, P, h1, ⟨m', ps, h2, hps⟩, h3⟩⟩
def StepP (w : World) (B pb : Nat) (P : Nat → Prop) (n : Nat) (w' : World) : Prop := ∃ P', PE w' B pb P' (n + 1) ∧ Fr P w w' ∧ ∀ b, P' b → P b ∨ w.heap.size ≤ b
theorem does_step (B pb : Nat) (P : Nat → Prop) (G : Gl) (o : OpD) (n : Nat) (w : World) (h : PE w B pb P n) (hG : Glob B G w) (ho : OpOk o) (hn : n ≤ 1000000000000) :
  Calls Tryz.prog 13 #[.pointer (some ⟨pb, 0, none⟩), opV o] w fun e w' => e = .returned (.bool true) ∧ StepP w B pb P n w' := by
 obtain ⟨m, ps, h, hps⟩ := h;refine (does_any2 B pb P m ps G o n w h hG ho hps hn).mono ?_;rintro e w' ⟨h1, m', ps', ⟨P', h2, h3, h4⟩, h5⟩;exact ⟨h1, P', ⟨m', ps', h2, h5⟩, h3, h4⟩
def ptrV (x : Nat × (Nat → Prop)) : List Value := [.pointer (some ⟨x.1, 0, none⟩)]
theorem ptrV_length (x : Nat × (Nat → Prop)) : (ptrV x).length = 1 := rfl
abbrev QO (w : World) (s : Value) (l : List (Nat × (Nat → Prop))) : Prop := Own w 24 1 ptrV s l
structure PL (w : World) (B : Nat) (sv : Value) (l : List (Nat × (Nat → Prop))) (n : Nat) : Prop where
 row : QO w sv l
 each : ∀ (i : Nat) (x : Nat × (Nat → Prop)), l[i]? = some x → PE w B x.1 x.2 n
 apart : ∀ (i j : Nat) (x y : Nat × (Nat → Prop)), l[i]? = some x → l[j]? = some y → i ≠ j → ∀ b, x.2 b → ¬ y.2 b
 own : ∀ b : Nat, sv.ownBlock = some b → B ≤ b ∧ ∀ x ∈ l, ¬ x.2 b
theorem PL.kept {w w' : World} {B : Nat} {sv : Value} {l : List (Nat × (Nat → Prop))} {n : Nat} (h : PL w B sv l n) (hf : Fr (fun _ => False) w w') : PL w' B sv l n :=
 ⟨h.row.kept hf (fun _ _ e => e), fun i x hx => (h.each i x hx).kept hf (fun _ _ e => e), h.apart, h.own⟩
theorem PL.up {w : World} {B : Nat} {sv : Value} {l : List (Nat × (Nat → Prop))} {n : Nat} (h : PL w B sv l n) : PL w B sv l (n + 1) :=
 ⟨h.row, fun i x hx => (h.each i x hx).up, h.apart, h.own⟩
theorem PL.step {w w' : World} {B : Nat} {sv : Value} {l : List (Nat × (Nat → Prop))} {n i : Nat} {x : Nat × (Nat → Prop)} (h : PL w B sv l n) (hx : l[i]? = some x) (hs : StepP w B x.1 x.2 n w') : ∃ l', l'.length = l.length ∧ PL w' B sv l' (n + 1) ∧ Fr x.2 w w' := by
 obtain ⟨P', h1, h2, h3⟩ := hs;have hi : i < l.length := (List.getElem?_eq_some_iff.1 hx).1;have hmem : x ∈ l := List.mem_of_getElem? hx;have hget : ∀ j y, (l.set i (x.1, P'))[j]? = some y → (j = i ∧ y = (x.1, P')) ∨ (j ≠ i ∧ l[j]? = some y) := fun j y hy => by
  by_cases e : j = i
  ·subst e;rw [List.getElem?_set_self hi] at hy;injection hy with hy
   exact Or.inl ⟨rfl, hy.symm⟩
  ·rw [List.getElem?_set_ne (fun h => e h.symm)] at hy;exact Or.inr ⟨e, hy⟩
 refine ⟨l.set i (x.1, P'), List.length_set, ⟨?_, fun j y hy => ?_, fun j k y z hy hz hne b hb hc => ?_, fun b hb => ⟨(h.own b hb).1, fun y hy hyb => ?_⟩⟩, h2⟩
 ·have hr : QO w' sv l := h.row.kept h2 (fun b hb e => (h.own b hb).2 x hmem e);have hfl : flatV ptrV (l.set i (x.1, P')) = flatV ptrV l := by
   unfold flatV;congr 1;rw [List.map_set];have hxl : l[i] = x := by
    have := List.getElem?_eq_getElem hi;rw [this] at hx; injection hx
   apply List.ext_getElem?;intro j;by_cases e : i = j
   ·subst e;rw [List.getElem?_set_self (by simpa using hi), List.getElem?_map, hx];rfl
   ·rw [List.getElem?_set_ne e]
  unfold QO Own at hr ⊢;rw [hfl, List.length_set];exact hr
 ·rcases hget j y hy with ⟨-, rfl⟩ | ⟨hj, hy⟩
  ·exact h1
  ·exact ((h.each j y hy).kept h2 (fun b hb e => h.apart j i y x hy hx hj b hb e)).up
 ·rcases hget j y hy with ⟨e1, e2⟩ | ⟨hj, hy2⟩
  ·subst e1 e2;rcases hget k z hz with ⟨e1, e2⟩ | ⟨hk, hz2⟩
   ·exact hne e1.symm
   ·rcases h3 b hb with e | e
    ·exact h.apart j k x z hx hz2 hne b e hc
    ·have := ((h.each k z hz2).foot hc).2; omega
  ·rcases hget k z hz with ⟨e1, e2⟩ | ⟨hk, hz2⟩
   ·subst e1 e2;rcases h3 b hc with e | e
    ·exact h.apart j k y x hy2 hx hne b hb e
    ·have := ((h.each j y hy2).foot hb).2; omega
   ·exact h.apart j k y z hy2 hz2 hne b hb hc
 ·obtain ⟨j, hj⟩ := List.mem_iff_getElem?.1 hy;rcases hget j y hj with ⟨rfl, rfl⟩ | ⟨-, hj⟩
  ·rcases h3 b hyb with e | e
   ·exact (h.own b hb).2 x hmem e
   ·have := h.row.lt hb; omega
  ·exact (h.own b hb).2 y (List.mem_of_getElem? hj) hyb
theorem PL.push {w w2 : World} {B g cap k pb : Nat} {sv : Value} {P : Nat → Prop} {l : List (Nat × (Nat → Prop))} {n : Nat} (h : PL w B sv l n) (hB : B ≤ w.heap.size) (hk : l.length = k) (hp : PE w B pb P n) (hnew : ∀ b, P b → (∀ x ∈ l, ¬ x.2 b) ∧ sv.ownBlock ≠ some b)
  (hown : w2.ownsRow 0 24 1 (.slice (some ⟨g, 0, none⟩) (k + 1) cap) (k + 1) (flatV ptrV l ++ ptrV (pb, P))) (hgr : w.grownBy w2 sv.ownBlock) (hloc : sv.ownBlock = some g ∨ g = w.heap.size) :
  PL w2 B (.slice (some ⟨g, 0, none⟩) (k + 1) cap) (l ++ [(pb, P)]) n ∧ Fr (fun b => sv.ownBlock = some b) w w2 := by
 have hf : Fr (fun c => sv.ownBlock = some c) w w2 := (Fr.refl (fun c => sv.ownBlock = some c) w).grown hgr (fun k hk _ => hk);have hget : ∀ j y, (l ++ [(pb, P)])[j]? = some y → (j < l.length ∧ l[j]? = some y) ∨ (j = l.length ∧ y = (pb, P)) := fun j y hy => by
  by_cases hj : j < l.length
  ·rw [List.getElem?_append_left hj] at hy; exact Or.inl ⟨hj, hy⟩
  ·rw [List.getElem?_append_right (by omega)] at hy;have h0 : j - l.length = 0 := by
    have := (List.getElem?_eq_some_iff.1 hy).1;simp at this; omega
   rw [h0] at hy;simp at hy;exact Or.inr ⟨by omega, hy.symm⟩
 refine ⟨⟨Own.pushed hk hown, fun j y hy => ?_, fun i j x y hx hy hne b hb hc => ?_, fun b hb => ?_⟩, hf⟩
 ·rcases hget j y hy with ⟨-, hy⟩ | ⟨-, rfl⟩
  ·exact (h.each j y hy).kept hf (fun b hb e => (h.own b e).2 y (List.mem_of_getElem? hy) hb)
  ·exact hp.kept hf (fun b hb e => (hnew b hb).2 e)
 ·rcases hget i x hx with ⟨hi, hx⟩ | ⟨hi, rfl⟩
  ·rcases hget j y hy with ⟨hj, hy⟩ | ⟨hj, rfl⟩
   ·exact h.apart i j x y hx hy hne b hb hc
   ·exact (hnew b hc).1 x (List.mem_of_getElem? hx) hb
  ·rcases hget j y hy with ⟨hj, hy⟩ | ⟨hj, rfl⟩
   ·exact (hnew b hb).1 y (List.mem_of_getElem? hy) hc
   ·omega
 ·have hbg : b = g := by
   have e2 : some g = some b := hb;injection e2 with e2; exact e2.symm
  subst hbg;rcases hloc with e | e
  ·refine ⟨(h.own b e).1, fun x hx hxb => ?_⟩;rcases List.mem_append.1 hx with hx | hx
   ·exact (h.own b e).2 x hx hxb
   ·rw [List.mem_singleton.1 hx] at hxb;exact (hnew b hxb).2 e
  ·refine ⟨by omega, fun x hx hxb => ?_⟩;rcases List.mem_append.1 hx with hx | hx
   ·obtain ⟨j, hj⟩ := List.mem_iff_getElem?.1 hx;have := ((h.each j x hj).foot hxb).2; omega
   ·rw [List.mem_singleton.1 hx] at hxb;have := (hp.foot hxb).2; omega
end Go.Proofs.YtmnajomkfnkmeaaGreatDoor
namespace Go.Proofs.YtmnajomkfnkmeaaGreatDoor
open Go.RowKit
attribute [local go_sem] ofL_size
def cfgL : Cfg := ⟨[115, 101, 99, 114, 101, 116], 7, 10, 30, 0⟩
theorem start_ok : (openK (blankB 12) cfgL).1 = 0 := by kernel_rfl
theorem start_yes : ((openK (blankB 12) cfgL).2.map fun m => (m.login 5).1.isEmpty) = some false := by kernel_rfl
theorem start_login : ∃ m, openK (blankB 12) cfgL = (0, some m) ∧ (m.login 5).1.isEmpty = false := by
 have h0 := start_ok;have h1 := start_yes;generalize openK (blankB 12) cfgL = x at h0 h1 ⊢;obtain ⟨e, o⟩ := x;cases o with
 | none => cases h1
 | some m =>
  refine ⟨m, ?_, ?_⟩
  ·simp only at h0;rw [h0]
  ·simpa using h1
theorem lconfig_any (w : World) : Calls Tryz.prog 49 #[] w fun e w' => e = .returned (cfgV cfgL) ∧ Below w.heap.size w w' := by
 go_enter Tryz.func49, Tryz.ntmps49;go_wp2_with fail;refine bodyPost_ret (v := .agg #[.string { data := #[115, 101, 99, 114, 101, 116] }, .int .i64 7, .int .i64 10, .int .i64 30, .int .i64 0]) (by simp [results, Tryz.results49, go_sem]) rfl ⟨rfl, ?_⟩;exact bA
theorem format_any (n : Int) (B : Nat) (G : Gl) (w : World) (hG : Glob B G w) :
  Calls Tryz.prog 17 #[.int .i64 n] w fun e w' => (∃ (d : Bs) (f : Int), e = .returned (.tuple #[.string (ofL d), .int .i64 f]) ∧ (f = 0 ∨ f = 1) ∧ d.length ≤ 6400) ∧ Below w.heap.size w w' := by
 by_cases h : n < 12 ∨ 200 < n
 ·refine (format_err n _ _ w h hG.size.1).mono ?_;rintro e w' ⟨rfl, h2⟩;exact ⟨⟨[], 1, rfl, Or.inr rfl, by simp⟩, h2⟩
 ·obtain ⟨k, rfl⟩ : ∃ k : Nat, n = k := ⟨n.toNat, by omega⟩;refine (format_ok k w (by omega) (by omega)).mono ?_;rintro e w' ⟨rfl, h2⟩;refine ⟨⟨blankB k, 0, by rw [blank_same], Or.inl rfl, ?_⟩, h2⟩;rw [blankB_length k (by omega)];omega
end Go.Proofs.YtmnajomkfnkmeaaGreatDoor
