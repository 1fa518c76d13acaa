import Derived.Test.YtmnajomkfnkmeaaGreatDoorRefI
set_option maxRecDepth 100000
set_option maxHeartbeats 8000000
set_option linter.unusedSimpArgs false
namespace Go.Proofs.YtmnajomkfnkmeaaGreatDoor
open Go.RowKit
attribute [local go_sem] ofL_size
theorem spX_len {lo hi : Nat} {p : Sp} (h : lo ≤ hi) : (spX lo hi p).1.length ≤ hi ∧ lo ≤ (spX lo hi p).1.length := by unfold spX; rw [spTake_length]; exact spN_le h
def Spo (p : Bs) (q : Sp) : Prop := q.s = p ∧ q.pos ≤ p.length
theorem Spo.ok {p : Bs} {q : Sp} (h : Spo p q) (hl : p.length ≤ 1000000) : q.pos ≤ q.s.length ∧ q.s.length ≤ 1000000 := by obtain ⟨rfl, h2⟩ := h; exact ⟨h2, hl⟩
theorem Spo.N {p : Bs} {q : Sp} (h : Spo p q) (w lo hi : Nat) : Spo p (spN w lo hi q).2 := by obtain ⟨rfl, h2⟩ := h; exact ⟨spN_s _ _ _ _, spN_pos h2⟩
theorem Spo.X {p : Bs} {q : Sp} (h : Spo p q) (lo hi : Nat) : Spo p (spX lo hi q).2 := by obtain ⟨rfl, h2⟩ := h; exact ⟨spX_s _ _ _, spX_pos h2⟩
def VI (k : Nat) (vs : List (Bs × Bs)) : Prop := vs.length ≤ k ∧ rising vs ∧ ∀ x ∈ vs, valOk x
theorem VI.set {k : Nat} {vs : List (Bs × Bs)} (h : VI k vs) {n v : Bs} (h1 : 1 ≤ n.length) (h2 : n.length ≤ 8) (h3 : v.length ≤ 8) : VI (k + 1) (setVal n v vs) := by
 refine ⟨?_, setVal_rising n v h.2.1, fun x hx => ?_⟩
 ·have := (setVal_length n v vs).1;have := h.1;omega
 ·rcases setVal_names n v vs x hx with rfl | hx
  ·exact ⟨h1, h2, h3⟩
  ·exact h.2.2 x hx
def TI (k : Nat) (T : Tab) : Prop := (∀ i x, T i = some x → i < 4096 ∧ x.wf) ∧ T.live ≤ k
theorem TI.set {k : Nat} {T : Tab} (h : TI k T) {id : Nat} {x : Sess} (hid : id < 4096) (hx : x.wf) : TI (k + 1) (T.set id (some x)) := by
 refine ⟨fun i y hy => ?_, ?_⟩
 ·unfold Tab.set at hy;split at hy
  ·rename_i e; subst e;obtain rfl := Option.some.inj hy;exact ⟨hid, hx⟩
  ·exact h.1 i y hy
 ·have := live_set T id (some x);have := h.2;omega
theorem TI.wf {k : Nat} {T : Tab} (h : TI k T) (hk : k ≤ 12) : T.wf := ⟨h.1, Nat.le_trans h.2 hk⟩
theorem TI.zero : TI 0 noTab := ⟨fun i x h => (by cases h), by rw [noTab_live]; exact Nat.le_refl 0⟩
theorem rnew_any (w : World) :
  Calls Tryz.prog 132 #[] w fun e w' => e = .returned (.slice (some ⟨w.heap.size, 0, none⟩) 4096 4096) ∧ RT w' w.heap.size noTab (fun _ => (nilS, nilS)) ∧ Below w.heap.size w w' ∧ w'.heap.size = w.heap.size + 1 := by
 have hmk := make_table;have hb := rt_new (Blk.new w table0 194);go_enter Tryz.func132, Tryz.ntmps132;go_wp2;go_ret;exact ⟨rfl, hb, bA, by simp⟩
theorem foot_nil {tb b : Nat} (h : rfoot tb (fun _ => (nilS, nilS)) b) : b = tb := by
 rcases h with h | ⟨i, _, h | h⟩
 ·exact h
 ·cases h
 ·cases h
structure SL (w : World) (p : Bs) (sb tb : Nat) (V : Tab × Sp) (n k : Nat) (q : Sp) (T : Tab) (f : RF) (wx : World) : Prop where
 spo : Spo p q
 sp : SpotAt wx sb q
 rt : RT wx tb T f
 own : ∀ b, rfoot tb f b → w.heap.size ≤ b
 ne : ¬ rfoot tb f sb
 fin : lSesss (n - k) q T = V
 ti : TI k T
 fr : Fr (fun _ => False) w wx
structure VL (wr : World) (p : Bs) (sb xb u c d : Nat) (VR : List (Bs × Bs) × Sp) (m j : Nat) (q : Sp) (vs : List (Bs × Bs)) (ns vv : Value) (wx : World) : Prop where
 spo : Spo p q
 sp : SpotAt wx sb q
 blk : Blk wx xb #[.bool true, .int .i64 u, .int .i64 c, .int .i64 d, ns, vv] 194
 nso : SO wx ns (vs.map (·.1))
 vso : SO wx vv (vs.map (·.2))
 own : ∀ g, ns.ownBlock = some g ∨ vv.ownBlock = some g → wr.heap.size ≤ g ∧ g ≠ xb
 fin : lVals (m - j) q vs = VR
 vi : VI j vs
 fr : Fr (fun b => b = sb) wr wx
theorem lSesss_step {n k : Nat} (h : k < n) (q : Sp) (T : Tab) : lSesss (n - k) q T = lSesss (n - (k + 1)) (lSess q).2 (T.set (lSess q).1.1 (some (lSess q).1.2)) := by
 rw [show n - k = (n - (k + 1)) + 1 by omega]; rfl
theorem lVals_step {n k : Nat} (h : k < n) (q : Sp) (vs : List (Bs × Bs)) : lVals (n - k) q vs = lVals (n - (k + 1)) (spX 0 8 (spX 1 8 q).2).2 (setVal (spX 1 8 q).1 (spX 0 8 (spX 1 8 q).2).1 vs) := by
 rw [show n - k = (n - (k + 1)) + 1 by omega]; rfl
theorem SL.next {w wr wx : World} {p : Bs} {sb tb : Nat} {V : Tab × Sp} {n k : Nat} {q : Sp} {T : Tab} {f : RF} (h : SL w p sb tb V n k q T f wr) (hk : k < n) {id u c d m xb : Nat} {VR : List (Bs × Bs) × Sp} {q2 : Sp} {vs : List (Bs × Bs)} {ns vv : Value}
  (hid : id ≤ 4095) (hu : 1 ≤ u ∧ u ≤ 99) (hc : c ≤ maxT) (hd : d ≤ maxT) (hm : m ≤ 3) (hs : lSess q = ((id, ⟨u, c, d, VR.1⟩), VR.2)) (hv : VL wr p sb xb u c d VR m m q2 vs ns vv wx) (hsb : sb ≠ tb) (hsw : w.heap.size ≤ sb) :
  SL w p sb tb V n (k + 1) q2 (T.set id (some ⟨u, c, d, vs⟩)) (upF f id (ns, vv)) (put6 wx tb (id * 6) (.bool true) (.int .i64 u) (.int .i64 c) (.int .i64 d) ns vv) := by
 have hfin := hv.fin;rw [Nat.sub_self] at hfin;have hfin : (vs, q2) = VR := hfin;subst hfin;have hsz := h.fr.size;have hrt : RT wx tb T f := h.rt.kept hv.fr (fun b hb e => h.ne (e ▸ hb));have hfr := put6_fr wx tb (id * 6) (.bool true) (.int .i64 u) (.int .i64 c) (.int .i64 d) ns vv;have hng : ∀ b, ns.ownBlock = some b ∨ vv.ownBlock = some b → wr.heap.size ≤ b := fun b hb => (hv.own b hb).1;have htb := h.rt.lt;refine ⟨hv.spo, hv.sp.kept hfr hsb, ?_, fun b hb => ?_, fun hb => ?_, ?_, h.ti.set (by omega) ⟨hu.1, hu.2, hc, hd, Nat.le_trans hv.vi.1 hm, hv.vi.2.1, hv.vi.2.2⟩, ?_⟩
 ·exact hrt.put (by omega) (some ⟨u, c, d, vs⟩) (ns, vv) (fun e => by cases e) hv.nso hv.vso (fun b hb e => by have := hng b hb; omega) _ _ _ _ _ _ rfl
 ·rcases upF_foot hb with e | e | e
  ·exact h.own b e
  ·exact Nat.le_trans hsz (hng b (Or.inl e))
  ·exact Nat.le_trans hsz (hng b (Or.inr e))
 ·have hsl : sb < wr.heap.size := Blk.lt h.sp;rcases upF_foot hb with e | e | e
  ·exact h.ne e
  ·have := hng sb (Or.inl e); omega
  ·have := hng sb (Or.inr e); omega
 ·have := h.fin;rw [lSesss_step hk, hs] at this;exact this
 ·have htw := h.own tb (Or.inl rfl);exact (h.fr.trans hv.fr (fun i hi e => by omega)).trans hfr (fun i hi e => by omega)
theorem rsnapof_any (p : Bs) (w : World) (hl : p.length ≤ 1000000) :
  Calls Tryz.prog 81 #[.string (ofL p)] w fun e w' => ∃ tb T f, e = .returned (.tuple #[.slice (some ⟨tb, 0, none⟩) 4096 4096, .bool (snapR p).isSome]) ∧ RT w' tb T f ∧ T.wf ∧ (∀ T', snapR p = some T' → T' = T) ∧ (∀ b, rfoot tb f b → w.heap.size ≤ b) ∧ Fr (fun _ => False) w w' := by
 obtain ⟨V, hV⟩ : ∃ V, V = lAll p := ⟨_, rfl⟩;obtain ⟨R, hR⟩ : ∃ R, R = snapR p := ⟨_, rfl⟩;have HR : Hid (R = if V.2.bad = false ∧ snapB V.1 = p then some V.1 else none) := by rw [hR, hV]; exact rfl
 have HV : Hid (lSesss (spN 1 0 12 (sp0 p)).1 (spN 1 0 12 (sp0 p)).2 noTab = V) := hV.symm;rw [← hR];clear hV hR;go_enter Tryz.func81, Tryz.ntmps81;go_wp2_with fail;refine (rnew_any w).mono ?_;rintro e w1 ⟨rfl, hr1, hb1, hz1⟩;have HZ1 : Hid (w1.heap.size = w.heap.size + 1) := hz1;have HR1 : Hid (RT w1 w.heap.size noTab (fun _ => (nilS, nilS))) := hr1;have HB1 : Hid (Below w.heap.size w w1) := hb1;clear hr1 hb1 hz1;go_wp2_with fail;refine (spnI w1.heap.size (sp0 p) 1 0 12 1 0 12 _ (Blk.new w1 _ _) (Nat.zero_le _) hl (by decide) rfl rfl rfl).mono ?_;rintro e w2 ⟨rfl, hs2, hf2⟩;have hn12 := (spN_le (w := 1) (lo := 0) (hi := 12) (p := sp0 p) (by decide)).1;have hspo : Spo p (spN 1 0 12 (sp0 p)).2 := Spo.N (p := p) ⟨rfl, Nat.zero_le _⟩ 1 0 12;obtain ⟨tb, htb⟩ : ∃ tb, tb = w.heap.size := ⟨_, rfl⟩;obtain ⟨sb, hsb⟩ : ∃ sb, sb = w1.heap.size := ⟨_, rfl⟩;rw [← hsb] at hs2 hf2 ⊢;have hz1 := HZ1.out;have hst : sb ≠ tb := by omega
 have hsw : w.heap.size ≤ sb := by omega
 have HF12 : Hid (Fr (fun b => b = sb) w1 w2) := (Fr.of_below (S := fun b => b = sb) (bA)).trans hf2 (fun _ _ h => h);have HSL : Hid (SL w p sb tb V (spN 1 0 12 (sp0 p)).1 0 (spN 1 0 12 (sp0 p)).2 noTab (fun _ => (nilS, nilS)) w2) :=
  ⟨hspo, hs2, by rw [htb]; exact HR1.out.kept HF12.out (fun b hb e => by have := foot_nil hb; omega), (fun b hb => by have := foot_nil hb; omega), (fun hb => hst (foot_nil hb)), HV.out, TI.zero, (Fr.of_below (S := fun _ => False) HB1.out).trans HF12.out (fun i hi e => by omega)⟩
 rw [← htb] at HR1;clear hs2 hf2 hspo HV HF12 HR1 HB1 hz1 HZ1;have HI : Hid (tb = w.heap.size ∧ w.heap.size ≤ sb ∧ sb ≠ tb) := ⟨htb, hsw, hst⟩;rw [← htb];clear hsb hst hsw htb;generalize spN 1 0 12 (sp0 p) = A at *
 go_wp2_with fail
 go_loopw [7] (fun iv wx => ∃ (k : Nat) (q : Sp) (T : Tab) (f : RF), iv = .int .i64 k ∧ k ≤ A.1 ∧ Hid (SL w p sb tb V A.1 k q T f wx)) (fun iv _ => A.1 - (intOf iv).toNat)
 case atStart => exact ⟨0, _, _, _, rfl, Nat.zero_le _, HSL⟩
 case round =>
  obtain ⟨k, q, T, f, rfl, hk, HS⟩ := hrel;clear HSL;by_cases hlt : k < A.1
  ·obtain ⟨B, hB⟩ : ∃ B, B = spN 2 0 4095 q := ⟨_, rfl⟩;obtain ⟨C, hC⟩ : ∃ C, C = spN 1 1 99 B.2 := ⟨_, rfl⟩;obtain ⟨D, hD⟩ : ∃ D, D = spN 4 0 maxT C.2 := ⟨_, rfl⟩;obtain ⟨E, hE⟩ : ∃ E, E = spN 4 0 maxT D.2 := ⟨_, rfl⟩;obtain ⟨G, hG⟩ : ∃ G, G = spN 1 0 3 E.2 := ⟨_, rfl⟩;obtain ⟨VR, hVR⟩ : ∃ VR, VR = lVals G.1 G.2 [] := ⟨_, rfl⟩;have HLS : Hid (lSess q = ((B.1, ⟨C.1, D.1, E.1, VR.1⟩), VR.2)) := by rw [hVR, hG, hE, hD, hC, hB]; exact rfl
   have HVR : Hid (lVals G.1 G.2 [] = VR) := hVR.symm;have HOB : Hid (Spo p B.2) := by rw [hB]; exact HS.out.spo.N _ _ _
   have HOC : Hid (Spo p C.2) := by rw [hC]; exact HOB.out.N _ _ _
   have HOD : Hid (Spo p D.2) := by rw [hD]; exact HOC.out.N _ _ _
   have HOE : Hid (Spo p E.2) := by rw [hE]; exact HOD.out.N _ _ _
   have HOG : Hid (Spo p G.2) := by rw [hG]; exact HOE.out.N _ _ _
   have HBD : Hid (B.1 ≤ 4095 ∧ (1 ≤ C.1 ∧ C.1 ≤ 99) ∧ D.1 ≤ maxT ∧ E.1 ≤ maxT ∧ G.1 ≤ 3) := by
    rw [hB, hC, hD, hE, hG];exact ⟨(spN_le (by decide)).1, ⟨(spN_le (by decide)).2, (spN_le (by decide)).1⟩, (spN_le (Nat.zero_le _)).1, (spN_le (Nat.zero_le _)).1, (spN_le (by decide)).1⟩
   have HEB : Hid (spN 2 0 4095 q = B) := hB.symm;have HEC : Hid (spN 1 1 99 B.2 = C) := hC.symm;have HED : Hid (spN 4 0 maxT C.2 = D) := hD.symm;have HEE : Hid (spN 4 0 maxT D.2 = E) := hE.symm;have HEG : Hid (spN 1 0 3 E.2 = G) := hG.symm;clear hB hC hD hE hG hVR;have HC3 : Hid (Calls _ _ _ _ _) := spnI sb q 2 0 4095 2 0 4095 wr HS.out.sp (HS.out.spo.ok hl).1 (HS.out.spo.ok hl).2 (by decide) rfl rfl rfl;rw [HEB.out] at HC3;have hsl : sb < wr.heap.size := Blk.lt HS.out.sp;go_wp2_with fail;refine HC3.out.mono ?_;rintro e w3 ⟨rfl, hs3, hf3⟩;have hz3 := hf3.size;have HS4 : Hid (SpotAt (w3.alloc (.cells #[.bool true, .int .i64 0, .int .i64 0, .int .i64 0, .slice none 0 0, .slice none 0 0] 194)) sb B.2) := hs3.alloc _;have HF4 : Hid (Fr (fun b => b = sb) wr (w3.alloc (.cells #[.bool true, .int .i64 0, .int .i64 0, .int .i64 0, .slice none 0 0, .slice none 0 0] 194))) := hf3.trans (Fr.of_below (S := fun b => b = sb) (bA)) (fun _ _ h => h);have HX4 : Hid (Blk (w3.alloc (.cells #[.bool true, .int .i64 0, .int .i64 0, .int .i64 0, .slice none 0 0, .slice none 0 0] 194)) w3.heap.size #[.bool true, .int .i64 0, .int .i64 0, .int .i64 0, .slice none 0 0, .slice none 0 0] 194) := Blk.new _ _ _;clear hs3 hf3 HC3;go_upto_region 9 with fail
   obtain ⟨w4, hw4⟩ : ∃ w4, w4 = w3.alloc (.cells #[.bool true, .int .i64 0, .int .i64 0, .int .i64 0, .slice none 0 0, .slice none 0 0] 194) := ⟨_, rfl⟩;obtain ⟨xb, hxb⟩ : ∃ xb, xb = w3.heap.size := ⟨_, rfl⟩;rw [← hw4, ← hxb] at HX4;rw [← hw4] at HS4 HF4;rw [← hw4, ← hxb];have hxw : wr.heap.size ≤ xb := by omega
   have hxs : sb ≠ xb := by omega
   clear hw4 hxb hz3;have HC5 : Hid (Calls _ _ _ _ _) := spnI sb B.2 1 1 99 1 1 99 w4 HS4.out (HOB.out.ok hl).1 (HOB.out.ok hl).2 (by decide) rfl rfl rfl;rw [HEC.out] at HC5;go_wp2_with fail;refine HC5.out.mono ?_;rintro e w5 ⟨rfl, hs5, hf5⟩;have HX5 := HX4.out.kept hf5 (fun h => hxs h.symm);have x1 := HX5.cell 1;have f1 := HX5.frozen 1;simp only [gT, gZ, gS] at x1;have hfr := fr_cell (w := w5) (kb := xb) 1 (.int .i64 (C.1 : Int));have HF6 : Hid (Fr (fun b => b = sb) wr (w5.setCell ⟨xb, 1, none⟩ (.int .i64 (C.1 : Int)))) := (HF4.out.trans hf5 (fun _ _ h => h)).trans hfr (fun i hi e => by omega);have HS6 : Hid (SpotAt (w5.setCell ⟨xb, 1, none⟩ (.int .i64 (C.1 : Int))) sb C.2) := hs5.kept hfr hxs;have HX6 : Hid (Blk (w5.setCell ⟨xb, 1, none⟩ (.int .i64 (C.1 : Int))) xb #[.bool true, .int .i64 (C.1 : Int), .int .i64 0, .int .i64 0, .slice none 0 0, .slice none 0 0] 194) := HX5.set 1 (.int .i64 (C.1 : Int));clear hs5 hf5 hfr HC5 HX5 HX4 HS4 HF4;go_upto_region 10 with fail
   obtain ⟨w6, hw6⟩ : ∃ w6, w6 = w5.setCell ⟨xb, 1, none⟩ (.int .i64 (C.1 : Int)) := ⟨_, rfl⟩;rw [← hw6] at HF6 HS6 HX6 ⊢;clear hw6 x1 f1;have HC7 : Hid (Calls _ _ _ _ _) := spnI sb C.2 4 0 maxT 4 0 1000000000 w6 HS6.out (HOC.out.ok hl).1 (HOC.out.ok hl).2 (by decide) rfl rfl rfl;rw [HED.out] at HC7;go_wp2_with fail;refine HC7.out.mono ?_;rintro e w7 ⟨rfl, hs7, hf7⟩;have HX7 := HX6.out.kept hf7 (fun h => hxs h.symm);have x1 := HX7.cell 2;have f1 := HX7.frozen 2;simp only [gT, gZ, gS] at x1;have hfr := fr_cell (w := w7) (kb := xb) 2 (.int .i64 (D.1 : Int));have HF8 : Hid (Fr (fun b => b = sb) wr (w7.setCell ⟨xb, 2, none⟩ (.int .i64 (D.1 : Int)))) := (HF6.out.trans hf7 (fun _ _ h => h)).trans hfr (fun i hi e => by omega);have HS8 : Hid (SpotAt (w7.setCell ⟨xb, 2, none⟩ (.int .i64 (D.1 : Int))) sb D.2) := hs7.kept hfr hxs;have HX8 : Hid (Blk (w7.setCell ⟨xb, 2, none⟩ (.int .i64 (D.1 : Int))) xb #[.bool true, .int .i64 (C.1 : Int), .int .i64 (D.1 : Int), .int .i64 0, .slice none 0 0, .slice none 0 0] 194) := HX7.set 2 (.int .i64 (D.1 : Int));clear hs7 hf7 hfr HC7 HX7 HX6 HS6 HF6;go_upto_region 11 with fail
   obtain ⟨w8, hw8⟩ : ∃ w8, w8 = w7.setCell ⟨xb, 2, none⟩ (.int .i64 (D.1 : Int)) := ⟨_, rfl⟩;rw [← hw8] at HF8 HS8 HX8 ⊢;clear hw8 x1 f1;have HC9 : Hid (Calls _ _ _ _ _) := spnI sb D.2 4 0 maxT 4 0 1000000000 w8 HS8.out (HOD.out.ok hl).1 (HOD.out.ok hl).2 (by decide) rfl rfl rfl;rw [HEE.out] at HC9;go_wp2_with fail;refine HC9.out.mono ?_;rintro e w9 ⟨rfl, hs9, hf9⟩;have HX9 := HX8.out.kept hf9 (fun h => hxs h.symm);have x1 := HX9.cell 3;have f1 := HX9.frozen 3;simp only [gT, gZ, gS] at x1;have hfr := fr_cell (w := w9) (kb := xb) 3 (.int .i64 (E.1 : Int));have HFA : Hid (Fr (fun b => b = sb) wr (w9.setCell ⟨xb, 3, none⟩ (.int .i64 (E.1 : Int)))) := (HF8.out.trans hf9 (fun _ _ h => h)).trans hfr (fun i hi e => by omega);have HSA : Hid (SpotAt (w9.setCell ⟨xb, 3, none⟩ (.int .i64 (E.1 : Int))) sb E.2) := hs9.kept hfr hxs;have HXA : Hid (Blk (w9.setCell ⟨xb, 3, none⟩ (.int .i64 (E.1 : Int))) xb #[.bool true, .int .i64 (C.1 : Int), .int .i64 (D.1 : Int), .int .i64 (E.1 : Int), .slice none 0 0, .slice none 0 0] 194) := HX9.set 3 (.int .i64 (E.1 : Int));clear hs9 hf9 hfr HC9 HX9 HX8 HS8 HF8;go_upto_region 12 with fail
   obtain ⟨wa, hwa⟩ : ∃ wa, wa = w9.setCell ⟨xb, 3, none⟩ (.int .i64 (E.1 : Int)) := ⟨_, rfl⟩;rw [← hwa] at HFA HSA HXA ⊢;clear hwa x1 f1;have HCB : Hid (Calls _ _ _ _ _) := spnI sb E.2 1 0 3 1 0 3 wa HSA.out (HOE.out.ok hl).1 (HOE.out.ok hl).2 (by decide) rfl rfl rfl;rw [HEG.out] at HCB;go_wp2_with fail;refine HCB.out.mono ?_;rintro e wb ⟨rfl, hsb, hfb⟩;have HVL : Hid (VL wr p sb xb C.1 D.1 E.1 VR G.1 0 G.2 [] (.slice none 0 0) (.slice none 0 0) wb) :=
    ⟨HOG.out, hsb, HXA.out.kept hfb (fun h => hxs h.symm), Own.nil _ _ _ _, Own.nil _ _ _ _, (fun g hg => by rcases hg with hg | hg <;> cases hg), HVR.out, ⟨Nat.le_refl _, List.Pairwise.nil, fun x hx => by cases hx⟩, HFA.out.trans hfb (fun _ _ h => h)⟩
   clear hsb hfb HCB HXA HSA HFA HVR HEB HEC HED HEE HEG HOB HOC HOD HOE;have HBF : Hid (SL w p sb tb V A.1 k q T f wr) := HS;obtain ⟨w0, hw0⟩ : ∃ w0, w0 = wr := ⟨_, rfl⟩;subst hw0;go_wp2_with fail
   go_loopw [11] (fun iv wx => ∃ (j : Nat) (q : Sp) (vs : List (Bs × Bs)) (ns vv : Value), iv = .int .i64 j ∧ j ≤ G.1 ∧ Hid (VL w0 p sb xb C.1 D.1 E.1 VR G.1 j q vs ns vv wx)) (fun iv _ => G.1 - (intOf iv).toNat)
   case atStart => exact ⟨0, _, _, _, _, rfl, Nat.zero_le _, HVL⟩
   case round =>
    obtain ⟨j, r, vs, ns, vv, rfl, hj, HW⟩ := hrel;clear HVL;have hg3 : G.1 ≤ 3 := HBD.out.2.2.2.2;obtain ⟨na, nc, hns, -⟩ := so_slice HW.out.nso;obtain ⟨va, vc, hvv, -⟩ := so_slice HW.out.vso;rw [List.length_map] at hns hvv;subst hns;subst hvv;by_cases hjl : j < G.1
    ·obtain ⟨M, hM⟩ : ∃ M, M = spX 1 8 r := ⟨_, rfl⟩;obtain ⟨N, hN⟩ : ∃ N, N = spX 0 8 M.2 := ⟨_, rfl⟩;have HOM : Hid (Spo p M.2) := by rw [hM]; exact HW.out.spo.X _ _
     have HON : Hid (Spo p N.2) := by rw [hN]; exact HOM.out.X _ _
     have HVI : Hid (VI (j + 1) (setVal M.1 N.1 vs)) := by
      rw [hN, hM];exact HW.out.vi.set (spX_len (by decide)).2 (spX_len (by decide)).1 (spX_len (by decide)).1
     have HFI : Hid (lVals (G.1 - (j + 1)) N.2 (setVal M.1 N.1 vs) = VR) := by
      have := HW.out.fin;rw [lVals_step hjl, ← hM, ← hN] at this;exact this
     have HL100 : Hid (vs.length ≤ 100) := by have h1 := HW.out.vi.1; have h2 := HBD.out.2.2.2.2; show _ ≤ _; omega
     have HCM : Hid (Calls _ _ _ _ _) := spxI sb r 1 8 1 8 wr HW.out.sp (HW.out.spo.ok hl).1 (HW.out.spo.ok hl).2 (by decide) (by decide) rfl rfl;rw [← hM] at HCM;have HEN : Hid (spX 0 8 M.2 = N) := hN.symm;clear hM hN;go_wp2_with fail;refine HCM.out.mono ?_;rintro e w1 ⟨rfl, hs1, hf1⟩;have HF1 : Hid (Fr (fun b => b = sb) wr w1) := hf1;have HCN : Hid (Calls _ _ _ _ _) := spxI sb M.2 0 8 0 8 w1 hs1 (HOM.out.ok hl).1 (HOM.out.ok hl).2 (by decide) (by decide) rfl rfl;rw [HEN.out] at HCN;clear hs1 hf1 HCM;go_wp2_with fail;refine HCN.out.mono ?_;rintro e w2 ⟨rfl, hs2, hf2⟩;have HF2 : Hid (Fr (fun b => b = sb) wr w2) := HF1.out.trans hf2 (fun _ _ h => h);have HS2 : Hid (SpotAt w2 sb N.2) := hs2;have HX2 : Hid (Blk w2 xb _ _) := HW.out.blk.kept HF2.out (fun h => hxs h.symm);have hown : ∀ g, (Value.slice na vs.length nc).ownBlock = some g ∨ (Value.slice va vs.length vc).ownBlock = some g → ¬ g = sb := fun g hg e => by have := (HW.out.own g hg).1; omega
     have HWI : Hid (Calls _ _ _ _ _) := rwith_any true C.1 D.1 E.1 (.slice na vs.length nc) (.slice va vs.length vc) vs M.1 N.1 w2 (HW.out.nso.kept HF2.out (fun g hg => hown g (Or.inl hg))) (HW.out.vso.kept HF2.out (fun g hg => hown g (Or.inr hg))) HL100.out HW.out.vi.2.1;have x0 := HX2.out.cell 0;have x1 := HX2.out.cell 1;have x2 := HX2.out.cell 2;have x3 := HX2.out.cell 3;have x4 := HX2.out.cell 4;have x5 := HX2.out.cell 5;simp only [gT, gZ, gS] at x0 x1 x2 x3 x4 x5;clear hs2 hf2 HCN hown;go_wp2_with fail;refine HWI.out.mono ?_;rintro e w3 ⟨ns, vv, rfl, hb3, hn3, hv3, ho3⟩;have HX3 : Hid (Blk w3 xb _ _) := HX2.out.below hb3;have HS3 : Hid (SpotAt w3 sb N.2) := HS2.out.kept (Fr.of_below (S := fun _ => False) hb3) (fun h => h);have HF3 : Hid (Fr (fun b => b = sb) w0 w3) := (HW.out.fr.trans HF2.out (fun _ _ h => h)).trans (Fr.of_below (S := fun b => b = sb) hb3) (fun _ _ h => h);have hx2 : xb < w2.heap.size := HX2.out.lt;obtain ⟨na', nc', en, _⟩ := so_slice hn3;obtain ⟨va', vc', ev, _⟩ := so_slice hv3;have HG : Hid (SO w3 ns ((setVal M.1 N.1 vs).map (·.1)) ∧ SO w3 vv ((setVal M.1 N.1 vs).map (·.2)) ∧ ∀ g, ns.ownBlock = some g ∨ vv.ownBlock = some g → w0.heap.size ≤ g ∧ g ≠ xb) := ⟨hn3, hv3, fun g hg => by have := ho3 g hg; omega⟩;generalize ((setVal M.1 N.1 vs).map (·.1)).length = l1 at en;generalize ((setVal M.1 N.1 vs).map (·.2)).length = l2 at ev;clear hn3 hv3 ho3 x0 x1 x2 x3 x4 x5 hb3 HWI;subst en;subst ev;have x0 := HX3.out.cell 0;have x1 := HX3.out.cell 1;have x2 := HX3.out.cell 2;have x3 := HX3.out.cell 3;have x4 := HX3.out.cell 4;have x5 := HX3.out.cell 5;simp only [gT, gZ, gS] at x0 x1 x2 x3 x4 x5;have f0 := HX3.out.frozen 0;have f1 := HX3.out.frozen 1;have f2 := HX3.out.frozen 2;have f3 := HX3.out.frozen 3;have f4 := HX3.out.frozen 4;have f5 := HX3.out.frozen 5;have hfr := put6_fr w3 xb 0 (.bool true) (.int .i64 C.1) (.int .i64 D.1) (.int .i64 E.1) (.slice na' l1 nc') (.slice va' l2 vc');have HV4 : Hid (VL w0 p sb xb C.1 D.1 E.1 VR G.1 (j + 1) N.2 (setVal M.1 N.1 vs) (.slice na' l1 nc') (.slice va' l2 vc') (put6 w3 xb 0 (.bool true) (.int .i64 C.1) (.int .i64 D.1) (.int .i64 E.1) (.slice na' l1 nc') (.slice va' l2 vc'))) :=
      ⟨HON.out, HS3.out.kept hfr hxs, put6_blk HX3.out 0 _ _ _ _ _ _, HG.out.1.kept hfr (fun b hb e => (HG.out.2.2 b (Or.inl hb)).2 e), HG.out.2.1.kept hfr (fun b hb e => (HG.out.2.2 b (Or.inr hb)).2 e), HG.out.2.2, HFI.out, HVI.out, HF3.out.trans hfr (fun i hi e => by omega)⟩
     clear hfr HX2 HX3 HS2 HS3 HF3 HF2 HF1 HG HFI HVI HON HOM;go_wp2_with fail;go_roundw
     case rel => exact ⟨j + 1, _, _, _, _, by go_num, hjl, HV4⟩
     case measure => simp [intOf]; omega
    ·have hje : j = G.1 := by omega
     subst hje;have HX3 : Hid (Blk wr xb _ _) := HW.out.blk;have x0 := HX3.out.cell 0;have x1 := HX3.out.cell 1;have x2 := HX3.out.cell 2;have x3 := HX3.out.cell 3;have x4 := HX3.out.cell 4;have x5 := HX3.out.cell 5;simp only [gT, gZ, gS] at x0 x1 x2 x3 x4 x5;have HNX : Hid (SL w p sb tb V A.1 (k + 1) _ _ _ _) := HBF.out.next hlt HBD.out.1 HBD.out.2.1 HBD.out.2.2.1 HBD.out.2.2.2.1 HBD.out.2.2.2.2 HLS.out HW.out HI.out.2.2 HI.out.2.1;have HRW : Hid (RT wr tb T f) := HBF.out.rt.kept HW.out.fr (fun b hb e => HBF.out.ne (e ▸ hb));have hb0 := HBD.out.1;obtain ⟨v0, v1, v2, v3, v4, v5, d0, d1, d2, d3, d4, d5⟩ := HRW.out.all6 (i := B.1) (by omega);have f0 := HRW.out.frozen (B.1 * 6);have f1 := HRW.out.frozen (B.1 * 6 + 1);have f2 := HRW.out.frozen (B.1 * 6 + 2);have f3 := HRW.out.frozen (B.1 * 6 + 3);have f4 := HRW.out.frozen (B.1 * 6 + 4);have f5 := HRW.out.frozen (B.1 * 6 + 5);have z1 : (0 : Int) ≤ (B.1 : Int) := by omega
     have z2 : (B.1 : Int) < 4096 := by omega
     clear HX3;go_wp2_with fail;go_roundw
     case rel => exact ⟨k + 1, _, _, _, by go_num, hlt, HNX⟩
     case measure => simp [intOf]; omega
  ·have hke : k = A.1 := by omega
   subst hke;have hfin := HS.out.fin;rw [Nat.sub_self] at hfin;have hfin : (T, q) = V := hfin;subst hfin;have c2 := Blk.cell HS.out.sp 2;simp only [gT, gZ, gS] at c2;have HTW : Hid T.wf := HS.out.ti.wf hn12;have hr := HR.out;dsimp only at hr;cases hb : q.bad with
   | true =>
    rw [hb, if_neg (fun h => by cases h.1)] at hr;rw [hb] at c2;subst hr;clear HR;go_wp2_with fail;go_ret2;exact ⟨tb, T, f, rfl, HS.out.rt, HTW.out, (fun T' h => by cases h), HS.out.own, HS.out.fr⟩
   | false =>
    rw [hb] at hr c2;have HSN : Hid (Calls _ _ _ _ _) := dsnap_any tb T f wr HS.out.rt HTW.out;have HRS : Hid (R.isSome = decide (snapB T = p) ∧ ∀ T', R = some T' → T' = T) := by
     by_cases hs : snapB T = p
     ·rw [if_pos ⟨rfl, hs⟩] at hr; rw [hr, decide_eq_true hs]; exact ⟨rfl, fun T' h => (Option.some.inj h).symm⟩
     ·rw [if_neg (fun h => hs h.2)] at hr; rw [hr, decide_eq_false hs]; exact ⟨rfl, fun T' h => by cases h⟩
    have HEQ : Hid (((ofL (snapB T)).toList == (ofL p).toList) = R.isSome) := by show _ = _; rw [seqL, HRS.out.1]
    clear HR hr hb;generalize snapB T = ST at *
    go_wp2_with fail;refine HSN.out.mono ?_;rintro e w2 ⟨rfl, hb2⟩;have HB2 : Hid (Below wr.heap.size wr w2) := hb2;clear hb2 HSN c2;go_wp2_with fail;go_ret2;exact ⟨tb, T, f, by rw [← HEQ.out]; rfl, HS.out.rt.below HB2.out, HTW.out, HRS.out.2, HS.out.own, HS.out.fr.trans (Fr.of_below (S := fun _ => False) HB2.out) (fun _ _ h => h)⟩
end Go.Proofs.YtmnajomkfnkmeaaGreatDoor
