import Derived.Test.YtmnajomkfnkmeaaGreatDoorPow
import Derived.Deep.AppendLies
import Derived.Test.YtmnajomkfnkmeaaGreatDoorPlaces
import Derived.Lib.SliceRun
set_option maxRecDepth 20000
set_option maxHeartbeats 1000000
namespace Go.Proofs.YtmnajomkfnkmeaaGreatDoor
open Go.RowKit Go.Conc
attribute [local go_sem] ofL_size
def byS (b n c : Nat) : Value := .slice (some ⟨b, 0, none⟩) n c
structure DrvP (w : World) (B db cb sb wb : Nat) (uv : Value) (c1 c2 : Nat) (d : Dv) : Prop where
 blk : Blk w db (drvA cb d.fuse (byS sb d.stable.length c1) (byS wb d.written.length c2) uv) 96
 caps : d.stable.length ≤ c1 ∧ c1 ≤ maxLen ∧ d.written.length ≤ c2 ∧ c2 ≤ maxLen
 chan : ChanAt w cb d.down
 stable : By w sb d.stable
 written : By w wb d.written
 way : WO w uv d.way
 ne : sb ≠ wb ∧ cb ≠ sb ∧ cb ≠ wb ∧ db ≠ sb ∧ db ≠ wb ∧ db ≠ cb
 own : ∀ b, uv.ownBlock = some b → b ≠ db ∧ b ≠ cb ∧ b ≠ sb ∧ b ≠ wb ∧ B ≤ b
 ge : B ≤ db ∧ B ≤ cb ∧ B ≤ sb ∧ B ≤ wb
 fuse : d.fuse ≤ 9223372036854775807
def dfoot (db cb sb wb : Nat) (uv : Value) (b : Nat) : Prop := b = db ∨ b = cb ∨ b = sb ∨ b = wb ∨ uv.ownBlock = some b
theorem DrvP.foot {w : World} {B db cb sb wb : Nat} {uv : Value} {c1 c2 : Nat} {d : Dv} (h : DrvP w B db cb sb wb uv c1 c2 d) {b : Nat} (hb : dfoot db cb sb wb uv b) : B ≤ b ∧ b < w.heap.size := by
 rcases hb with rfl | rfl | rfl | rfl | hb
 ·exact ⟨h.ge.1, h.blk.lt⟩
 ·exact ⟨h.ge.2.1, h.chan.lt⟩
 ·exact ⟨h.ge.2.2.1, h.stable.lt⟩
 ·exact ⟨h.ge.2.2.2, h.written.lt⟩
 ·exact ⟨(h.own b hb).2.2.2.2, h.way.lt b hb⟩
theorem DrvP.kept {S : Nat → Prop} {w w' : World} {B db cb sb wb : Nat} {uv : Value} {c1 c2 : Nat} {d : Dv} (h : DrvP w B db cb sb wb uv c1 c2 d) (hf : Fr S w w') (hn : ∀ b, dfoot db cb sb wb uv b → ¬ S b) : DrvP w' B db cb sb wb uv c1 c2 d :=
 ⟨h.blk.kept hf (hn _ (Or.inl rfl)), h.caps, h.chan.kept hf (hn _ (Or.inr (Or.inl rfl))), h.stable.kept hf (hn _ (Or.inr (Or.inr (Or.inl rfl)))), h.written.kept hf (hn _ (Or.inr (Or.inr (Or.inr (Or.inl rfl))))), h.way.kept hf (fun b hb => hn b (Or.inr (Or.inr (Or.inr (Or.inr hb))))), h.ne, h.own, h.ge, h.fuse⟩
def DrvAt (w : World) (B db : Nat) (F : Nat → Prop) (d : Dv) : Prop := ∃ cb sb wb uv c1 c2, DrvP w B db cb sb wb uv c1 c2 d ∧ ∀ b, F b ↔ dfoot db cb sb wb uv b
theorem DrvAt.foot {w : World} {B db : Nat} {F : Nat → Prop} {d : Dv} (h : DrvAt w B db F d) {b : Nat} (hb : F b) : B ≤ b ∧ b < w.heap.size := by
 obtain ⟨cb, sb, wb, uv, c1, c2, hp, hF⟩ := h;exact hp.foot ((hF b).1 hb)
theorem DrvAt.kept {S : Nat → Prop} {w w' : World} {B db : Nat} {F : Nat → Prop} {d : Dv} (h : DrvAt w B db F d) (hf : Fr S w w') (hn : ∀ b, F b → ¬ S b) : DrvAt w' B db F d := by
 obtain ⟨cb, sb, wb, uv, c1, c2, hp, hF⟩ := h;exact ⟨cb, sb, wb, uv, c1, c2, hp.kept hf (fun b hb => hn b ((hF b).2 hb)), hF⟩
def DrvTo (w : World) (B db : Nat) (F : Nat → Prop) (d : Dv) (w' : World) : Prop := ∃ F', DrvAt w' B db F' d ∧ Fr F w w' ∧ ∀ b, F' b → F b ∨ w.heap.size ≤ b
theorem DrvTo.trans {w w1 w2 : World} {B db : Nat} {F F1 : Nat → Prop} {d : Dv} (hf : Fr F w w1) (hF : ∀ b, F1 b → F b ∨ w.heap.size ≤ b) (h2 : DrvTo w1 B db F1 d w2) : DrvTo w B db F d w2 := by
 obtain ⟨F2, ha2, hf2, hF2⟩ := h2;refine ⟨F2, ha2, hf.trans hf2 (fun i hi h => ?_), fun b hb => ?_⟩
 ·rcases hF i h with h | h
  ·exact h
  ·omega
 ·rcases hF2 b hb with h | h
  ·exact hF b h
  ·exact Or.inr (Nat.le_trans hf.size h)
theorem DrvTo.same {w : World} {B db : Nat} {F : Nat → Prop} {d : Dv} (h : DrvAt w B db F d) : DrvTo w B db F d w := ⟨F, h, Fr.refl F w, fun _ h => Or.inl h⟩
theorem down_any (db B : Nat) (F : Nat → Prop) (d : Dv) (w : World) (h : DrvAt w B db F d) :
  Calls Tryz.prog 54 #[.pointer (some ⟨db, 0, none⟩)] w fun e w' => e = .returned (.bool d.down) ∧ w' = w := by
 obtain ⟨cb, sb, wb, uv, c1, c2, hp, hF⟩ := h;exact isDown_any db cb d.down w (Blk.cell hp.blk 0) hp.chan
theorem darm_any (db B : Nat) (F : Nat → Prop) (d : Dv) (n : Int) (w : World) (h : DrvAt w B db F d) (hn : n ≤ 9223372036854775807) :
  Calls Tryz.prog 60 #[.pointer (some ⟨db, 0, none⟩), .int .i64 n] w fun e w' => e = .returned (.tuple #[]) ∧ DrvTo w B db F (d.arm n) w' := by
 obtain ⟨cb, sb, wb, uv, c1, c2, hp, hF⟩ := h;refine (arm_any db cb d.fuse d.down _ _ uv n w hp.blk hp.chan hn).mono ?_;rintro e w' ⟨rfl, hf, hz, hb⟩;refine ⟨rfl, F, ⟨cb, sb, wb, uv, c1, c2, ?_, hF⟩, hf.mono (fun i _ e => (hF i).2 (Or.inl e)), fun b h => Or.inl h⟩;obtain ⟨n1, n2, n3, n4, n5, n6⟩ := hp.ne;have ec : (d.arm n).down = d.down := by unfold Dv.arm; split <;> rfl
 have es : (d.arm n).stable = d.stable := by unfold Dv.arm; split <;> rfl
 have ew : (d.arm n).written = d.written := by unfold Dv.arm; split <;> rfl
 have ey : (d.arm n).way = d.way := by unfold Dv.arm; split <;> rfl
 have ef : (d.arm n).fuse = if d.down then d.fuse else n.toNat := by unfold Dv.arm; split <;> rfl
 refine ⟨by rw [ef, es, ew]; exact hb, by rw [es, ew]; exact hp.caps, by rw [ec]; exact hp.chan.kept hf (fun e => n6 e.symm), by rw [es]; exact hp.stable.kept hf (fun e => n4 e.symm), by rw [ew]; exact hp.written.kept hf (fun e => n5 e.symm), by rw [ey]; exact hp.way.kept hf (fun b hb e => (hp.own b hb).1 e), hp.ne, hp.own, hp.ge, ?_⟩;rw [ef];split
 ·exact hp.fuse
 ·omega
theorem dstep_any (db B : Nat) (F : Nat → Prop) (d : Dv) (G : Gl) (w : World) (h : DrvAt w B db F d) (hd : d.down = true → d.fuse = 0) (hG : Glob B G w) :
  Calls Tryz.prog 263 #[.pointer (some ⟨db, 0, none⟩)] w fun e w' => e = .returned (downV (errV G.down) d.step.1) ∧ DrvTo w B db F d.step.2 w' := by
 obtain ⟨cb, sb, wb, uv, c1, c2, hp, hF⟩ := h;obtain ⟨n1, n2, n3, n4, n5, n6⟩ := hp.ne;have hg := hG.down.2;refine (step_any db cb d.fuse d.down _ _ uv (errV G.down) w hp.blk hp.chan hd hp.fuse hG.down.1 (fun e => by have := hp.ge.1; omega) (fun e => by have := hp.ge.2.1; omega)).mono ?_;rintro e w' ⟨rfl, hf, hz, hb, hc⟩;have e1 : d.step.1 = if d.fuse = 0 then !d.down else decide (d.fuse ≠ 1) := by unfold Dv.step; split <;> rfl
 have e2 : d.step.2.fuse = d.fuse - 1 := by unfold Dv.step; split <;> simp_all
 have e3 : d.step.2.down = if d.fuse = 0 then d.down else decide (d.fuse = 1) := by unfold Dv.step; split <;> rfl
 refine ⟨by rw [e1], F, ⟨cb, sb, wb, uv, c1, c2, ?_, hF⟩, hf.mono (fun i _ e => (hF i).2 (e.elim Or.inl (fun e => Or.inr (Or.inl e)))), fun b h => Or.inl h⟩;have e4 := Dv.step_same d;have es : d.step.2.stable = d.stable := by rw [e4]
 have ew : d.step.2.written = d.written := by rw [e4]
 have ey : d.step.2.way = d.way := by rw [e4]
 refine ⟨by rw [e2, es, ew]; exact hb, by rw [es, ew]; exact hp.caps, by rw [e3]; exact hc, by rw [es]; exact hp.stable.kept hf (fun e => e.elim (fun e => n4 e.symm) (fun e => n2 e.symm)), by rw [ew]; exact hp.written.kept hf (fun e => e.elim (fun e => n5 e.symm) (fun e => n3 e.symm)), by rw [ey]; exact hp.way.kept hf (fun b hb e => e.elim (hp.own b hb).1 (hp.own b hb).2.1), hp.ne, hp.own, hp.ge, ?_⟩;rw [e2];have := hp.fuse;omega
theorem sectors_any (db B : Nat) (F : Nat → Prop) (d : Dv) (w : World) (h : DrvAt w B db F d) :
  Calls Tryz.prog 261 #[.pointer (some ⟨db, 0, none⟩)] w fun e w' => e = .returned (.int .i64 ((d.stable.length / 32 : Nat) : Int)) ∧ w' = w := by
 obtain ⟨cb, sb, wb, uv, c1, c2, hp, hF⟩ := h;have k2 : w.cell? ⟨db, 2, none⟩ = some (byS sb d.stable.length c1) := Blk.cell hp.blk 2;unfold byS at k2;have hl := hp.caps;unfold maxLen at hl;generalize d.stable.length = n at *
 clear hp hF;go_enter Tryz.func261, Tryz.ntmps261;go_wp2_with fail;go_ret;exact ⟨by rw [Int.natCast_ediv]; rfl, rfl⟩
theorem By.text {w : World} {b cap : Nat} {l : Bs} (h : By w b l) : (convert 39 9 (.slice (some ⟨b, 0, none⟩) l.length cap)).run Tryz.prog w = .ok (.string (ofL l)) w :=
 run_convert_bytes_back w 39 9 5 ⟨b, 0, none⟩ cap l Tryz.underlying39 Tryz.underlying5 Tryz.underlying9 (fun j hj => by
  have hadd : (⟨b, 0, none⟩ : Addr).add j = ⟨b, j, none⟩ := by unfold Addr.add; split <;> simp_all
  rw [hadd]; exact h.cell j hj)
theorem stable_any (db B : Nat) (F : Nat → Prop) (d : Dv) (w : World) (h : DrvAt w B db F d) :
  Calls Tryz.prog 262 #[.pointer (some ⟨db, 0, none⟩)] w fun e w' => e = .returned (.string (ofL d.stable)) ∧ w' = w := by
 obtain ⟨cb, sb, wb, uv, c1, c2, hp, hF⟩ := h;have k2 : w.cell? ⟨db, 2, none⟩ = some (byS sb d.stable.length c1) := Blk.cell hp.blk 2;have ht := By.text (cap := c1) hp.stable;unfold byS at k2;clear hp hF;go_enter Tryz.func262, Tryz.ntmps262;go_wp2_with fail;go_ret;exact ⟨rfl, rfl⟩
theorem mkGone (w : World) : (Instr.makeChan 92 (.int .i64 0)).run Tryz.prog w = .ok (.chan (some w.heap.size)) (w.alloc (.chan 0 #[] false 0 0 false)) := by
 have h : (Tryz.prog.info? 155).map (·.bytes) = some 0 := by kernel_rfl
 obtain ⟨i, hi, hb⟩ := Option.map_eq_some_iff.1 h;simpa using run_makeChan (P := Tryz.prog) (w := w) Tryz.underlying92 hi .i64 0 (by omega) (by rw [hb]; omega)
theorem newPower_any (w : World) :
  Calls Tryz.prog 167 #[] w fun e w' => ∃ cb, e = .returned (.agg #[.chan (some cb), .int .i64 0]) ∧ Below w.heap.size w w' ∧ ChanAt w' cb false ∧ w.heap.size ≤ cb := by
 have hm := mkGone;go_enter Tryz.func167, Tryz.ntmps167;go_wp2_with fail;refine bodyPost_ret (v := .agg #[.chan (some (w.heap.size + 1)), .int .i64 0]) (by simp [results, Tryz.results167, go_sem]) rfl ⟨w.heap.size + 1, rfl, ((Below.refl _ w).alloc (Nat.le_refl _) _).alloc (by simp) _, ?_, by omega⟩;have := heap_alloc_new (w.alloc (.cells #[.chan (some (w.heap.size + 1)), .int .i64 0] 94)) (.chan 0 #[] false 0 0 false)
 rwa [show (w.alloc (.cells #[.chan (some (w.heap.size + 1)), .int .i64 0] 94)).heap.size = w.heap.size + 1 by simp] at this
theorem By.below {w w' : World} {b : Nat} {l : Bs} (h : By w b l) (hf : Below w.heap.size w w') : By w' b l := h.kept (S := fun _ => False) (Fr.of_below hf) (fun h => h)
theorem ChanAt.below {w w' : World} {cb : Nat} {b : Bool} (h : ChanAt w cb b) (hf : Below w.heap.size w w') : ChanAt w' cb b := h.kept (S := fun _ => False) (Fr.of_below hf) (fun h => h)
theorem bytes_made (w : World) (l : Bs) (hl : l.length ≤ maxLen) : ∃ (w' : World) (cap : Nat), (convert 9 39 (.string (ofL l))).run Tryz.prog w = .ok (.slice (some ⟨w.heap.size, 0, none⟩) l.length cap) w' ∧ By w' w.heap.size l ∧ Below w.heap.size w w' ∧ w.heap.size < w'.heap.size ∧ l.length ≤ cap ∧ cap ≤ maxLen := by
 have h := run_bytes_of_string (P := Tryz.prog) w 9 39 5 (ofL l) Tryz.underlying9 Tryz.underlying39 Tryz.underlying5;rw [ofL_size] at h;refine ⟨_, _, h, ?_, (Below.refl _ w).drew.alloc (Nat.le_refl _) _, by simp, grownCap_ge _ _ _ _, grownCap_le_maxLen _ _ _ _ hl⟩;exact By.made w.drew l _
theorem okSize_sectors {n : Nat} : sectorsOk n = true ↔ okSize n := by
 unfold sectorsOk okSize;simp only [Bool.and_eq_true, decide_eq_true_eq];omega
theorem dnew_ok (l : Bs) (B : Nat) (w : World) (hl : okSize l.length) (hB : B ≤ w.heap.size) :
  Calls Tryz.prog 128 #[.string (ofL l)] w fun e w' => ∃ db F, e = .returned (.tuple #[.pointer (some ⟨db, 0, none⟩), .nilIface]) ∧ DrvAt w' B db F ⟨l, l, [], 0, false⟩ ∧ Below w.heap.size w w' ∧ ∀ b, F b → w.heap.size ≤ b := by
 have hs := okSize_sectors.2 hl;have hml : l.length ≤ maxLen := by have := hl.2.2; unfold maxLen; omega
 go_enter Tryz.func128, Tryz.ntmps128;go_wp2_with fail;refine (sectors_ok l.length _ hs).mono ?_;rintro e w0 ⟨rfl, rfl⟩;go_wp2_with fail;refine (newPower_any _).mono ?_;rintro e w1 ⟨cb, rfl, hb1, hc1, hcb⟩;obtain ⟨w2, k1, hr2, hy2, hb2, hz2, hk1, hk1m⟩ := bytes_made w1 l hml;obtain ⟨w3, k2, hr3, hy3, hb3, hz3, hk2, hk2m⟩ := bytes_made w2 l hml;have HC : Hid (_ ∧ _ ∧ _ ∧ _ ∧ _) := ⟨hb1, hc1, hcb, hy2, hb2⟩;have HD : Hid (_ ∧ _ ∧ _ ∧ _ ∧ _ ∧ _ ∧ _ ∧ _) := ⟨hz2, hy3, hb3, hz3, hk1, hk1m, hk2, hk2m⟩;clear hb1 hc1 hcb hy2 hb2 hz2 hy3 hb3 hz3 hk1 hk1m hk2 hk2m hs;go_wp2_with fail;obtain ⟨hb1, hc1, hcb, hy2, hb2⟩ := HC.out;obtain ⟨hz2, hy3, hb3, hz3, hk1, hk1m, hk2, hk2m⟩ := HD.out;refine bodyPost_ret (v := .tuple #[.pointer (some ⟨w3.heap.size, 0, none⟩), .nilIface]) (by simp [results, Tryz.results128, go_sem]) rfl ?_;have hz1 := hb1.size;have hb13 : Below w1.heap.size w1 w3 := bstep hb2 hb3;have hb03 : Below w0.heap.size w0 w3 := bstep hb1 hb13;have hcl := hc1.lt;have hbn : Below w3.heap.size w3 (w3.alloc (.cells (drvA cb 0 (byS w1.heap.size l.length k1) (byS w2.heap.size l.length k2) (.slice none 0 0)) 96)) := (Below.refl _ w3).alloc (Nat.le_refl _) _;refine ⟨w3.heap.size, dfoot w3.heap.size cb w1.heap.size w2.heap.size (.slice none 0 0), rfl, ⟨cb, w1.heap.size, w2.heap.size, .slice none 0 0, k1, k2, ⟨Blk.new w3 _ _, ⟨hk1, hk1m, hk2, hk2m⟩, (hc1.below hb13).below hbn, (hy2.below hb3).below hbn, hy3.below hbn, WO.nil _, ?_, ?_, ?_, ?_⟩, fun b => Iff.rfl⟩, bstep hb03 hbn, ?_⟩
 ·omega
 ·intro b hb; cases hb
 ·omega
 ·exact Nat.zero_le _
 ·intro b hb;rcases hb with rfl | rfl | rfl | rfl | hb
  ·omega
  ·exact hcb
  ·omega
  ·omega
  ·cases hb
theorem dnew_err (l : Bs) (B : Nat) (G : Gl) (w : World) (hl : ¬ okSize l.length) (hm : l.length ≤ 9223372036854775807) (hG : Glob B G w) :
  Calls Tryz.prog 128 #[.string (ofL l)] w fun e w' => e = .returned (.tuple #[.pointer none, errV G.size]) ∧ Below w.heap.size w w' := by
 have hs : sectorsOk l.length = false := by
  rw [Bool.eq_false_iff]; exact fun h => hl (okSize_sectors.1 h)
 have hg := hG.size;go_enter Tryz.func128, Tryz.ntmps128;go_wp2_with fail;refine (sectors_no l.length _ _ hg.1 hm hs).mono ?_;rintro e w1 ⟨rfl, hb1⟩;unfold errV;go_wp2_with fail;go_ret2;exact ⟨rfl, hb1⟩
theorem laidB_nil (l : Bs) (p : Nat) : laidB l p [] = l := by unfold laidB; simp
theorem By.clears {w : World} {b p n : Nat} {l : Bs} (h : By w b l) (hp : p + n ≤ l.length) : ∃ w', (∀ (cap : Nat) (ty : TypeId), (Builtin.clear_ #[39] ty #[.slice (some ⟨b, p, none⟩) n cap]).run Tryz.prog w = .ok (.tuple #[]) w') ∧ By w' b (laidB l p (zeros n)) ∧ Fr (· = b) w w' ∧ w'.heap.size = w.heap.size := by
 by_cases h0 : n = 0
 ·subst h0;refine ⟨w, fun cap ty => ?_, ?_, Fr.refl _ _, rfl⟩
  ·simp [Builtin.clear_, run_underlying Tryz.underlying39]
  ·rw [show zeros 0 = [] from rfl, laidB_nil]; exact h
 ·refine ⟨w.setCells b p (u8s (zeros n)), fun cap ty => h.clear_bytes (by omega) hp ty, h.laid (by rw [zeros_length]; exact hp), Fr.setCells (S := (· = b)) (fun _ => rfl) _ _ _ (Fr.refl _ w), setCells_size _ _ _ _⟩
theorem By.texts {w : World} {b p : Nat} {l r : Bs} (h : By w b l) (hp : p + r.length ≤ l.length) : ∃ w', (∀ (n cap : Nat) (ty : TypeId), r.length ≤ n → (Builtin.copy_ #[39, 9] ty #[.slice (some ⟨b, p, none⟩) n cap, .string (ofL r)]).run Tryz.prog w = .ok (.int .i64 r.length) w') ∧ By w' b (laidB l p r) ∧ Fr (· = b) w w' ∧ w'.heap.size = w.heap.size :=
 ⟨w.setCells b p (u8s r), fun _ _ ty hn => h.copy_text hn hp ty, h.laid hp, Fr.setCells (S := (· = b)) (fun _ => rfl) _ _ _ (Fr.refl _ w), setCells_size _ _ _ _⟩
theorem By.bytes {w : World} {b c p q k : Nat} {l s : Bs} (h : By w b l) (hc : By w c s) (hp : p + k ≤ l.length) (hq : q + k ≤ s.length) : ∃ w', (∀ (m n cap cap' : Nat) (ty : TypeId), Nat.min m n = k → (Builtin.copy_ #[39, 39] ty #[.slice (some ⟨b, p, none⟩) n cap, .slice (some ⟨c, q, none⟩) m cap']).run Tryz.prog w = .ok (.int .i64 k) w') ∧ By w' b (laidB l p ((s.drop q).take k)) ∧ Fr (· = b) w w' ∧ w'.heap.size = w.heap.size :=
 ⟨w.setCells b p (u8s ((s.drop q).take k)), fun _ _ _ _ ty hk => h.copy_bytes hc hk hp hq ty, h.laid (by rw [List.length_take, List.length_drop]; omega), Fr.setCells (S := (· = b)) (fun _ => rfl) _ _ _ (Fr.refl _ w), setCells_size _ _ _ _⟩
def Dv.cleared (d : Dv) (p n : Nat) : Dv := { d with stable := laidB d.stable p (zeros n), written := laidB d.written p (zeros n) }
theorem clear_pos (db B : Nat) (F : Nat → Prop) (d : Dv) (p n : Nat) (w : World) (h : DrvAt w B db F d) (h1 : p + n ≤ d.stable.length) (h2 : d.written.length = d.stable.length) (h0 : 0 < n) :
  Calls Tryz.prog 258 #[.pointer (some ⟨db, 0, none⟩), .int .i64 p, .int .i64 (p + n : Nat)] w fun e w' => e = .returned (.tuple #[]) ∧ DrvTo w B db F (d.cleared p n) w' := by
 obtain ⟨cb, sb, wb, uv, c1, c2, hp, hF⟩ := h;obtain ⟨n1, n2, n3, n4, n5, n6⟩ := hp.ne;have k2 : w.cell? ⟨db, 2, none⟩ = some (byS sb d.stable.length c1) := Blk.cell hp.blk 2;obtain ⟨w1, hr1, hy1, hf1, hz1⟩ := hp.stable.clears h1;obtain ⟨w2, hr2, hy2, hf2, hz2⟩ := (hp.written.kept hf1 (fun e => n1 e.symm)).clears (p := p) (n := n) (by rw [h2]; exact h1);have hb1 := hp.blk.kept hf1 n4;have k3 : w1.cell? ⟨db, 3, none⟩ = some (byS wb d.written.length c2) := Blk.cell hb1 3;have hl1 : (laidB d.stable p (zeros n)).length = d.stable.length := laidB_length (by rw [zeros_length]; exact h1);have hl2 : (laidB d.written p (zeros n)).length = d.written.length := laidB_length (by rw [zeros_length, h2]; exact h1);have HE : Hid (DrvTo w B db F (d.cleared p n) w2) := by
  have hf12 : Fr (fun b => b = sb ∨ b = wb) w w2 := (hf1.mono (fun _ _ e => Or.inl e)).trans (hf2.mono (fun _ _ e => Or.inr e)) (fun _ _ e => e);refine ⟨F, ⟨cb, sb, wb, uv, c1, c2, ⟨?_, ?_, ?_, ?_, ?_, ?_, hp.ne, hp.own, hp.ge, hp.fuse⟩, hF⟩, hf12.mono (fun b _ e => (hF b).2 (e.elim (fun e => Or.inr (Or.inr (Or.inl e))) (fun e => Or.inr (Or.inr (Or.inr (Or.inl e)))))), fun b h => Or.inl h⟩
  ·show Blk w2 db (drvA cb d.fuse (byS sb (laidB d.stable p (zeros n)).length c1) (byS wb (laidB d.written p (zeros n)).length c2) uv) _;rw [hl1, hl2]; exact hb1.kept hf2 n5
  ·show (laidB d.stable p (zeros n)).length ≤ c1 ∧ c1 ≤ maxLen ∧ (laidB d.written p (zeros n)).length ≤ c2 ∧ c2 ≤ maxLen;rw [hl1, hl2]; exact hp.caps
  ·exact (hp.chan.kept hf1 n2).kept hf2 n3
  ·exact hy1.kept hf2 n1
  ·exact hy2
  ·exact hp.way.kept hf12 (fun b hb e => e.elim (hp.own b hb).2.2.1 (hp.own b hb).2.2.2.1)
 have hc := hp.caps;unfold maxLen at hc;have g1 : (p : Int) + n ≤ c1 := by omega
 have g2 : (p : Int) + n ≤ c2 := by omega
 have g3 : ¬ c1 = p := by omega
 have g4 : ¬ c2 = p := by omega
 unfold byS at k2 k3;have ep : ((p + n : Nat) : Int) = (p : Int) + n := by omega
 rw [ep];clear hp hF hf1 hf2 hz1 hz2 hy1 hy2 hb1 hl1 hl2 ep hc h1 h2;go_enter Tryz.func258, Tryz.ntmps258;go_wp2_with fail;go_end0;exact ⟨rfl, HE.out⟩
theorem clear_none (a : Addr) (cap : Nat) (ty : TypeId) (w : World) : (Builtin.clear_ #[39] ty #[.slice (some a) 0 cap]).run Tryz.prog w = .ok (.tuple #[]) w := by
 simp [Builtin.clear_, run_underlying Tryz.underlying39]
theorem clear_zero (db B : Nat) (F : Nat → Prop) (d : Dv) (p : Nat) (w : World) (h : DrvAt w B db F d) (h1 : p ≤ d.stable.length) (h2 : d.written.length = d.stable.length) :
  Calls Tryz.prog 258 #[.pointer (some ⟨db, 0, none⟩), .int .i64 p, .int .i64 p] w fun e w' => e = .returned (.tuple #[]) ∧ w' = w := by
 obtain ⟨cb, sb, wb, uv, c1, c2, hp, hF⟩ := h;have k2 : w.cell? ⟨db, 2, none⟩ = some (byS sb d.stable.length c1) := Blk.cell hp.blk 2;have k3 : w.cell? ⟨db, 3, none⟩ = some (byS wb d.written.length c2) := Blk.cell hp.blk 3;have hc := hp.caps;unfold maxLen at hc;have g1 : (p : Int) ≤ c1 := by omega
 have g2 : (p : Int) ≤ c2 := by omega
 unfold byS at k2 k3;have hr1 := clear_none;clear hp hF hc h1 h2;go_enter Tryz.func258, Tryz.ntmps258;go_wp2_with fail
 all_goals
  go_end0;exact ⟨rfl, rfl⟩
theorem clear_any (db B : Nat) (F : Nat → Prop) (d : Dv) (p n : Nat) (w : World) (h : DrvAt w B db F d) (h1 : p + n ≤ d.stable.length) (h2 : d.written.length = d.stable.length) :
  Calls Tryz.prog 258 #[.pointer (some ⟨db, 0, none⟩), .int .i64 p, .int .i64 (p + n : Nat)] w fun e w' => e = .returned (.tuple #[]) ∧ DrvTo w B db F (d.cleared p n) w' := by
 by_cases h0 : n = 0
 ·subst h0;refine (clear_zero db B F d p w h h1 h2).mono ?_;rintro e w' ⟨rfl, rfl⟩;have e : d.cleared p 0 = d := by unfold Dv.cleared; rw [show zeros 0 = [] from rfl, laidB_nil, laidB_nil]
  rw [e];exact ⟨rfl, DrvTo.same h⟩
 ·exact clear_pos db B F d p n w h h1 h2 (by omega)
end Go.Proofs.YtmnajomkfnkmeaaGreatDoor
