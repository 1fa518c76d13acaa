import Derived.Test.YtmnajomkfnkmeaaGreatDoorSts
import Derived.Deep.DeepCutAuto
import Derived.Deep.AppendLies
import Derived.Deep.CutBlock
namespace Go.Proofs.YtmnajomkfnkmeaaGreatDoor
open Go.RowKit Go.Conc
attribute [local go_sem] ofL_size
/-- the passes that have come out, beside a keeper -/
structure PS (w0 : World) (B kb : Nat) (m : Kp) (s : Value) (ps : List Bs) (n : Nat) (w : World) : Prop where
  ka : Ka w0 B kb m (ownX s) w
  so : SO w s ps
  le : ps.length ≤ n
  ok : ∀ p ∈ ps, p.length ≤ 9
theorem PS.wide {w0 : World} {B kb : Nat} {m : Kp} {s : Value} {ps : List Bs} {n : Nat} {w : World} (h : PS w0 B kb m s ps n w) : Below w0.heap.size w0 w := h.ka.wide
theorem PS.stay {w0 : World} {B kb : Nat} {m m' : Kp} {s : Value} {ps : List Bs} {n : Nat} {w w' : World} (h : PS w0 B kb m s ps n w) (ha : Ka w0 B kb m' (ownX s) w') (hs : Stay (ownX s) w w') : PS w0 B kb m' s ps n w' :=
  ⟨ha, h.so.stay hs, h.le, h.ok⟩
theorem PS.more {w0 : World} {B kb : Nat} {m : Kp} {s : Value} {ps : List Bs} {n n' : Nat} {w : World} (h : PS w0 B kb m s ps n w) (hn : n ≤ n') : PS w0 B kb m s ps n' w := ⟨h.ka, h.so, Nat.le_trans h.le hn, h.ok⟩
theorem PS.moved {w0 : World} {B kb kb' : Nat} {m m' : Kp} {s : Value} {ps : List Bs} {n : Nat} {w w' : World} (h : PS w0 B kb m s ps n w) (ha : Ka w0 B kb' m' (ownX s) w') (hs : Stay (ownX s) w w') : PS w0 B kb' m' s ps n w' :=
  ⟨ha, h.so.stay hs, h.le, h.ok⟩
theorem ps_none {w0 : World} {B kb : Nat} {m : Kp} {w : World} (h : Kst w0 B kb m w) (n : Nat) : PS w0 B kb m (.slice none 0 0) [] n w := ⟨Ka.of_kst h, Own.nil _ _ _ _, Nat.zero_le _, fun p hp => by cases hp⟩
/-- a pass has been appended -/
theorem PS.pushed {w0 w w2 : World} {B kb : Nat} {m : Kp} {s : Value} {ps : List Bs} {n k g cap : Nat} {q : Bs} {o : Obj} (h : PS w0 B kb m s ps n w) (hq : q.length ≤ 9) (hn : ps.length = k)
    (hown : w2.ownsRow 0 9 1 (.slice (some ⟨g, 0, none⟩) (k + 1) cap) (k + 1) (flatV strV ps ++ [.string (ofL q)])) (hgr : (w.alloc o).grownBy w2 s.ownBlock) (hloc : s.ownBlock = some g ∨ g = (w.alloc o).heap.size) (hlt : g < w2.heap.size) :
    PS w0 B kb m (.slice (some ⟨g, 0, none⟩) (k + 1) cap) (ps ++ [q]) (n + 1) w2 := by
  refine ⟨(h.ka.pushed hgr hloc hlt).sub (fun b hb => ?_), Own.pushed hn hown, by rw [List.length_append]; have := h.le; simp; omega, snoc_le h.ok hq⟩
  have hb : some g = some b := hb
  injection hb with e; exact e.symm
theorem PS.act {w0 : World} {B kb : Nat} {m : Kp} {s : Value} {ps : List Bs} {n : Nat} {G : Gl} {w : World} (h : PS w0 B kb m s ps n w) (hG : Glob B G w0) (hn : n ≤ 1000) (c : Int) (hc : -9223372036854775808 ≤ c ∧ c ≤ 9223372036854775807) :
    Calls Tryz.prog 31 #[.pointer (some ⟨kb, 0, none⟩), .int .i64 c, s] w fun e w' => e = .returned (.tuple #[.string (ofL (actK m (pickN c 1099511627776) ps).1), .int .i64 (actK m (pickN c 1099511627776) ps).2.1]) ∧ PS w0 B kb (actK m (pickN c 1099511627776) ps).2.2 s ps n w' := by
  have := act_any w0 B kb m (ownX s) G s ps c w h.ka hG hc h.so (fun _ h => h) h.ok (Nat.le_trans h.le hn)
  revert this
  generalize actK m (pickN c 1099511627776) ps = R
  intro this
  exact this.mono fun e w' hh => ⟨hh.1, h.stay hh.2.1 hh.2.2⟩
theorem emptyL (q : Bs) : (ofL q).toList.isEmpty = q.isEmpty := by
  rw [toList_toL, toL_ofL]
theorem str_push {w : World} {sv : Value} {ps : List Bs} {n : Nat} (h : SO w sv ps) (hn : ps.length = n) (hle : n ≤ 1000) (q : Bs) :
    ∃ i0, Tryz.prog.info? 9 = some i0 ∧ i0.zero = some (.string ByteArray.empty) ∧ i0.size = 1 ∧ i0.bytes = 16 ∧ (w.alloc (.cells #[.string (ofL q)] 9)).ownsRow 0 9 1 sv n (flatV strV ps) ∧
      (∀ (j : Nat) (u : Value), [Value.string (ofL q)][j]? = some u → (w.alloc (.cells #[.string (ofL q)] 9)).cell? ((⟨w.heap.size, 0, none⟩ : Addr).add j) = some u) ∧ (∀ u ∈ [Value.string (ofL q)], u.oneCell' = true) ∧ n + 1 ≤ maxLen ∧ (n + 1) * 16 ≤ 140737488355328 := by
  obtain ⟨i0, hi, hzz⟩ := Option.map_eq_some_iff.1 info_str
  simp only [Prod.mk.injEq] at hzz
  obtain ⟨hz, hs0, hb⟩ := hzz
  have ho : SO (w.alloc (.cells #[.string (ofL q)] 9)) sv ps := h.below ((Below.refl _ _).alloc (Nat.le_refl _) _)
  unfold SO Own at ho
  rw [hn] at ho
  exact ⟨i0, hi, hz, hs0, hb, ho, World.news_of_block (Blk.new w _ _), fun u hu => by rw [List.mem_singleton.1 hu]; rfl, by unfold maxLen; omega, by omega⟩
theorem so_shape {w : World} {sv : Value} {ps : List Bs} (h : SO w sv ps) : (sv = .slice none 0 0 ∧ ps.length = 0) ∨ ∃ q cap, sv = .slice (some ⟨q, 0, none⟩) ps.length cap := by
  rcases h.cases with ⟨h1, h2⟩ | ⟨q, cap, h1, _⟩
  · exact Or.inl ⟨h1, by rw [h2]; rfl⟩
  · exact Or.inr ⟨q, cap, h1⟩
set_option maxRecDepth 100000 in
set_option maxHeartbeats 8000000 in
theorem gone_any (c way : Int) (b : Bool) (v0 : Value) (zs : List Int) (B : Nat) (G : Gl) (w : World) (hc : -9223372036854775808 ≤ c ∧ c ≤ 9223372036854775807) (hw : -9223372036854775808 ≤ way ∧ way ≤ 9223372036854775807) (hz : IntsV w v0 zs) (hG : Glob B G w) :
    Calls Tryz.prog 9 #[v0, .int .i64 c, .int .i64 way, .bool b] w fun e w' => e = .returned (.bool true) ∧ Below w.heap.size w w' := by
  have HG : Hid (Glob B G w) := hG
  have HZ : Hid (IntsV w v0 zs) := hz
  have HC : Hid (-9223372036854775808 ≤ c ∧ c ≤ 9223372036854775807) := hc
  obtain ⟨m0, m1, i, e0, e1, hways⟩ := gone_start c
  have HM0 : Hid (openK (blankB 60) (confK c false) = (0, some m0)) := e0
  have HCF : Hid (Calls Tryz.prog 26 #[.int .i64 c, .bool false] w fun e w' => e = .returned (cfgV (confK c false)) ∧ Below w.heap.size w w') := config_any c false w hc.1 hc.2
  have HP : Hid ((passL topSecret i).length ≤ 9223372036854775000) := by show (9 : Nat) ≤ _; decide
  have HE1 : Hid (m0.login 5 = (passL topSecret i, 0, m1)) := e1
  have HDEAD : Hid (∀ m, Ended m i → m.touch (passL topSecret i) = (6, m) ∧ m.get (passL topSecret i) [97] = ([], 6) ∧ m.set (passL topSecret i) [97] [98] = (6, m) ∧ m.rotate (passL topSecret i) = ([], 6, m) ∧ m.logout (passL topSecret i) = (6, m)) := fun m h => by
    have := dead_calls h.good h.i4 h.gone [97] [98] ⟨by decide, by decide, by decide⟩
    rw [h.secret] at this
    exact this
  have HAGN : Hid (∀ m z, Ended m i → ∃ m', openK (m.left 0 (-1) 0) (confK z false) = (0, some m') ∧ Ended m' i) := fun m z h => ended_again h z 0 (-1) 0
  have HACT : Hid (∀ m v ps, Ended m i → (actK m v ps).1 = passL topSecret i ∨ Ended (actK m v ps).2.2 i) := fun m v ps h => ended_act h v ps
  have HWY : Hid (_ ∧ _ ∧ _ ∧ _) := hways
  have HPW : Hid (∀ w', Calls Tryz.prog 15 #[.int .i64 way, .int .i64 (4 : Nat)] w' fun e w'' => e = .returned (.int .i64 (pickN way 4)) ∧ w'' = w') := fun w' => pick_any way 4 w' hw.1 hw.2 (by decide)
  have hpw := pickN_lt way (n := 4) (by decide)
  generalize pickN way 4 = pw at *
  clear hG hc e0 e1 hways hw hz
  generalize passL topSecret i = P at *
  go_enter Tryz.func9, Tryz.ntmps9
  go_wp2_with fail
  refine HCF.out.mono ?_
  rintro e w1 ⟨rfl, hb1⟩
  have HB1 : Hid (Below w.heap.size w w1) := hb1
  clear hb1 HCF
  have HFR : Hid (∀ o, Calls Tryz.prog 18 #[.int .i64 60, cfgV (confK c false)] (w1.alloc o) fun e w' => ∃ kb, e = .returned (.pointer (some ⟨kb, 0, none⟩)) ∧ Kst w B kb m0 w') := fun o => sfresh w 60 c false B G (w1.alloc o) m0 (by decide) (by decide) (HB1.out.alloc HB1.out.size _) HG.out HM0.out
  generalize confK c false = cc at *
  unfold cfgV at *
  go_wp2_with fail
  refine (HFR.out _).mono ?_
  rintro e w2 ⟨kb, rfl, hk2⟩
  have HS1 := slogin w B kb m0 G 5 w2 hk2 HG.out
  rw [HE1.out] at HS1
  have HS1 : Hid (Calls _ _ _ _ _) := HS1
  clear hk2 HFR HM0 HE1
  go_wp2_with fail
  refine HS1.out.mono ?_
  rintro e w3 ⟨rfl, hk3⟩
  have HK3 : Hid (Kst w B kb m1 w3) := hk3
  clear hk3 HS1
  go_wp2_with fail
  refine (HPW.out _).mono ?_
  rintro e w' ⟨rfl, hw'⟩
  subst w'
  clear HPW
  go_upto_block 0 with fail
  go_cut [13] (fun f wx => f = .int .i64 0 ∧ ∃ m2, Hid (Ended m2 i) ∧ Hid (Kst w B kb m2 wx))
  case first =>
    obtain ⟨⟨m2, a1, a2⟩, ⟨q, m3, b1, b2⟩, ⟨m4, c1, c2⟩, ⟨m5, m6, d1, d2, d3⟩⟩ := HWY.out
    obtain rfl | rfl | rfl | rfl : pw = 0 ∨ pw = 1 ∨ pw = 2 ∨ pw = 3 := by omega
    · have HC1 := slogout w B kb m1 G P w3 HK3.out HP.out HG.out
      rw [a1] at HC1
      have HC1 : Hid (Calls _ _ _ _ _) := HC1
      have HE : Hid (Ended m2 i) := a2
      clear a1 a2 b1 b2 c1 c2 d1 d2 d3
      go_wp2_with fail
      refine HC1.out.mono ?_
      rintro e w4 ⟨rfl, hk4⟩
      have HK4 : Hid (Kst w B kb m2 w4) := hk4
      clear hk4 HC1
      go_wp2_with fail
      go_meet
      case rel => exact ⟨rfl, m2, HE, HK4⟩
    · have HC1 := srotate w B kb m1 G P w3 HK3.out HP.out HG.out
      rw [b1] at HC1
      have HC1 : Hid (Calls _ _ _ _ _) := HC1
      have HE : Hid (Ended m3 i) := b2
      clear a1 a2 b1 b2 c1 c2 d1 d2 d3
      go_wp2_with fail
      refine HC1.out.mono ?_
      rintro e w4 ⟨rfl, hk4⟩
      have HK4 : Hid (Kst w B kb m3 w4) := hk4
      clear hk4 HC1
      go_wp2_with fail
      go_meet
      case rel => exact ⟨rfl, m3, HE, HK4⟩
    · have HC1 := soutall w B kb m1 G 5 w3 HK3.out HG.out
      rw [c1] at HC1
      have HC1 : Hid (Calls _ _ _ _ _) := HC1
      have HE : Hid (Ended m4 i) := c2
      clear a1 a2 b1 b2 c1 c2 d1 d2 d3
      go_wp2_with fail
      refine HC1.out.mono ?_
      rintro e w4 ⟨rfl, hk4⟩
      have HK4 : Hid (Kst w B kb m4 w4) := hk4
      clear hk4 HC1
      go_wp2_with fail
      go_meet
      case rel => exact ⟨rfl, m4, HE, HK4⟩
    · have HC1 := stick w B kb m1 20 w3 HK3.out (by decide)
      rw [d1] at HC1
      have HC1 : Hid (Calls _ _ _ _ _) := HC1
      have HC2 : Hid (∀ w', Kst w B kb m5 w' → Calls Tryz.prog 21 #[.pointer (some ⟨kb, 0, none⟩), .string (ofL P)] w' fun e w' => e = .returned (.int .i64 7) ∧ Kst w B kb m6 w') := fun w' h => by
        have := stouch w B kb m5 G P w' h HP.out HG.out
        rw [d2] at this
        exact this
      have HE : Hid (Ended m6 i) := d3
      clear a1 a2 b1 b2 c1 c2 d1 d2 d3
      go_wp2_with fail
      refine HC1.out.mono ?_
      rintro e w4 ⟨rfl, hk4⟩
      have HK4 : Hid (Kst w B kb m5 w4) := hk4
      clear hk4 HC1
      go_wp2_with fail
      refine (HC2.out _ HK4.out).mono ?_
      rintro e w5 ⟨rfl, hk5⟩
      have HK5 : Hid (Kst w B kb m6 w5) := hk5
      clear hk5 HC2
      go_wp2_with fail
      go_meet
      case rel => exact ⟨rfl, m6, HE, HK5⟩
  case rest =>
  obtain ⟨rfl, m2, HE0, HK0⟩ := hcut
  clear HWY HK3 hpw
  go_wp2_with fail
  go_loopw [10, 18, 19] (fun kv sv iv wx => ∃ (kb : Nat) (m : Kp) (ps : List Bs) (k : Nat), kv = .pointer (some ⟨kb, 0, none⟩) ∧ iv = .int .i64 k ∧ k ≤ 20 ∧ Hid (Ended m i) ∧ Hid (PS w B kb m sv ps k wx)) (fun _ _ iv _ => 20 - (intOf iv).toNat)
  case atStart => exact ⟨kb, m2, [], 0, rfl, rfl, by omega, HE0, ps_none HK0.out 0⟩
  case round =>
    obtain ⟨kb, m, ps, k, rfl, rfl, hk, HE, HPS⟩ := hrel
    clear HE0 HK0
    have HZr : Hid (IntsV wr v0 zs) := by
      rcases HZ.out with h | ⟨a, cap, h1, h2⟩
      · exact Or.inl h
      · exact Or.inr ⟨a, cap, h1, h2.below HPS.out.wide⟩
    by_cases hlt : k < zs.length ∧ k < 20
    · obtain ⟨h1, h2⟩ := hlt
      obtain ⟨a, cap, rfl, hz⟩ : ∃ a cap, v0 = .slice (some a) zs.length cap ∧ IntsAt wr a zs := by
        rcases HZr.out with ⟨_, h⟩ | h
        · rw [h] at h1; exact absurd h1 (Nat.not_lt_zero _)
        · exact h
      have cz := hz.cell k h1
      obtain ⟨z, hze⟩ : ∃ z, z = zs.getD k 0 := ⟨_, rfl⟩
      have hrg := hz.rng k h1
      rw [← hze] at cz hrg
      have HAC := HPS.out.act HG.out (by omega) z hrg
      have HEN : Hid ((actK m (pickN z 1099511627776) ps).1 = P ∨ Ended (actK m (pickN z 1099511627776) ps).2.2 i) := HACT.out m _ ps HE.out
      have HRL : Hid ((actK m (pickN z 1099511627776) ps).1.length ≤ 9) := actK_len _ _ _
      have HAC : Hid (Calls _ _ _ _ _) := HAC
      clear hze hrg hz HZr
      generalize actK m (pickN z 1099511627776) ps = R at *
      obtain ⟨q, er, m'⟩ := R
      go_wp2_with fail
      refine HAC.out.mono ?_
      rintro e w4 ⟨rfl, hp4⟩
      have HP4 : Hid (PS w B kb m' _ ps k w4) := hp4
      clear hp4 HAC HPS cz HE
      have hs := str_eqK q P
      by_cases hq : q = P
      · rw [decide_eq_true hq] at hs
        clear hq
        go_wp2_with fail
        go_ret
        exact ⟨rfl, HP4.out.wide⟩
      · rw [decide_eq_false hq] at hs
        have HE4 : Hid (Ended m' i) := HEN.out.resolve_left hq
        clear hq HEN
        go_upto_if 104 with fail
        clear hs
        go_cut [18] (fun sv wx => ∃ ps', Hid (PS w B kb m' sv ps' (k + 1) wx))
        case first =>
          by_cases h0 : q = []
          · have he : (ofL q).toList.isEmpty = true := by rw [emptyL, h0]; rfl
            clear h0
            rw [he]
            go_wp2_with fail
            go_meet
            case rel => exact ⟨ps, HP4.out.more (by omega)⟩
          · have he : (ofL q).toList.isEmpty = false := by rw [emptyL]; cases q with | nil => exact absurd rfl h0 | cons x y => rfl
            clear h0
            rw [he]
            obtain ⟨pl, hpl⟩ : ∃ pl, ps.length = pl := ⟨_, rfl⟩
            have hle : pl ≤ 1000 := by have := HP4.out.le; omega
            obtain ⟨i0, hfacts⟩ := str_push HP4.out.so hpl hle q
            have HF : Hid (_ ∧ _ ∧ _ ∧ _ ∧ _ ∧ _ ∧ _ ∧ _ ∧ _) := hfacts
            have hsh := so_shape HP4.out.so
            rw [hpl] at hsh
            have HLEN : Hid (ps.length = pl) := hpl
            clear hfacts hpl hle
            rcases hsh with ⟨hsv, rfl⟩ | ⟨g0, cap0, hsv⟩
            · subst hsv
              go_wp2_with (at_builtin; refine wpList_append_lies _ rfl _ _ 57 rfl 0 9 i0 (.string ByteArray.empty) 1 16 Tryz.underlying57 HF.out.1 HF.out.2.1 HF.out.2.2.1 HF.out.2.2.2.1 rfl (by decide) _ 0 (flatV strV ps) rfl HF.out.2.2.2.2.1 ⟨w4.heap.size, 0, none⟩ 1 1 [.string (ofL q)] rfl rfl HF.out.2.2.2.2.2.1 HF.out.2.2.2.2.2.2.1 (by decide) HF.out.2.2.2.2.2.2.2.1 HF.out.2.2.2.2.2.2.2.2 (Nat.zero_le _) _ rfl ?_; intro g cap2 w5 hown hgr hloc hlt; have Q3 : Hid (PS w B kb m' _ _ _ w5) := PS.pushed HP4.out HRL.out HLEN.out hown hgr hloc hlt; clear hown hgr hloc hlt)
              go_meet
              case rel => exact ⟨_, Q3⟩
            · subst hsv
              go_wp2_with (at_builtin; refine wpList_append_lies _ rfl _ _ 57 rfl 0 9 i0 (.string ByteArray.empty) 1 16 Tryz.underlying57 HF.out.1 HF.out.2.1 HF.out.2.2.1 HF.out.2.2.2.1 rfl (by decide) _ pl (flatV strV ps) rfl HF.out.2.2.2.2.1 ⟨w4.heap.size, 0, none⟩ 1 1 [.string (ofL q)] rfl rfl HF.out.2.2.2.2.2.1 HF.out.2.2.2.2.2.2.1 (by decide) HF.out.2.2.2.2.2.2.2.1 HF.out.2.2.2.2.2.2.2.2 (Nat.zero_le _) _ rfl ?_; intro g cap2 w5 hown hgr hloc hlt; have Q3 : Hid (PS w B kb m' _ _ _ w5) := PS.pushed HP4.out HRL.out HLEN.out hown hgr hloc hlt; clear hown hgr hloc hlt)
              go_meet
              case rel => exact ⟨_, Q3⟩
        case rest =>
          obtain ⟨ps', HP5⟩ := hcut
          cases b
          · go_wp2_with fail
            go_roundw
            case rel => exact ⟨kb, m', ps', k + 1, rfl, by go_num, h2, HE4, HP5⟩
            case measure => simp [intOf]; omega
          · have t5 : (k : Int).tmod 5 = ((k % 5 : Nat) : Int) := rfl
            by_cases h5 : k % 5 = 4
            · rw [h5] at t5
              have t5 : (k : Int).tmod 5 = 4 := t5
              clear h5
              obtain ⟨z1, hz1⟩ : ∃ z1, wrap64 (c + (k : Int)) = z1 := ⟨_, rfl⟩
              have hr1 := wrap64_rng (c + (k : Int))
              rw [hz1] at hr1
              have HCF : Hid (∀ w', Calls Tryz.prog 26 #[.int .i64 z1, .bool false] w' fun e w'' => e = .returned (cfgV (confK z1 false)) ∧ Below w'.heap.size w' w'') := fun w' => config_any z1 false w' hr1.1 hr1.2
              obtain ⟨m8, hm8, hE8⟩ := HAGN.out m' z1 HE4.out
              have HLF : Hid (Calls _ _ _ _ _) := aleft w B kb m' (ownX u18) 0 (-1) 0 wc HP5.out.ka (by decide) (by decide)
              have HOP : Hid (∀ w', Ka w B kb m' (ownX u18) w' → Calls Tryz.prog 24 #[.string (ofL (m'.left 0 (-1) 0)), cfgV (confK z1 false)] w' fun e w'' => ∃ kb', e = .returned (.pointer (some ⟨kb', 0, none⟩)) ∧ Ka w B kb' m8 (ownX u18) w'' ∧ Stay (ownX u18) w' w'') := fun w' h => aopened w B kb m' m8 (ownX u18) G (m'.left 0 (-1) 0) z1 false w' h (good_left_len HE4.out.good _ _ _) HG.out hm8
              have HE8 : Hid (Ended m8 i) := hE8
              clear hm8 hE8 hr1
              generalize confK z1 false = c2 at *
              generalize m'.left 0 (-1) 0 = L at *
              unfold cfgV at *
              go_wp2_with fail
              refine HLF.out.mono ?_
              rintro e w6 ⟨rfl, hk6, hs6⟩
              have HP6 : Hid (PS w B kb m' u18 ps' (k + 1) w6) := HP5.out.stay hk6 hs6
              clear hk6 hs6 HLF HP5
              go_wp2_with fail
              refine (HCF.out _).mono ?_
              rintro e w7 ⟨rfl, hb7⟩
              have hk7 := HP6.out.ka.below hb7
              have HP7 : Hid (PS w B kb m' u18 ps' (k + 1) w7) := HP6.out.stay hk7.1 hk7.2
              clear hb7 hk7 HCF HP6
              go_wp2_with fail
              refine (HOP.out _ HP7.out.ka).mono ?_
              rintro e w8 ⟨kb8, rfl, hk8, hs8⟩
              have HP8 : Hid (PS w B kb8 m8 u18 ps' (k + 1) w8) := HP7.out.moved hk8 hs8
              clear hk8 hs8 HOP HP7
              go_wp2_with fail
              go_roundw
              case rel => exact ⟨kb8, m8, ps', k + 1, rfl, by go_num, h2, HE8, HP8⟩
              case measure => simp [intOf]; omega
            · have h6 : k % 5 < 5 := Nat.mod_lt _ (by decide)
              generalize k % 5 = r5 at *
              go_wp2_with fail
              go_roundw
              case rel => exact ⟨kb, m', ps', k + 1, rfl, by go_num, h2, HE4, HP5⟩
              case measure => simp [intOf]; omega
    · obtain ⟨d1, d2, d3, d4, d5⟩ := HDEAD.out m HE.out
      have HK : Hid (Kst w B kb m wr) := HPS.out.ka.kst
      have HT1 : Hid (∀ w', Kst w B kb m w' → Calls Tryz.prog 21 #[.pointer (some ⟨kb, 0, none⟩), .string (ofL P)] w' fun e w' => e = .returned (.int .i64 6) ∧ Kst w B kb m w') := fun w' h => by
        have := stouch w B kb m G P w' h HP.out HG.out
        rw [d1] at this
        exact this
      have HT2 : Hid (∀ w', Kst w B kb m w' → Calls Tryz.prog 27 #[.pointer (some ⟨kb, 0, none⟩), .string (ofL P), .string { data := #[97] }] w' fun e w' => e = .returned (.tuple #[.string (ofL []), .int .i64 6]) ∧ Kst w B kb m w') := fun w' h => by
        have := sget w B kb m G P [97] w' h HP.out HG.out
        rw [d2] at this
        exact this.mono fun e w' hh => ⟨hh.1, hh.2.1⟩
      have HT3 : Hid (∀ w', Kst w B kb m w' → Calls Tryz.prog 32 #[.pointer (some ⟨kb, 0, none⟩), .string (ofL P), .string { data := #[97] }, .string { data := #[98] }] w' fun e w' => e = .returned (.int .i64 6) ∧ Kst w B kb m w') := fun w' h => by
        have := sset w B kb m G P [97] [98] w' h HP.out (by decide) (by decide) HG.out
        rw [d3] at this
        exact this
      have HT4 : Hid (∀ w', Kst w B kb m w' → Calls Tryz.prog 29 #[.pointer (some ⟨kb, 0, none⟩), .string (ofL P)] w' fun e w' => e = .returned (.tuple #[.string (ofL []), .int .i64 6]) ∧ Kst w B kb m w') := fun w' h => by
        have := srotate w B kb m G P w' h HP.out HG.out
        rw [d4] at this
        exact this
      have HT5 : Hid (∀ w', Kst w B kb m w' → Calls Tryz.prog 28 #[.pointer (some ⟨kb, 0, none⟩), .string (ofL P)] w' fun e w' => e = .returned (.int .i64 6) ∧ Kst w B kb m w') := fun w' h => by
        have := slogout w B kb m G P w' h HP.out HG.out
        rw [d5] at this
        exact this
      clear d1 d2 d3 d4 d5
      have hsh : (v0 = .slice none 0 0) ∨ (∃ a cap, v0 = .slice (some a) zs.length cap ∧ k < zs.length ∧ ¬ k < 20) ∨ (∃ a cap, v0 = .slice (some a) zs.length cap ∧ ¬ k < zs.length) := by
        rcases HZr.out with ⟨h, _⟩ | ⟨a, cap, h, _⟩
        · exact Or.inl h
        · by_cases h1 : k < zs.length
          · exact Or.inr (Or.inl ⟨a, cap, h, h1, fun h2 => hlt ⟨h1, h2⟩⟩)
          · exact Or.inr (Or.inr ⟨a, cap, h, h1⟩)
      clear HPS HZr HZ hlt
      rcases hsh with rfl | ⟨a, cap, rfl, h1, h2⟩ | ⟨a, cap, rfl, h1⟩
      all_goals
        go_wp2_with fail
        refine (HT1.out _ HK.out).mono ?_
        rintro e w4 ⟨rfl, hk4⟩
        have HK4 : Hid (Kst w B kb m w4) := hk4
        clear hk4 HK HT1
        go_wp2_with fail
        refine (HT2.out _ HK4.out).mono ?_
        rintro e w5 ⟨rfl, hk5⟩
        have HK5 : Hid (Kst w B kb m w5) := hk5
        clear hk5 HK4 HT2
        go_wp2_with fail
        refine (HT3.out _ HK5.out).mono ?_
        rintro e w6 ⟨rfl, hk6⟩
        have HK6 : Hid (Kst w B kb m w6) := hk6
        clear hk6 HK5 HT3
        go_wp2_with fail
        refine (HT4.out _ HK6.out).mono ?_
        rintro e w7 ⟨rfl, hk7⟩
        have HK7 : Hid (Kst w B kb m w7) := hk7
        clear hk7 HK6 HT4
        go_wp2_with fail
        refine (HT5.out _ HK7.out).mono ?_
        rintro e w8 ⟨rfl, hk8⟩
        have HK8 : Hid (Kst w B kb m w8) := hk8
        clear hk8 HK7 HT5
        go_wp2_with fail
        go_ret
        exact ⟨rfl, HK8.out.wide⟩
end Go.Proofs.YtmnajomkfnkmeaaGreatDoor
