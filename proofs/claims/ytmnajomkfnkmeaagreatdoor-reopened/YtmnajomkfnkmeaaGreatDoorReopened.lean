import Derived.Test.YtmnajomkfnkmeaaGreatDoorPb
import Derived.Deep.DeepCutAuto
import Derived.Deep.AppendLies
import Derived.Deep.CutBlock
import Derived.Deep.RegionWith
namespace Go.Proofs.YtmnajomkfnkmeaaGreatDoor
open Go.RowKit Go.Conc
attribute [local go_sem] ofL_size
theorem len_ints {w : World} {v : Value} {zs : List Int} (h : IntsV w v zs) (hm : zs.length ≤ maxLen) (w' : World) : Sem.run Tryz.prog (Builtin.len_ #[52] 3 #[v]) w' = .ok (.int .i64 (zs.length : Int)) w' := by
  rcases h with ⟨rfl, rfl⟩ | ⟨a, cap, rfl, _⟩
  · simp [go_sem]
  · simp [go_sem]
theorem IntsV.below {w w' : World} {v : Value} {zs : List Int} (h : IntsV w v zs) (hb : Below w.heap.size w w') : IntsV w' v zs := by
  rcases h with h | ⟨a, cap, h1, h2⟩
  · exact Or.inl h
  · exact Or.inr ⟨a, cap, h1, h2.below hb⟩
set_option maxRecDepth 100000 in
set_option maxHeartbeats 16000000 in
theorem reopened_any (c : Int) (v0 v2 : Value) (zs hs : List Int) (B : Nat) (G : Gl) (w : World) (hc : -9223372036854775808 ≤ c ∧ c ≤ 9223372036854775807) (hz : IntsV w v0 zs) (hh : IntsV w v2 hs) (hzm : zs.length ≤ maxLen) (hhm : hs.length ≤ maxLen) (hG : Glob B G w) :
    Calls Tryz.prog 10 #[v0, .int .i64 c, v2] w fun e w' => e = .returned (.bool true) ∧ Below w.heap.size w w' := by
  have HG : Hid (Glob B G w) := hG
  have HZ : Hid (IntsV w v0 zs) := hz
  have HH : Hid (IntsV w v2 hs) := hh
  have lz := len_ints hz hzm
  have lh := len_ints hh hhm
  obtain ⟨m0, m1, m2, i, e0, e1, e2, e3, hst, hfu⟩ := reopened_start c
  have HM0 : Hid (openK (blankB 60) (confK c true) = (0, some m0)) := e0
  have HCF : Hid (Calls Tryz.prog 26 #[.int .i64 c, .bool true] w fun e w' => e = .returned (cfgV (confK c true)) ∧ Below w.heap.size w w') := config_any c true w hc.1 hc.2
  have HP : Hid ((passL topSecret i).length ≤ 9223372036854775000) := by show (9 : Nat) ≤ _; decide
  have HP9 : Hid ((passL topSecret i).length ≤ 9) := Nat.le_of_eq (passL_len _ _)
  have HE1 : Hid (m0.login 1 = (passL topSecret i, 0, m1)) := e1
  have HE2 : Hid (m1.set (passL topSecret i) [97] [120] = (0, m2)) := e2
  have HE3 : Hid (m2.get (passL topSecret i) [97] = ([120], 0)) := e3
  have HCM : Hid (Calm m2 m2.st.T) := ⟨hst, hfu, rfl⟩
  have HFRN : Hid (∀ w1, Below w.heap.size w w1 → Calls Tryz.prog 18 #[.int .i64 60, cfgV (confK c true)] (w1.alloc (.cells (cfgA (confK c true)) 23)) fun e w' => ∃ kb, e = .returned (.pointer (some ⟨kb, 0, none⟩)) ∧ PB w B kb m0 w1.heap.size (cfgA (confK c true)) (.slice none 0 0) [] 0 (.slice none 0 0) [] w') := fun w1 hb1 =>
    pb_fresh w 60 c true B G (w1.alloc (.cells (cfgA (confK c true)) 23)) m0 w1.heap.size (cfgA (confK c true)) (by decide) (by decide) (hb1.alloc hb1.size _) hb1.size (Blk.new _ _ _) hG e0
  have HAG : Hid (∀ (m : Kp) (T : Tab) (keep torn part : Int), Calm m T → ∃ m', openK (m.left keep torn part) (confK c true) = (0, some m') ∧ Calm m' T) := fun m T k t p h => h.again c k t p
  have HOP : Hid (∀ (l : Bs) (m m' : Kp) (kb cb : Nat) (ca : Array Value) (s : Value) (ps : List Bs) (n : Nat) (bv : Value) (bl : List TS) (w1 : World), l.length ≤ 9223372036854775807 → openK l (confK c true) = (0, some m') → PB w B kb m cb ca s ps n bv bl w1 →
      Calls Tryz.prog 24 #[.string (ofL l), cfgV (confK c true)] w1 fun e w' => ∃ kb', e = .returned (.pointer (some ⟨kb', 0, none⟩)) ∧ PB w B kb' m' cb ca s ps n bv bl w') := fun l m m' kb cb ca s ps n bv bl w1 hl ho h => h.opened hG l c true hl ho
  clear hG hc e0 e1 e2 e3 hst hfu hz hh hzm hhm
  generalize passL topSecret i = P at *
  generalize confK c true = cc at *
  go_enter Tryz.func10, Tryz.ntmps10
  go_wp2_with fail
  refine HCF.out.mono ?_
  rintro e w1 ⟨rfl, hb1⟩
  have HFR : Hid (Calls _ _ _ _ _) := HFRN.out w1 hb1
  clear hb1 HCF HFRN
  unfold cfgV at *
  go_wp2_with fail
  refine HFR.out.mono ?_
  rintro e w2 ⟨kb, rfl, hp2⟩
  have HS1 := hp2.login HG.out 1
  rw [HE1.out] at HS1
  have HS1 : Hid (Calls _ _ _ _ _) := HS1
  clear hp2 HFR HM0 HE1
  generalize w1.heap.size = cb at *
  go_wp2_with fail
  refine HS1.out.mono ?_
  rintro e w3 ⟨rfl, hp3⟩
  have HS2 := hp3.set HG.out P [97] [120] HP.out (by decide) (by decide)
  rw [HE2.out] at HS2
  have HS2 : Hid (Calls Tryz.prog 32 #[.pointer (some ⟨kb, 0, none⟩), .string (ofL P), .string { data := #[97] }, .string { data := #[120] }] w3 _) := HS2
  clear hp3 HS1 HE2
  go_wp2_with fail
  refine HS2.out.mono ?_
  rintro e w4 ⟨rfl, hp4⟩
  have HS3 := hp4.get HG.out P [97] HP.out
  rw [HE3.out] at HS3
  have HS3 : Hid (Calls Tryz.prog 27 #[.pointer (some ⟨kb, 0, none⟩), .string (ofL P), .string { data := #[97] }] w4 fun e w' => e = .returned (.tuple #[.string { data := #[120] }, .int .i64 0]) ∧ PB w B kb m2 cb (cfgA cc) (.slice none 0 0) [] 0 (.slice none 0 0) [] w') := HS3
  clear hp4 HS2 HE3
  go_wp2_with fail
  refine HS3.out.mono ?_
  rintro e w5 ⟨rfl, hp5⟩
  have HP5 : Hid (PB w B kb m2 cb (cfgA cc) _ [P] 1 (.slice none 0 0) [] _) := hp5.lit P HP9.out
  clear hp5 HS3
  go_wp2_with fail
  go_loopw [8, 14, 15] (fun kv sv iv wx => ∃ (kb : Nat) (m : Kp) (T : Tab) (ps : List Bs) (k : Nat), kv = .pointer (some ⟨kb, 0, none⟩) ∧ iv = .int .i64 k ∧ k ≤ 30 ∧ Hid (Calm m T) ∧ Hid (PB w B kb m cb (cfgA cc) sv ps (k + 1) (.slice none 0 0) [] wx)) (fun _ _ iv _ => 30 - (intOf iv).toNat)
  case atStart => exact ⟨kb, m2, _, [P], 0, rfl, rfl, by omega, HCM, HP5⟩
  case round =>
    obtain ⟨kb, m, T, ps, k, rfl, rfl, hk, HM, HPS⟩ := hrel
    clear HP5 HCM
    have HZr : Hid (IntsV wr v0 zs) := HZ.out.below HPS.out.wide
    by_cases hlt : k < zs.length ∧ k < 30
    · obtain ⟨h1, h2⟩ := hlt
      obtain ⟨a, cap, rfl, hz⟩ : ∃ a cap, v0 = .slice (some a) zs.length cap ∧ IntsAt wr a zs := by
        rcases HZr.out with ⟨_, h⟩ | h
        · rw [h] at h1; exact absurd h1 (Nat.not_lt_zero _)
        · exact h
      have cz := hz.cell k h1
      obtain ⟨z, hze⟩ : ∃ z, z = zs.getD k 0 := ⟨_, rfl⟩
      have hrg := hz.rng k h1
      rw [← hze] at cz hrg
      have HAC := HPS.out.act HG.out (by omega) z hrg
      have hCA := HM.out.act (pickN z 1099511627776) ps
      have HRL : Hid ((actK m (pickN z 1099511627776) ps).1.length ≤ 9) := actK_len _ _ _
      have HAC : Hid (Calls _ _ _ _ _) := HAC
      have HCA : Hid (Calm (actK m (pickN z 1099511627776) ps).2.2 _) := hCA
      clear hze hrg hz HZr hCA
      generalize actK m (pickN z 1099511627776) ps = R at *
      obtain ⟨q, er, m'⟩ := R
      go_wp2_with fail
      refine HAC.out.mono ?_
      rintro e w4 ⟨rfl, hp4⟩
      have HP4 : Hid (PB w B kb m' cb (cfgA cc) _ ps (k + 1) (.slice none 0 0) [] w4) := hp4
      clear hp4 HAC HPS cz HM
      generalize m'.st.T = T' at *
      go_upto_if 84 with fail
      go_cut [14] (fun sv wx => ∃ ps', Hid (PB w B kb m' cb (cfgA cc) sv ps' (k + 1 + 1) (.slice none 0 0) [] wx))
      case first =>
        by_cases h0 : q = []
        · have he : (ofL q).toList.isEmpty = true := by rw [emptyL, h0]; rfl
          clear h0
          rw [he]
          go_wp2_with fail
          go_meet
          case rel => exact ⟨ps, HP4.out.more (by omega)⟩
        · have he : (ofL q).toList.isEmpty = false := by rw [emptyL]; cases q with | nil => exact absurd rfl h0 | cons x y => rfl
          clear h0
          rw [he]
          obtain ⟨pl, hpl⟩ : ∃ pl, ps.length = pl := ⟨_, rfl⟩
          have hle : pl ≤ 1000 := by have := HP4.out.le; omega
          obtain ⟨i0, hfacts⟩ := str_push HP4.out.so hpl hle q
          have HF : Hid (_ ∧ _ ∧ _ ∧ _ ∧ _ ∧ _ ∧ _ ∧ _ ∧ _) := hfacts
          have hsh := so_shape HP4.out.so
          rw [hpl] at hsh
          have HLEN : Hid (ps.length = pl) := hpl
          clear hfacts hpl hle
          rcases hsh with ⟨hsv, rfl⟩ | ⟨g0, cap0, hsv⟩
          · subst hsv
            go_wp2_with (at_builtin; refine wpList_append_lies _ rfl _ _ 57 rfl 0 9 i0 (.string ByteArray.empty) 1 16 Tryz.underlying57 HF.out.1 HF.out.2.1 HF.out.2.2.1 HF.out.2.2.2.1 rfl (by decide) _ 0 (flatV strV ps) rfl HF.out.2.2.2.2.1 ⟨w4.heap.size, 0, none⟩ 1 1 [.string (ofL q)] rfl rfl HF.out.2.2.2.2.2.1 HF.out.2.2.2.2.2.2.1 (by decide) HF.out.2.2.2.2.2.2.2.1 HF.out.2.2.2.2.2.2.2.2 (Nat.zero_le _) _ rfl ?_; intro g cap2 w5 hown hgr hloc hlt; have Q3 : Hid (PB w B kb m' cb (cfgA cc) _ _ _ _ _ w5) := PB.pushed HP4.out HRL.out HLEN.out hown hgr hloc hlt; clear hown hgr hloc hlt)
            go_meet
            case rel => exact ⟨_, Q3⟩
          · subst hsv
            go_wp2_with (at_builtin; refine wpList_append_lies _ rfl _ _ 57 rfl 0 9 i0 (.string ByteArray.empty) 1 16 Tryz.underlying57 HF.out.1 HF.out.2.1 HF.out.2.2.1 HF.out.2.2.2.1 rfl (by decide) _ pl (flatV strV ps) rfl HF.out.2.2.2.2.1 ⟨w4.heap.size, 0, none⟩ 1 1 [.string (ofL q)] rfl rfl HF.out.2.2.2.2.2.1 HF.out.2.2.2.2.2.2.1 (by decide) HF.out.2.2.2.2.2.2.2.1 HF.out.2.2.2.2.2.2.2.2 (Nat.zero_le _) _ rfl ?_; intro g cap2 w5 hown hgr hloc hlt; have Q3 : Hid (PB w B kb m' cb (cfgA cc) _ _ _ _ _ w5) := PB.pushed HP4.out HRL.out HLEN.out hown hgr hloc hlt; clear hown hgr hloc hlt)
            go_meet
            case rel => exact ⟨_, Q3⟩
      case rest =>
      obtain ⟨ps', HP5⟩ := hcut
      clear HP4 HRL
      obtain ⟨sv, hsv⟩ : ∃ sv, sv = u14 := ⟨_, rfl⟩
      subst hsv
      have HTD : Hid (Calls _ _ _ _ _) := HP5.out.told HG.out (by omega)
      go_wp2_with fail
      refine HTD.out.mono ?_
      rintro e w6 ⟨bv, rfl, hp6⟩
      have HP6 : Hid (PB w B kb m' cb (cfgA cc) sv ps' (k + 1 + 1) bv (tolds m' ps') w6) := hp6
      have HLV := hp6.live
      rw [HCA.out.live] at HLV
      have HLV : Hid (Calls Tryz.prog 25 #[.pointer (some ⟨kb, 0, none⟩)] w6 fun e w' => e = .returned (.tuple #[.int .i64 (T'.live : Nat), .int .i64 0]) ∧ w' = w6) := HLV
      clear hp6 HTD HP5
      go_wp2_with fail
      refine HLV.out.mono ?_
      rintro e w' ⟨rfl, hw'⟩
      subst w'
      clear HLV
      go_upto_if 99 with fail
      go_cut [21] (fun hv wx => ∃ hn : Nat, hn < 4 ∧ hv = .int .i64 hn ∧ wx = w6)
      case first =>
        by_cases hl : 0 < hs.length
        · obtain ⟨b2, cap2, rfl, hy⟩ : ∃ a cap, v2 = .slice (some a) hs.length cap ∧ IntsAt w6 a hs := by
            rcases HH.out.below HP6.out.wide with ⟨_, h⟩ | h
            · rw [h] at hl; exact absurd hl (Nat.not_lt_zero _)
            · exact h
          have hj : k % hs.length < hs.length := Nat.mod_lt _ hl
          have cy := hy.cell (k % hs.length) hj
          obtain ⟨y, hye⟩ : ∃ y, y = hs.getD (k % hs.length) 0 := ⟨_, rfl⟩
          have hrg := hy.rng (k % hs.length) hj
          rw [← hye] at cy hrg
          have HPK : Hid (∀ w', Calls Tryz.prog 15 #[.int .i64 y, .int .i64 (4 : Nat)] w' fun e w'' => e = .returned (.int .i64 (pickN y 4)) ∧ w'' = w') := fun w' => pick_any y 4 w' hrg.1 hrg.2 (by decide)
          have hp4 := pickN_lt y (n := 4) (by decide)
          have f1 : (k : Int).tmod (hs.length : Int) = ((k % hs.length : Nat) : Int) := rfl
          have f2 : ((hs.length : Int) == 0) = false := by rw [Bool.eq_false_iff]; intro h; rw [beq_iff_eq] at h; omega
          clear hye hrg hy
          generalize pickN y 4 = py at *
          generalize k % hs.length = j at *
          go_wp2_with fail
          refine (HPK.out _).mono ?_
          rintro e w' ⟨rfl, hw'⟩
          subst w'
          go_wp2_with fail
          go_meet
          case rel => exact ⟨py, hp4, rfl, rfl⟩
        · have hl0 : hs.length = 0 := by omega
          go_wp2_with fail
          go_meet
          case rel => exact ⟨0, by omega, rfl, rfl⟩
      case rest =>
      obtain ⟨hn, hn4, rfl, rfl⟩ := hcut
      clear lh HH lz
      obtain ⟨w6, hw6⟩ : ∃ w6, w6 = wc := ⟨_, rfl⟩
      subst hw6
      go_upto_region 22 with fail
      go_cut [113] (fun tv wx => tv = .bool (decide (hn = 1 ∨ hn = 2)) ∧ wx = w6)
      case first =>
        obtain rfl | rfl | rfl | rfl : hn = 0 ∨ hn = 1 ∨ hn = 2 ∨ hn = 3 := by omega
        all_goals
          go_wp2_with fail
          go_meet
          case rel => exact ⟨rfl, rfl⟩
      case rest =>
      obtain ⟨rfl, rfl⟩ := hcut
      obtain ⟨w6, hw6⟩ : ∃ w6, w6 = wc := ⟨_, rfl⟩
      subst hw6
      go_upto_if 113 with fail
      go_cut [] (fun wx => ∃ m2, Hid (Calm m2 T') ∧ Hid (PB w B kb m2 cb (cfgA cc) sv ps' (k + 1 + 1) bv (tolds m' ps') wx))
      case first =>
        obtain ⟨hc1, hc2⟩ := HCA.out.compact
        have HCC : Hid (Calm m'.compact.2 T') := hc2
        have HCK : Hid (Calls _ _ _ _ _) := HP6.out.compact HG.out
        have hcd : ∃ cn : Nat, m'.compact.1 = cn ∧ (cn = 0 ∨ cn = 9) := ⟨_, rfl, hc1⟩
        obtain ⟨cn, hcn, hc9⟩ := hcd
        rw [hcn] at HCK
        clear hc1 hc2 hcn
        generalize m'.compact.2 = mc at *
        obtain rfl | rfl | rfl | rfl : hn = 0 ∨ hn = 1 ∨ hn = 2 ∨ hn = 3 := by omega
        · clear HCK hc9
          go_wp2_with fail
          go_meet
          case rel => exact ⟨m', HCA, HP6⟩
        · rcases hc9 with rfl | rfl
          all_goals
            go_wp2_with fail
            refine HCK.out.mono ?_
            rintro e w7 ⟨rfl, hp7⟩
            have HP7 : Hid (PB w B kb mc cb (cfgA cc) sv ps' (k + 1 + 1) bv (tolds m' ps') w7) := hp7
            clear hp7 HCK
            go_wp2_with fail
            go_meet
            case rel => exact ⟨mc, HCC, HP7⟩
        · rcases hc9 with rfl | rfl
          all_goals
            go_wp2_with fail
            refine HCK.out.mono ?_
            rintro e w7 ⟨rfl, hp7⟩
            have HP7 : Hid (PB w B kb mc cb (cfgA cc) sv ps' (k + 1 + 1) bv (tolds m' ps') w7) := hp7
            clear hp7 HCK
            go_wp2_with fail
            go_meet
            case rel => exact ⟨mc, HCC, HP7⟩
        · clear HCK hc9
          go_wp2_with fail
          go_meet
          case rel => exact ⟨m', HCA, HP6⟩
      case rest =>
      obtain ⟨m2, HC2, HP8⟩ := hcut
      clear HP6
      obtain ⟨w8, hw8⟩ : ∃ w8, w8 = wc := ⟨_, rfl⟩
      subst hw8
      go_upto_if 123 with fail
      go_cut [8] (fun kv wx => ∃ kb3 m3, kv = .pointer (some ⟨kb3, 0, none⟩) ∧ Hid (Calm m3 T') ∧ Hid (PB w B kb3 m3 cb (cfgA cc) sv ps' (k + 1 + 1) bv (tolds m' ps') wx))
      case first =>
        obtain rfl | rfl | rfl | rfl : hn = 0 ∨ hn = 1 ∨ hn = 2 ∨ hn = 3 := by omega
        · go_wp2_with fail
          go_meet
          case rel => exact ⟨kb, m2, rfl, HC2, HP8⟩
        · go_wp2_with fail
          go_meet
          case rel => exact ⟨kb, m2, rfl, HC2, HP8⟩
        · obtain ⟨m3, ho3, hc3⟩ := HAG.out m2 T' 2 2 2 HC2.out
          have hpd : PB w B kb m2 cb (cfgA cc) sv ps' (k + 1 + 1) bv (tolds m' ps') w8.drew := HP8.out.below (Below.refl _ _).drew
          obtain ⟨q0, q1, q2, q3, q4⟩ := cf_cells hpd.cf
          have HLF : Hid (Calls Tryz.prog 23 #[.pointer (some ⟨kb, 0, none⟩), .int .i64 2, .int .i64 2, .int .i64 2] w8.drew _) := hpd.left 2 2 2 (by decide) (by decide)
          have HON : Hid (∀ w', PB w B kb m2 cb (cfgA cc) sv ps' (k + 1 + 1) bv (tolds m' ps') w' → Calls Tryz.prog 24 #[.string (ofL (m2.left 2 2 2)), .agg #[.string (ofL cc.secret), .int .i64 cc.seed, .int .i64 cc.idle, .int .i64 cc.abs, .int .i64 cc.now]] w' fun e w'' => ∃ kb', e = .returned (.pointer (some ⟨kb', 0, none⟩)) ∧ PB w B kb' m3 cb (cfgA cc) sv ps' (k + 1 + 1) bv (tolds m' ps') w'') := fun w' h => HOP.out _ m2 m3 kb cb (cfgA cc) sv ps' _ bv _ w' (good_left_len HC2.out.st.good _ _ _) ho3 h
          have HC3 : Hid (Calm m3 T') := hc3
          clear hpd ho3 hc3
          generalize m2.left 2 2 2 = L at *
          go_wp2_with fail
          go_region_with (first
            | (go_at_call 23; refine HLF.out.mono ?_; rintro e w9 ⟨rfl, hp9⟩; obtain ⟨r0, r1, r2, r3, r4⟩ := cf_cells hp9.cf)
            | (go_at_call 24; refine (HON.out _ (by assumption)).mono ?_; rintro e w10 ⟨kb3, rfl, hp10⟩))
          all_goals
            have HP10 : Hid (PB w B kb3 m3 cb (cfgA cc) sv ps' (k + 1 + 1) bv (tolds m' ps') w10) := hp10
            clear hp10 HLF HON q0 q1 q2 q3 q4
            go_wp2_with fail
            go_meet
            case rel => exact ⟨kb3, m3, rfl, HC3, HP10⟩
        · obtain ⟨m3, ho3, hc3⟩ := HAG.out m2 T' 3 3 3 HC2.out
          have hpd : PB w B kb m2 cb (cfgA cc) sv ps' (k + 1 + 1) bv (tolds m' ps') w8.drew := HP8.out.below (Below.refl _ _).drew
          obtain ⟨q0, q1, q2, q3, q4⟩ := cf_cells hpd.cf
          have HLF : Hid (Calls Tryz.prog 23 #[.pointer (some ⟨kb, 0, none⟩), .int .i64 3, .int .i64 3, .int .i64 3] w8.drew _) := hpd.left 3 3 3 (by decide) (by decide)
          have HON : Hid (∀ w', PB w B kb m2 cb (cfgA cc) sv ps' (k + 1 + 1) bv (tolds m' ps') w' → Calls Tryz.prog 24 #[.string (ofL (m2.left 3 3 3)), .agg #[.string (ofL cc.secret), .int .i64 cc.seed, .int .i64 cc.idle, .int .i64 cc.abs, .int .i64 cc.now]] w' fun e w'' => ∃ kb', e = .returned (.pointer (some ⟨kb', 0, none⟩)) ∧ PB w B kb' m3 cb (cfgA cc) sv ps' (k + 1 + 1) bv (tolds m' ps') w'') := fun w' h => HOP.out _ m2 m3 kb cb (cfgA cc) sv ps' _ bv _ w' (good_left_len HC2.out.st.good _ _ _) ho3 h
          have HC3 : Hid (Calm m3 T') := hc3
          clear hpd ho3 hc3
          generalize m2.left 3 3 3 = L at *
          go_wp2_with fail
          go_region_with (first
            | (go_at_call 23; refine HLF.out.mono ?_; rintro e w9 ⟨rfl, hp9⟩; obtain ⟨r0, r1, r2, r3, r4⟩ := cf_cells hp9.cf)
            | (go_at_call 24; refine (HON.out _ (by assumption)).mono ?_; rintro e w10 ⟨kb3, rfl, hp10⟩))
          all_goals
            have HP10 : Hid (PB w B kb3 m3 cb (cfgA cc) sv ps' (k + 1 + 1) bv (tolds m' ps') w10) := hp10
            clear hp10 HLF HON q0 q1 q2 q3 q4
            go_wp2_with fail
            go_meet
            case rel => exact ⟨kb3, m3, rfl, HC3, HP10⟩
      case rest =>
      obtain ⟨kb3, m3, rfl, HC3, HP9⟩ := hcut
      clear HP8 HC2
      obtain ⟨w9, hw9⟩ : ∃ w9, w9 = wc := ⟨_, rfl⟩
      subst hw9
      have HTL : Hid (Calls _ _ _ _ _) := HP9.out.tell HG.out (by omega)
      go_wp2_with fail
      refine HTL.out.mono ?_
      rintro e w10 ⟨nv, rfl, hp10, hto, hb10⟩
      have HP10 : Hid (PB w B kb3 m3 cb (cfgA cc) sv ps' (k + 1 + 1) bv (tolds m' ps') w10) := hp10
      have HLV := hp10.live
      rw [HC3.out.live] at HLV
      have HLV : Hid (Calls Tryz.prog 25 #[.pointer (some ⟨kb3, 0, none⟩)] w10 fun e w' => e = .returned (.tuple #[.int .i64 (T'.live : Nat), .int .i64 0]) ∧ w' = w10) := HLV
      have hsm := same_any nv bv (tolds m3 ps') (tolds m' ps') w10 hto hp10.tl (by rw [tolds_length]; have := hp10.le; omega)
      rw [HCA.out.tolds HC3.out ps', decide_eq_true rfl] at hsm
      have HSM : Hid (Calls _ _ _ _ _) := hsm
      clear hp10 HTL HP9 hto hb10 hsm
      go_wp2_with fail
      refine HLV.out.mono ?_
      rintro e w' ⟨rfl, hw'⟩
      subst w'
      clear HLV
      go_wp2_with fail
      refine HSM.out.mono ?_
      rintro e w11 ⟨rfl, hb11⟩
      have HP11 : Hid (PB w B kb3 m3 cb (cfgA cc) sv ps' (k + 1 + 1) (.slice none 0 0) [] w11) := (HP10.out.below hb11).drop
      clear hb11 HSM HP10
      generalize T'.live = lv at *
      go_wp2_with fail
      go_roundw
      case rel => exact ⟨kb3, m3, T', ps', k + 1, rfl, by go_num, h2, HC3, HP11⟩
      case measure => simp [intOf]; omega
    · have HB : Hid (Below w.heap.size w wr) := HPS.out.wide
      clear HPS HZr HZ
      by_cases h1 : k < zs.length
      · have h2 : ¬ k < 30 := fun h => hlt ⟨h1, h⟩
        clear hlt
        go_wp2_with fail
        go_ret
        exact ⟨rfl, HB.out⟩
      · clear hlt
        go_wp2_with fail
        go_ret
        exact ⟨rfl, HB.out⟩
end Go.Proofs.YtmnajomkfnkmeaaGreatDoor
