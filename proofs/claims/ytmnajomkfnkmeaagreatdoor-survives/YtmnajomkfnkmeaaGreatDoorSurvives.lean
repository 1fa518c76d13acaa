import Derived.Test.YtmnajomkfnkmeaaGreatDoorPb
import Derived.Test.YtmnajomkfnkmeaaGreatDoorKeep3
import Derived.Deep.DeepCutAuto
import Derived.Deep.AppendLies
import Derived.Deep.CutBlock
import Derived.Deep.RegionWith
namespace Go.Proofs.YtmnajomkfnkmeaaGreatDoor
open Go.RowKit Go.Conc
attribute [local go_sem] ofL_size
theorem PB.opened2 {w0 : World} {B kb : Nat} {m m' : Kp} {cb : Nat} {ca : Array Value} {s : Value} {ps : List Bs} {n : Nat} {bv : Value} {bl : List TS} {G : Gl} {w : World} (h : PB w0 B kb m cb ca s ps n bv bl w) (hG : Glob B G w0) (l : Bs) (c : Int) (long : Bool) (hl : l.length ≤ 9223372036854775807) (hm : openK l (confK c long) = (0, some m')) :
    Calls Tryz.prog 24 #[.string (ofL l), cfgV (confK c long)] w fun e w' => ∃ kb', e = .returned (.pointer (some ⟨kb', 0, none⟩)) ∧ PB w0 B kb' m' cb ca s ps n bv bl w' ∧ Below w.heap.size w w' := by
  have := opened_any l (confK c long) B G w hl (by show (10 : Nat) ≤ _; decide) (DigitsBelow hG h.ka.wide)
  rw [hm] at this
  refine this.mono fun e w' hh => ?_
  obtain ⟨kb', h1, h2, h3⟩ := h.ka.opened hh
  obtain ⟨_, _, _, _, hb, _⟩ := hh
  exact ⟨kb', h1, h.moved h2 h3, hb⟩
set_option maxRecDepth 100000 in
set_option maxHeartbeats 16000000 in
theorem survives_any (c n keep torn part : Int) (v0 : Value) (zs : List Int) (B : Nat) (G : Gl) (w : World) (hc : -9223372036854775808 ≤ c ∧ c ≤ 9223372036854775807) (hn : -9223372036854775808 ≤ n ∧ n ≤ 9223372036854775807) (hkp : -9223372036854775808 ≤ keep ∧ keep ≤ 9223372036854775807) (htn : -9223372036854775808 ≤ torn ∧ torn ≤ 9223372036854775807) (hpt : -9223372036854775808 ≤ part ∧ part ≤ 9223372036854775807)
    (hz : IntsV w v0 zs) (hzm : zs.length ≤ maxLen) (hG : Glob B G w) :
    Calls Tryz.prog 11 #[v0, .int .i64 c, .int .i64 n, .int .i64 keep, .int .i64 torn, .int .i64 part] w fun e w' => e = .returned (.bool true) ∧ Below w.heap.size w w' := by
  have HG : Hid (Glob B G w) := hG
  have HZ : Hid (IntsV w v0 zs) := hz
  have HKP : Hid (-9223372036854775808 ≤ keep ∧ keep ≤ 9223372036854775807) := hkp
  have HPT : Hid (-9223372036854775808 ≤ part ∧ part ≤ 9223372036854775807) := hpt
  have lz : ∀ w', Sem.run Tryz.prog (Builtin.len_ #[52] 3 #[v0]) w' = .ok (.int .i64 (zs.length : Int)) w' := by
    rcases hz with ⟨rfl, rfl⟩ | ⟨a, cap, rfl, _⟩
    · intro w'; simp [go_sem]
    · intro w'; simp [go_sem]
  have hp1 := pickN_lt c (n := 60) (by decide)
  have hp2 := pickN_lt n (n := 60) (by decide)
  obtain ⟨m0, m1, i, e0, e1, hst, hfu, -, -, -⟩ := survives_start c (12 + pickN c 60) (by omega) (by omega)
  have HPC : Hid (∀ w', Calls Tryz.prog 15 #[.int .i64 c, .int .i64 (60 : Nat)] w' fun e w'' => e = .returned (.int .i64 (pickN c 60)) ∧ w'' = w') := fun w' => pick_any c 60 w' hc.1 hc.2 (by decide)
  have HPN : Hid (∀ w', Calls Tryz.prog 15 #[.int .i64 n, .int .i64 (60 : Nat)] w' fun e w'' => e = .returned (.int .i64 (pickN n 60)) ∧ w'' = w') := fun w' => pick_any n 60 w' hn.1 hn.2 (by decide)
  have HPTN : Hid (∀ w', Calls Tryz.prog 15 #[.int .i64 torn, .int .i64 (8 : Nat)] w' fun e w'' => e = .returned (.int .i64 (pickN torn 8)) ∧ w'' = w') := fun w' => pick_any torn 8 w' htn.1 htn.2 (by decide)
  have HCF : Hid (Calls Tryz.prog 26 #[.int .i64 c, .bool true] w fun e w' => e = .returned (cfgV (confK c true)) ∧ Below w.heap.size w w') := config_any c true w hc.1 hc.2
  have HP : Hid ((passL topSecret i).length ≤ 9) := Nat.le_of_eq (passL_len _ _)
  have hp9 : (passL topSecret i).length = 9 := passL_len _ _
  have HE1 : Hid (m0.login 1 = (passL topSecret i, 0, m1)) := e1
  have HST1 : Hid (Steady m1) := hst
  have HFRN : Hid (∀ w1, Below w.heap.size w w1 → Calls Tryz.prog 18 #[.int .i64 ((12 : Int) + (pickN c 60 : Nat)), cfgV (confK c true)] ((w1.alloc (.cells (cfgA (confK c true)) 23)).drew) fun e w' => ∃ kb, e = .returned (.pointer (some ⟨kb, 0, none⟩)) ∧ PB w B kb m0 w1.heap.size (cfgA (confK c true)) (.slice none 0 0) [] 0 (.slice none 0 0) [] w') := fun w1 hb1 => by
    have := pb_fresh w (12 + pickN c 60) c true B G ((w1.alloc (.cells (cfgA (confK c true)) 23)).drew) m0 w1.heap.size (cfgA (confK c true)) (by omega) (by omega) (hb1.alloc hb1.size _).drew hb1.size (Blk.new _ _ _).drew hG e0
    rwa [show ((12 + pickN c 60 : Nat) : Int) = (12 : Int) + (pickN c 60 : Nat) by omega] at this
  have HOP : Hid (∀ (l : Bs) (m m' : Kp) (kb cb : Nat) (ca : Array Value) (s : Value) (ps : List Bs) (n : Nat) (bv : Value) (bl : List TS) (w1 : World), l.length ≤ 9223372036854775807 → openK l (confK c true) = (0, some m') → PB w B kb m cb ca s ps n bv bl w1 →
      Calls Tryz.prog 24 #[.string (ofL l), cfgV (confK c true)] w1 fun e w' => ∃ kb', e = .returned (.pointer (some ⟨kb', 0, none⟩)) ∧ PB w B kb' m' cb ca s ps n bv bl w' ∧ Below w1.heap.size w1 w') := fun l m m' kb cb ca s ps n bv bl w1 hl ho h => h.opened2 hG l c true hl ho
  have HTOP : Hid (∀ (m m' : Kp) (t : Int), Steady m → Lost m.disk m.st m' → (m'.left keep t part).length = m.disk.length ∧ (m'.left (-1) (-1) 0).length = m.disk.length ∧ (¬ forgedB (m'.left keep t part) m.disk (m'.left (-1) (-1) 0) → headsOf (m'.left keep t part) m.disk (m'.left (-1) (-1) 0) →
      ∃ x wk, openK (m'.left keep t part) (confK c true) = (0, some x) ∧ openK (m'.left (-1) (-1) 0) (confK c true) = (0, some wk) ∧ Steady x ∧ Steady wk ∧ x.fuse = 0 ∧ wk.fuse = 0 ∧ (x.st.T = m.st.T ∨ x.st.T = wk.st.T))) := fun m m' t h hl => by
    obtain ⟨l1, l2, _⟩ := hl.left keep t part
    exact ⟨l1, l2, fun h1 h2 => steady_lost h hl c keep t part h1 h2⟩
  clear hG hc e0 e1 hst hfu hz hzm hn hkp htn hpt
  generalize passL topSecret i = P at *
  generalize confK c true = cc at *
  generalize pickN c 60 = pc at *
  generalize pickN n 60 = pn at *
  generalize pickN torn 8 = pt at *
  have hw12 : IntKind.i64.wrap ((12 : Int) + (pc : Int)) = (12 : Int) + (pc : Int) := by rw [IntKind.wrap_i64]; omega
  go_enter Tryz.func11, Tryz.ntmps11
  go_wp2_with fail
  refine HCF.out.mono ?_
  rintro e w1 ⟨rfl, hb1⟩
  have HFR : Hid (Calls _ _ _ _ _) := HFRN.out w1 hb1
  have HB1 : Hid (Below w.heap.size w w1) := hb1
  clear hb1 HCF HFRN
  unfold cfgV at *
  go_upto_region 2 with fail
  go_cut [14] (fun kv wx => ∃ kb, kv = .pointer (some ⟨kb, 0, none⟩) ∧ Hid (PB w B kb m0 w1.heap.size (cfgA cc) (.slice none 0 0) [] 0 (.slice none 0 0) [] wx))
  case first =>
    go_region_with (first
      | (go_at_call 15; refine (HPC.out _).mono ?_; rintro e w' ⟨rfl, hw'⟩; subst w')
      | (go_at_call 18; refine HFR.out.mono ?_; rintro e w2 ⟨kb, rfl, hp2⟩))
    all_goals
      have HP2 : Hid (PB w B kb m0 w1.heap.size (cfgA cc) (.slice none 0 0) [] 0 (.slice none 0 0) [] w2) := hp2
      clear hp2
      go_wp2_with fail
      go_meet
      case rel => exact ⟨kb, rfl, HP2⟩
  case rest =>
  obtain ⟨kb, rfl, HP2⟩ := hcut
  clear HFR HPC hw12
  generalize w1.heap.size = cb at *
  have HS1 := HP2.out.login HG.out 1
  rw [HE1.out] at HS1
  have HS1 : Hid (Calls _ _ _ _ _) := HS1
  clear HE1
  go_wp2_with fail
  refine HS1.out.mono ?_
  rintro e w3 ⟨rfl, hp3⟩
  have HP3 : Hid (PB w B kb m1 cb (cfgA cc) _ [P] 1 (.slice none 0 0) [] _) := hp3.lit P HP.out
  clear hp3 HS1 HP2
  have HAR : Hid (Calls _ _ _ _ _) := HP3.out.arm ((1 : Int) + (pn : Int)) (by omega) HG.out.le
  go_wp2_with fail
  refine (HPN.out _).mono ?_
  rintro e w' ⟨rfl, hw'⟩
  subst w'
  clear HPN
  go_wp2_with fail
  refine HAR.out.mono ?_
  rintro e w4 ⟨rfl, hp4⟩
  have HP4 : Hid (PB w B kb (m1.arm ((1 : Int) + (pn : Int))) cb (cfgA cc) _ [P] 1 (.slice none 0 0) [] w4) := hp4
  have HST2 : Hid (Steady (m1.arm ((1 : Int) + (pn : Int)))) := (steady_arm HST1.out _).1
  clear hp4 HAR HP3
  generalize m1.arm ((1 : Int) + (pn : Int)) = m2 at *
  go_wp2_with fail
  go_loopw [17, 18] (fun sv iv wx => ∃ (m : Kp) (ps : List Bs) (k : Nat), iv = .int .i64 k ∧ k ≤ 30 ∧ Hid (Steady m) ∧ Hid (PB w B kb m cb (cfgA cc) sv ps (k + 1) (.slice none 0 0) [] wx)) (fun _ iv _ => 30 - (intOf iv).toNat)
  case atStart => exact ⟨m2, [P], 0, rfl, by omega, HST2, HP4⟩
  case round =>
    obtain ⟨m, ps, k, rfl, hk, HM, HPS⟩ := hrel
    clear HP4 HST2
    have HZr : Hid (IntsV wr v0 zs) := by
      rcases HZ.out with h | ⟨a, cap, h1, h2⟩
      · exact Or.inl h
      · exact Or.inr ⟨a, cap, h1, h2.below HPS.out.wide⟩
    by_cases hlt : k < zs.length ∧ k < 30
    · obtain ⟨h1, h2⟩ := hlt
      obtain ⟨a, cap, rfl, hz⟩ : ∃ a cap, v0 = .slice (some a) zs.length cap ∧ IntsAt wr a zs := by
        rcases HZr.out with ⟨_, h⟩ | h
        · rw [h] at h1; exact absurd h1 (Nat.not_lt_zero _)
        · exact h
      obtain ⟨z, hze⟩ : ∃ z, z = zs.getD k 0 := ⟨_, rfl⟩
      have hrg := hz.rng k h1
      rw [← hze] at hrg
      have HCZ : Hid (∀ w', Below w.heap.size w w' → w'.cell? (a.add k) = some (.int .i64 z)) := fun w' hb => by
        rcases HZ.out with ⟨h, _⟩ | ⟨a', cap', h3, h4⟩
        · cases h
        · simp only [Value.slice.injEq, Option.some.injEq] at h3
          obtain ⟨rfl, -, -⟩ := h3
          rw [hze]
          exact (h4.below hb).cell k h1
      obtain ⟨sv, hsv⟩ : ∃ sv, sv = u17 := ⟨_, rfl⟩
      subst hsv
      have HTD : Hid (Calls _ _ _ _ _) := HPS.out.told HG.out (by omega)
      go_wp2_with fail
      refine HTD.out.mono ?_
      rintro e w4 ⟨bv, rfl, hp4⟩
      have HP4 : Hid (PB w B kb m cb (cfgA cc) sv ps (k + 1) bv (tolds m ps) w4) := hp4
      have HLF : Hid (Calls Tryz.prog 23 #[.pointer (some ⟨kb, 0, none⟩), .int .i64 0, .int .i64 (-1), .int .i64 0] w4 _) := hp4.left 0 (-1) 0 (by decide) (by decide)
      have hlu : m.left 0 (-1) 0 = m.disk := left_up HM.out.good _ _ _
      rw [hlu] at HLF
      clear hp4 HTD HPS hlu
      go_wp2_with fail
      refine HLF.out.mono ?_
      rintro e w5 ⟨rfl, hp5⟩
      have HP5 : Hid (PB w B kb m cb (cfgA cc) sv ps (k + 1) bv (tolds m ps) w5) := hp5
      have cz := HCZ.out w5 hp5.wide
      have HAC := hp5.act HG.out (by omega) z hrg
      have hsa := steady_act HM.out (pickN z 1099511627776) ps
      have HRL : Hid ((actK m (pickN z 1099511627776) ps).1.length ≤ 9) := actK_len _ _ _
      have HAC : Hid (Calls _ _ _ _ _) := HAC
      clear hze hrg hz HZr hp5 HLF HP4 HCZ
      generalize actK m (pickN z 1099511627776) ps = R at *
      obtain ⟨q, er, m'⟩ := R
      have HSA : Hid ((er = 4 ∧ m.fuse ≠ 0 ∧ Lost m.disk m.st m') ∨ ((er = 0 ∨ er = 5 ∨ er = 6 ∨ er = 8 ∨ er = 9) ∧ Steady m' ∧ (m.fuse = 0 → m'.fuse = 0))) := hsa
      clear hsa
      go_wp2_with fail
      refine HAC.out.mono ?_
      rintro e w6 ⟨rfl, hp6⟩
      have HP6 : Hid (PB w B kb m' cb (cfgA cc) sv ps (k + 1) bv (tolds m ps) w6) := hp6
      clear hp6 HAC HP5 cz
      rcases HSA.out with ⟨h4, -, hlost⟩ | ⟨hco, hst8, -⟩
      · subst h4
        have HLO : Hid (Lost m.disk m.st m') := hlost
        clear hlost HSA HRL
        obtain ⟨l1, l2, htop⟩ := HTOP.out m m' (pt : Int) HM.out HLO.out
        have hsz := HM.out.good.holds.size
        unfold okSize at hsz
        have HL1 : Hid (Calls Tryz.prog 23 #[.pointer (some ⟨kb, 0, none⟩), .int .i64 (-1), .int .i64 (-1), .int .i64 0] w6 _) := HP6.out.left (-1) (-1) 0 (by decide) (by decide)
        have HL2 : Hid (∀ w', PB w B kb m' cb (cfgA cc) sv ps (k + 1) bv (tolds m ps) w' → Calls Tryz.prog 23 #[.pointer (some ⟨kb, 0, none⟩), .int .i64 keep, .int .i64 (pt : Int), .int .i64 part] w' fun e w'' => e = .returned (.string (ofL (m'.left keep (pt : Int) part))) ∧ PB w B kb m' cb (cfgA cc) sv ps (k + 1) bv (tolds m ps) w'') := fun w' h => h.left keep (pt : Int) part HKP.out HPT.out
        have HTP : Hid (_ → _ → _) := htop
        have hlm : m.disk.length ≤ 1000000 := by omega
        have hl64 : 64 ≤ m.disk.length := by omega
        have HTS : Hid (∀ x wk : Kp, Steady x → Steady wk → (x.st.T = m.st.T ∨ x.st.T = wk.st.T) → tolds x ps = tolds m ps ∨ tolds x ps = tolds wk ps) := fun x wk hx hw ht => by
          rcases ht with ht | ht
          · exact Or.inl (tolds_same HM.out hx ht ps)
          · exact Or.inr (tolds_same hw hx ht ps)
        clear htop hsz
        generalize m'.left keep (pt : Int) part = LL at *
        generalize m'.left (-1) (-1) 0 = LA at *
        generalize tolds m ps = TM at *
        generalize m.disk = D at *
        have HFO : Hid (∀ w', Calls Tryz.prog 36 #[.string (ofL LL), .string (ofL D), .string (ofL LA)] w' fun e w'' => (∃ b : Bool, e = .returned (.bool b) ∧ (b = true ↔ forgedB LL D LA)) ∧ Below w'.heap.size w' w'') := fun w' => forged_any LL D LA w' (by omega) (by omega) (by omega)
        have HHD : Hid (∀ w', Calls Tryz.prog 37 #[.string (ofL LL), .string (ofL D), .string (ofL LA)] w' fun e w'' => (∃ b : Bool, e = .returned (.bool b) ∧ (b = true ↔ headsOf LL D LA)) ∧ Below w'.heap.size w' w'') := fun w' => head_two LL D LA w' (by omega) (by omega) (by omega)
        have HLL : Hid (LL.length ≤ 9223372036854775807) := by show _ ≤ _; omega
        have HLA : Hid (LA.length ≤ 9223372036854775807) := by show _ ≤ _; omega
        clear l1 l2 hlm hl64 HLO HM
        go_wp2_with fail
        refine HL1.out.mono ?_
        rintro e w7 ⟨rfl, hp7⟩
        have HP7 : Hid (PB w B kb m' cb (cfgA cc) sv ps (k + 1) bv TM w7) := hp7
        clear hp7 HL1 HP6
        go_wp2_with fail
        refine (HPTN.out _).mono ?_
        rintro e w' ⟨rfl, hw'⟩
        subst w'
        go_wp2_with fail
        refine (HL2.out _ HP7.out).mono ?_
        rintro e w8 ⟨rfl, hp8⟩
        have HP8 : Hid (PB w B kb m' cb (cfgA cc) sv ps (k + 1) bv TM w8) := hp8
        clear hp8 HL2 HP7
        go_wp2_with fail
        refine (HFO.out _).mono ?_
        rintro e w9 ⟨⟨b1, rfl, hb1⟩, hbl9⟩
        have HP9 : Hid (PB w B kb m' cb (cfgA cc) sv ps (k + 1) bv TM w9) := HP8.out.below hbl9
        have HF1 : Hid (b1 = true ↔ forgedB LL D LA) := hb1
        clear hb1 hbl9 HFO HP8
        go_wp2_with fail
        refine (HHD.out _).mono ?_
        rintro e w10 ⟨⟨b2, rfl, hb2⟩, hbl10⟩
        have HP10 : Hid (PB w B kb m' cb (cfgA cc) sv ps (k + 1) bv TM w10) := HP9.out.below hbl10
        have HF2 : Hid (b2 = true ↔ headsOf LL D LA) := hb2
        clear hb2 hbl10 HHD HP9
        cases b1 with
        | true =>
          go_wp2_with fail
          go_ret
          exact ⟨rfl, HP10.out.wide⟩
        | false =>
          cases b2 with
          | false =>
            go_wp2_with fail
            go_ret
            exact ⟨rfl, HP10.out.wide⟩
          | true =>
            obtain ⟨x, wk, ho1, ho2, sx, sw, fx, fw, ht⟩ := HTP.out (fun h => by have := HF1.out.2 h; cases this) (HF2.out.1 rfl)
            have HTE : Hid (tolds x ps = TM ∨ tolds x ps = tolds wk ps) := HTS.out x wk sx sw ht
            have HO1 : Hid (∀ w', PB w B kb m' cb (cfgA cc) sv ps (k + 1) bv TM w' → Calls Tryz.prog 24 #[.string (ofL LA), .agg #[.string (ofL cc.secret), .int .i64 cc.seed, .int .i64 cc.idle, .int .i64 cc.abs, .int .i64 cc.now]] w' fun e w'' => ∃ kb', e = .returned (.pointer (some ⟨kb', 0, none⟩)) ∧ PB w B kb' wk cb (cfgA cc) sv ps (k + 1) bv TM w'' ∧ Below w'.heap.size w' w'') := fun w' h => HOP.out LA m' wk kb cb (cfgA cc) sv ps _ bv _ w' HLA.out ho2 h
            have HO2 : Hid (∀ kb1 w', PB w B kb1 wk cb (cfgA cc) sv ps (k + 1) bv TM w' → Calls Tryz.prog 24 #[.string (ofL LL), .agg #[.string (ofL cc.secret), .int .i64 cc.seed, .int .i64 cc.idle, .int .i64 cc.abs, .int .i64 cc.now]] w' fun e w'' => ∃ kb', e = .returned (.pointer (some ⟨kb', 0, none⟩)) ∧ PB w B kb' x cb (cfgA cc) sv ps (k + 1) bv TM w'' ∧ Below w'.heap.size w' w'') := fun kb1 w' h => HOP.out LL wk x kb1 cb (cfgA cc) sv ps _ bv _ w' HLL.out ho1 h
            have HLG : Hid (((x.login 9).2.1 = 0 ∧ (x.login 9).1 ≠ []) ∨ (x.login 9).2.1 = 8 ∨ (x.login 9).2.1 = 9) := steady_login sx fx 9 (by decide)
            obtain ⟨c0, c1, c2, c3, c4⟩ := cf_cells HP10.out.cf
            clear ho1 ho2 sx sw fx fw ht HTP HF1 HF2 HTS HOP HTOP
            go_wp2_with fail
            refine (HO1.out _ HP10.out).mono ?_
            rintro e w11 ⟨kbW, rfl, hpw, -⟩
            have HPW : Hid (PB w B kbW wk cb (cfgA cc) sv ps (k + 1) bv TM w11) := hpw
            clear hpw HO1 HP10 c0 c1 c2 c3 c4
            obtain ⟨c0, c1, c2, c3, c4⟩ := cf_cells HPW.out.cf
            go_wp2_with fail
            refine (HO2.out _ _ HPW.out).mono ?_
            rintro e w12 ⟨kbX, rfl, hpx, hbl⟩
            have HPX : Hid (PB w B kbX x cb (cfgA cc) sv ps (k + 1) bv TM w12) := hpx
            have HPW2 : Hid (PB w B kbW wk cb (cfgA cc) sv ps (k + 1) bv TM w12) := HPW.out.below hbl
            clear hpx hbl HO2 HPW c0 c1 c2 c3 c4
            have HT1 : Hid (Calls _ _ _ _ _) := HPW2.out.tell HG.out (by omega)
            go_wp2_with fail
            refine HT1.out.mono ?_
            rintro e w13 ⟨av, rfl, -, hto, hbl⟩
            have HPX2 : Hid (PB w B kbX x cb (cfgA cc) sv ps (k + 1) bv TM w13) := HPX.out.below hbl
            have HTO : Hid (TO w13 av (tolds wk ps)) := hto
            have HT2 : Hid (Calls _ _ _ _ _) := HPX2.out.tell HG.out (by omega)
            clear hto hbl HT1 HPX HPW2
            go_wp2_with fail
            refine HT2.out.mono ?_
            rintro e w14 ⟨nv, rfl, hpx, hto, hbl⟩
            have HPX3 : Hid (PB w B kbX x cb (cfgA cc) sv ps (k + 1) bv TM w14) := hpx
            have HTO2 : Hid (TO w14 av (tolds wk ps)) := HTO.out.below hbl
            have HTO3 : Hid (TO w14 nv (tolds x ps)) := hto
            have HLP : Hid (ps.length ≤ 1000) := by have := hpx.le; show _ ≤ _; omega
            have HM1 : Hid (Calls _ _ _ _ _) := same_any nv bv (tolds x ps) TM w14 hto hpx.tl (by rw [tolds_length]; exact HLP.out)
            clear hto hbl hpx HT2 HPX2 HTO
            go_wp2_with fail
            refine HM1.out.mono ?_
            rintro e w15 ⟨rfl, hbl⟩
            have HPX4 : Hid (PB w B kbX x cb (cfgA cc) sv ps (k + 1) bv TM w15) := HPX3.out.below hbl
            have HM2 : Hid (Calls _ _ _ _ _) := same_any nv av (tolds x ps) (tolds wk ps) w15 (HTO3.out.below hbl) (HTO2.out.below hbl) (by rw [tolds_length]; exact HLP.out)
            clear hbl HM1 HPX3 HTO2 HTO3
            go_wp2_with fail
            refine HM2.out.mono ?_
            rintro e w16 ⟨rfl, hbl⟩
            have HPX5 : Hid (PB w B kbX x cb (cfgA cc) sv ps (k + 1) bv TM w16) := HPX4.out.below hbl
            have HDD : Hid (decide (tolds x ps = TM) = true ∨ decide (tolds x ps = tolds wk ps) = true) := HTE.out.imp (fun h => decide_eq_true h) (fun h => decide_eq_true h)
            clear hbl HM2 HPX4 HTE
            generalize decide (tolds x ps = TM) = d1 at *
            generalize decide (tolds x ps = tolds wk ps) = d2 at *
            have HLN : Hid (Calls _ _ _ _ _) := HPX5.out.login HG.out 9
            generalize x.login 9 = L9 at *
            obtain ⟨t9, e9, m9⟩ := L9
            have HLG : Hid ((e9 = 0 ∧ t9 ≠ []) ∨ e9 = 8 ∨ e9 = 9) := HLG.out
            go_wp2_with fail
            refine HLN.out.mono ?_
            rintro e w17 ⟨rfl, hp17⟩
            have HBW : Hid (Below w.heap.size w w17) := hp17.wide
            clear hp17 HLN HPX5
            have hdd := HDD.out
            clear HDD
            rcases HLG.out with ⟨h9, hne⟩ | h9 | h9
            · have he : (ofL t9).toList.isEmpty = false := by rw [emptyL]; cases t9 with | nil => exact absurd rfl hne | cons x y => rfl
              subst h9
              clear hne HLG
              cases d1 with
              | true => cases d2 <;> (clear hdd; go_wp2_with fail; go_ret; exact ⟨rfl, HBW.out⟩)
              | false =>
                cases d2 with
                | true => clear hdd; go_wp2_with fail; go_ret; exact ⟨rfl, HBW.out⟩
                | false => rcases hdd with h | h <;> cases h
            · subst h9
              clear HLG
              cases d1 with
              | true => cases d2 <;> (clear hdd; go_wp2_with fail; go_ret; exact ⟨rfl, HBW.out⟩)
              | false =>
                cases d2 with
                | true => clear hdd; go_wp2_with fail; go_ret; exact ⟨rfl, HBW.out⟩
                | false => rcases hdd with h | h <;> cases h
            · subst h9
              clear HLG
              cases d1 with
              | true => cases d2 <;> (clear hdd; go_wp2_with fail; go_ret; exact ⟨rfl, HBW.out⟩)
              | false =>
                cases d2 with
                | true => clear hdd; go_wp2_with fail; go_ret; exact ⟨rfl, HBW.out⟩
                | false => rcases hdd with h | h <;> cases h
      · have HST8 : Hid (Steady m') := hst8
        have hne4 : ((er : Int) == 4) = false := by rw [Bool.eq_false_iff]; intro h; rw [beq_iff_eq] at h; omega
        clear hst8 HSA HM
        go_upto_region 33 with fail
        go_cut [172] (fun tv wx => tv = .bool false ∧ wx = w6)
        case first =>
          clear hne4
          obtain rfl | rfl | rfl | rfl | rfl := hco
          all_goals
            go_wp2_with fail
            go_meet
            case rel => exact ⟨rfl, rfl⟩
        case rest =>
        obtain ⟨rfl, rfl⟩ := hcut
        have HP8 : Hid (PB w B kb m' cb (cfgA cc) sv ps (k + 1) (.slice none 0 0) [] wc) := HP6.out.drop
        clear HP6 hne4 hco
        obtain ⟨w6, hw6⟩ : ∃ w6, w6 = wc := ⟨_, rfl⟩
        subst hw6
        by_cases h0 : q = []
        · have he : (ofL q).toList.isEmpty = true := by rw [emptyL, h0]; rfl
          clear h0
          go_wp2_with fail
          go_roundw
          case rel => exact ⟨m', ps, k + 1, by go_num, h2, HST8.out, HP8.out.more (by omega)⟩
          case measure => simp [intOf]; omega
        · have he : (ofL q).toList.isEmpty = false := by rw [emptyL]; cases q with | nil => exact absurd rfl h0 | cons x y => rfl
          clear h0
          obtain ⟨pl, hpl⟩ : ∃ pl, ps.length = pl := ⟨_, rfl⟩
          have hle : pl ≤ 1000 := by have := HP8.out.le; omega
          obtain ⟨i0, hfacts⟩ := str_push HP8.out.so hpl hle q
          have HF : Hid (_ ∧ _ ∧ _ ∧ _ ∧ _ ∧ _ ∧ _ ∧ _ ∧ _) := hfacts
          have hsh := so_shape HP8.out.so
          rw [hpl] at hsh
          have HLEN : Hid (ps.length = pl) := hpl
          clear hfacts hpl hle
          rcases hsh with ⟨hsv, rfl⟩ | ⟨g0, cap0, hsv⟩
          · subst hsv
            go_wp2_with (at_builtin; refine wpList_append_lies _ rfl _ _ 57 rfl 0 9 i0 (.string ByteArray.empty) 1 16 Tryz.underlying57 HF.out.1 HF.out.2.1 HF.out.2.2.1 HF.out.2.2.2.1 rfl (by decide) _ 0 (flatV strV ps) rfl HF.out.2.2.2.2.1 ⟨w6.heap.size, 0, none⟩ 1 1 [.string (ofL q)] rfl rfl HF.out.2.2.2.2.2.1 HF.out.2.2.2.2.2.2.1 (by decide) HF.out.2.2.2.2.2.2.2.1 HF.out.2.2.2.2.2.2.2.2 (Nat.zero_le _) _ rfl ?_; intro g cap2 w7 hown hgr hloc hlt; have Q3 : Hid (PB w B kb m' cb (cfgA cc) _ _ _ _ _ w7) := PB.pushed HP8.out HRL.out HLEN.out hown hgr hloc hlt; clear hown hgr hloc hlt)
            go_roundw
            case rel => exact ⟨m', _, k + 1, by go_num, h2, HST8.out, Q3⟩
            case measure => simp [intOf]; omega
          · subst hsv
            go_wp2_with (at_builtin; refine wpList_append_lies _ rfl _ _ 57 rfl 0 9 i0 (.string ByteArray.empty) 1 16 Tryz.underlying57 HF.out.1 HF.out.2.1 HF.out.2.2.1 HF.out.2.2.2.1 rfl (by decide) _ pl (flatV strV ps) rfl HF.out.2.2.2.2.1 ⟨w6.heap.size, 0, none⟩ 1 1 [.string (ofL q)] rfl rfl HF.out.2.2.2.2.2.1 HF.out.2.2.2.2.2.2.1 (by decide) HF.out.2.2.2.2.2.2.2.1 HF.out.2.2.2.2.2.2.2.2 (Nat.zero_le _) _ rfl ?_; intro g cap2 w7 hown hgr hloc hlt; have Q3 : Hid (PB w B kb m' cb (cfgA cc) _ _ _ _ _ w7) := PB.pushed HP8.out HRL.out HLEN.out hown hgr hloc hlt; clear hown hgr hloc hlt)
            go_roundw
            case rel => exact ⟨m', _, k + 1, by go_num, h2, HST8.out, Q3⟩
            case measure => simp [intOf]; omega
    · have HB : Hid (Below w.heap.size w wr) := HPS.out.wide
      clear HPS HZr HZ
      by_cases h1 : k < zs.length
      · have h2 : ¬ k < 30 := fun h => hlt ⟨h1, h⟩
        clear hlt
        go_wp2_with fail
        go_ret
        exact ⟨rfl, HB.out⟩
      · clear hlt
        go_wp2_with fail
        go_ret
        exact ⟨rfl, HB.out⟩
end Go.Proofs.YtmnajomkfnkmeaaGreatDoor
