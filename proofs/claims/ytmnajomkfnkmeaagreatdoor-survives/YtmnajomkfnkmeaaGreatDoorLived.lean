import Derived.Test.YtmnajomkfnkmeaaGreatDoorKopA
namespace Go.Proofs.YtmnajomkfnkmeaaGreatDoor
open Go.RowKit Go.Conc
attribute [local go_sem] ofL_size
/-- a slice of ints that came in -/
structure IntsAt (w : World) (a : Addr) (zs : List Int) : Prop where
  lt : 0 < zs.length → a.block < w.heap.size
  cell : ∀ i, i < zs.length → w.cell? (a.add i) = some (.int .i64 (zs.getD i 0))
  rng : ∀ i, i < zs.length → -9223372036854775808 ≤ zs.getD i 0 ∧ zs.getD i 0 ≤ 9223372036854775807
theorem IntsAt.below {w w' : World} {a : Addr} {zs : List Int} (h : IntsAt w a zs) (hb : Below w.heap.size w w') : IntsAt w' a zs :=
  ⟨fun h0 => Nat.lt_of_lt_of_le (h.lt h0) hb.size, fun i hi => (World.cell?_of_block (w := w) (by have e : (a.add i).block = a.block := (by unfold Addr.add; split <;> rfl); rw [e]; exact hb.block _ (h.lt (by omega)))).trans (h.cell i hi), h.rng⟩
set_option maxRecDepth 20000 in
set_option maxHeartbeats 4000000 in
theorem lived_nil (c : Int) (B : Nat) (G : Gl) (w : World) (hc : -9223372036854775808 ≤ c ∧ c ≤ 9223372036854775807) (hG : Glob B G w) :
    Calls Tryz.prog 8 #[.int .i64 c, .slice none 0 0] w fun e w' => e = .returned (.bool true) ∧ Below w.heap.size w w' := by
  have HG : Hid (Glob B G w) := hG
  obtain ⟨m0, m1, i, e0, e1, h1⟩ := lived_start c
  have HM0 : Hid (openK (blankB 200) (confK c false) = (0, some m0)) := e0
  have HCF : Hid (Calls Tryz.prog 26 #[.int .i64 c, .bool false] w fun e w' => e = .returned (cfgV (confK c false)) ∧ Below w.heap.size w w') := config_any c false w hc.1 hc.2
  have HE1 : Hid (m0.login 5 = (passL topSecret i, 0, m1)) := e1
  clear hG hc e0 e1 h1
  generalize passL topSecret i = P at *
  go_enter Tryz.func8, Tryz.ntmps8
  go_wp2_with fail
  refine HCF.out.mono ?_
  rintro e w1 ⟨rfl, hb1⟩
  have HB1 : Hid (Below w.heap.size w w1) := hb1
  clear hb1 HCF
  have HFR : Hid (Calls Tryz.prog 18 #[.int .i64 200, cfgV (confK c false)] w1 fun e w' => ∃ kb, e = .returned (.pointer (some ⟨kb, 0, none⟩)) ∧ Kst w B kb m0 w') := sfresh w 200 c false B G w1 m0 (by decide) (by decide) HB1.out HG.out HM0.out
  generalize confK c false = cc at *
  unfold cfgV at *
  go_wp2_with fail
  refine HFR.out.mono ?_
  rintro e w2 ⟨kb, rfl, hk2⟩
  have HS1 := slogin w B kb m0 G 5 w2 hk2 HG.out
  rw [HE1.out] at HS1
  have HS1 : Hid (Calls _ _ _ _ _) := HS1
  clear hk2 HFR HM0 HE1
  go_wp2_with fail
  refine HS1.out.mono ?_
  rintro e w3 ⟨rfl, hk3⟩
  have HK3 : Hid (Kst w B kb m1 w3) := hk3
  clear hk3 HS1
  go_wp2_with fail
  go_loopw [8, 9] (fun av iv wx => av = .int .i64 0 ∧ iv = .int .i64 0 ∧ Hid (Kst w B kb m1 wx)) (fun _ iv _ => 60 - (intOf iv).toNat)
  case atStart => exact ⟨rfl, rfl, HK3.out⟩
  case round =>
    obtain ⟨rfl, rfl, HKS⟩ := hrel
    go_wp2_with fail
    go_ret
    exact ⟨rfl, HKS.out.wide⟩
set_option maxRecDepth 20000 in
set_option maxHeartbeats 4000000 in
theorem lived_some (c : Int) (a : Addr) (cap : Nat) (zs : List Int) (B : Nat) (G : Gl) (w : World) (hc : -9223372036854775808 ≤ c ∧ c ≤ 9223372036854775807) (hz : IntsAt w a zs) (hG : Glob B G w) :
    Calls Tryz.prog 8 #[.int .i64 c, .slice (some a) zs.length cap] w fun e w' => e = .returned (.bool true) ∧ Below w.heap.size w w' := by
  have HG : Hid (Glob B G w) := hG
  have HZ : Hid (IntsAt w a zs) := hz
  obtain ⟨m0, m1, i, e0, e1, h1⟩ := lived_start c
  have HM0 : Hid (openK (blankB 200) (confK c false) = (0, some m0)) := e0
  have HCF : Hid (Calls Tryz.prog 26 #[.int .i64 c, .bool false] w fun e w' => e = .returned (cfgV (confK c false)) ∧ Below w.heap.size w w') := config_any c false w hc.1 hc.2
  have HP : Hid ((passL topSecret i).length ≤ 9223372036854775000) := by show (9 : Nat) ≤ _; decide
  have H1 : Hid (Living m1 i 0 0) := h1
  have HE1 : Hid (m0.login 5 = (passL topSecret i, 0, m1)) := e1
  have HST : Hid (∀ (m : Kp) (k age n : Nat), Living m i k age → k < 60 → age ≤ 22 * k → n < 23 → ∃ m1, m.tick n = (0, m1) ∧
      ((20 ≤ n ∨ 60 ≤ age + n) → m1.get (passL topSecret i) [97] = ([], 7) ∧ ∃ m2, m1.touch (passL topSecret i) = (7, m2) ∧ m2.touch (passL topSecret i) = (6, m2)) ∧
      (¬ (20 ≤ n ∨ 60 ≤ age + n) → m1.get (passL topSecret i) [97] = ([], 6) ∧ ∃ m2, m1.touch (passL topSecret i) = (0, m2) ∧ Living m2 i (k + 1) (age + n))) := fun m k age n h hk ha hn => lived_step h hk ha hn
  clear hG hz hc e0 e1 h1
  generalize passL topSecret i = P at *
  go_enter Tryz.func8, Tryz.ntmps8
  go_wp2_with fail
  refine HCF.out.mono ?_
  rintro e w1 ⟨rfl, hb1⟩
  have HB1 : Hid (Below w.heap.size w w1) := hb1
  clear hb1 HCF
  have HFR : Hid (Calls Tryz.prog 18 #[.int .i64 200, cfgV (confK c false)] w1 fun e w' => ∃ kb, e = .returned (.pointer (some ⟨kb, 0, none⟩)) ∧ Kst w B kb m0 w') := sfresh w 200 c false B G w1 m0 (by decide) (by decide) HB1.out HG.out HM0.out
  generalize confK c false = cc at *
  unfold cfgV at *
  go_wp2_with fail
  refine HFR.out.mono ?_
  rintro e w2 ⟨kb, rfl, hk2⟩
  have HS1 := slogin w B kb m0 G 5 w2 hk2 HG.out
  rw [HE1.out] at HS1
  have HS1 : Hid (Calls _ _ _ _ _) := HS1
  clear hk2 HFR HM0 HE1
  go_wp2_with fail
  refine HS1.out.mono ?_
  rintro e w3 ⟨rfl, hk3⟩
  have HK3 : Hid (Kst w B kb m1 w3) := hk3
  clear hk3 HS1
  go_wp2_with fail
  go_loopw [8, 9] (fun av iv wx => ∃ (m : Kp) (k age : Nat), av = .int .i64 age ∧ iv = .int .i64 k ∧ k ≤ 60 ∧ age ≤ 1320 ∧ Hid (age ≤ 22 * k) ∧ Hid (Living m i k age) ∧ Hid (Kst w B kb m wx)) (fun _ iv _ => 60 - (intOf iv).toNat)
  case atStart => exact ⟨m1, 0, 0, rfl, rfl, by omega, by omega, (by show (0 : Nat) ≤ _; omega), H1.out, HK3.out⟩
  case round =>
    obtain ⟨m, k, age, rfl, rfl, hk, hage, HAG, HLV, HKS⟩ := hrel
    clear H1 HK3
    by_cases hlt : k < zs.length ∧ k < 60
    · have h1 := hlt.1
      have h2 := hlt.2
      have HZr : Hid (IntsAt wr a zs) := HZ.out.below HKS.out.wide
      have cz := HZr.out.cell k h1
      obtain ⟨z, hz⟩ : ∃ z, z = zs.getD k 0 := ⟨_, rfl⟩
      have HPK : Hid (∀ w', Calls Tryz.prog 15 #[.int .i64 z, .int .i64 23] w' fun e w'' => e = .returned (.int .i64 (pickN z 23)) ∧ w'' = w') := fun w' => by
        have := HZr.out.rng k h1
        rw [← hz] at this
        exact pick_any z 23 w' this.1 this.2 (by decide)
      rw [← hz] at cz
      have hn := pickN_lt z (n := 23) (by decide)
      clear hz hlt
      generalize pickN z 23 = n at *
      obtain ⟨m2, et, hov, hno⟩ := HST.out m k age n HLV.out h2 HAG.out hn
      have HTK := stick w B kb m (n : Int) wr HKS.out (by omega)
      rw [et] at HTK
      have HTK : Hid (Calls _ _ _ _ _) := HTK
      have HOV : Hid (_ → _) := hov
      have HNO : Hid (_ → _) := hno
      clear et hov hno
      go_wp2_with fail
      refine (HPK.out _).mono ?_
      rintro e w' ⟨rfl, hw⟩
      subst w'
      go_wp2_with fail
      refine HTK.out.mono ?_
      rintro e w4 ⟨rfl, hk4⟩
      have HK4 : Hid (Kst w B kb m2 w4) := hk4
      clear hk4 HTK HPK cz
      by_cases h20 : 20 ≤ n
      · have HH : 20 ≤ n ∨ 60 ≤ age + n := Or.inl h20
        obtain ⟨hg, m3, ht3, ht4⟩ := HOV.out HH
        have HGT := sget w B kb m2 G P [97] w4 HK4.out HP.out HG.out
        rw [hg] at HGT
        have HGT : Hid (Calls Tryz.prog 27 #[.pointer (some ⟨kb, 0, none⟩), .string (ofL P), .string { data := #[97] }] w4 _) := HGT
        have HTC : Hid (∀ w5, Kst w B kb m2 w5 → Calls Tryz.prog 21 #[.pointer (some ⟨kb, 0, none⟩), .string (ofL P)] w5 fun e w' => e = .returned (.int .i64 7) ∧ Kst w B kb m3 w') := fun w5 h5 => by
          have := stouch w B kb m2 G P w5 h5 HP.out HG.out
          rw [ht3] at this
          exact this
        have HTD : Hid (∀ w5, Kst w B kb m3 w5 → Calls Tryz.prog 21 #[.pointer (some ⟨kb, 0, none⟩), .string (ofL P)] w5 fun e w' => e = .returned (.int .i64 6) ∧ Kst w B kb m3 w') := fun w5 h5 => by
          have := stouch w B kb m3 G P w5 h5 HP.out HG.out
          rw [ht4] at this
          exact this
        clear hg ht3 ht4 HOV HNO HST
        go_wp2_with fail
        refine HGT.out.mono ?_
        rintro e w5 ⟨rfl, hk5, _⟩
        have HK5 : Hid (Kst w B kb m2 w5) := hk5
        clear hk5 HGT
        go_wp2_with fail
        refine (HTC.out _ HK5.out).mono ?_
        rintro e w6 ⟨rfl, hk6⟩
        have HK6 : Hid (Kst w B kb m3 w6) := hk6
        clear hk6 HTC
        go_wp2_with fail
        refine (HTD.out _ HK6.out).mono ?_
        rintro e w7 ⟨rfl, hk7⟩
        have HK7 : Hid (Kst w B kb m3 w7) := hk7
        clear hk7 HTD
        go_wp2_with fail
        go_ret
        exact ⟨rfl, HK7.out.wide⟩
      · by_cases h60 : 60 ≤ age + n
        · have HH : 20 ≤ n ∨ 60 ≤ age + n := Or.inr h60
          obtain ⟨hg, m3, ht3, ht4⟩ := HOV.out HH
          have HGT := sget w B kb m2 G P [97] w4 HK4.out HP.out HG.out
          rw [hg] at HGT
          have HGT : Hid (Calls Tryz.prog 27 #[.pointer (some ⟨kb, 0, none⟩), .string (ofL P), .string { data := #[97] }] w4 _) := HGT
          have HTC : Hid (∀ w5, Kst w B kb m2 w5 → Calls Tryz.prog 21 #[.pointer (some ⟨kb, 0, none⟩), .string (ofL P)] w5 fun e w' => e = .returned (.int .i64 7) ∧ Kst w B kb m3 w') := fun w5 h5 => by
            have := stouch w B kb m2 G P w5 h5 HP.out HG.out
            rw [ht3] at this
            exact this
          have HTD : Hid (∀ w5, Kst w B kb m3 w5 → Calls Tryz.prog 21 #[.pointer (some ⟨kb, 0, none⟩), .string (ofL P)] w5 fun e w' => e = .returned (.int .i64 6) ∧ Kst w B kb m3 w') := fun w5 h5 => by
            have := stouch w B kb m3 G P w5 h5 HP.out HG.out
            rw [ht4] at this
            exact this
          clear hg ht3 ht4 HOV HNO HST
          go_wp2_with fail
          refine HGT.out.mono ?_
          rintro e w5 ⟨rfl, hk5, _⟩
          have HK5 : Hid (Kst w B kb m2 w5) := hk5
          clear hk5 HGT
          go_wp2_with fail
          refine (HTC.out _ HK5.out).mono ?_
          rintro e w6 ⟨rfl, hk6⟩
          have HK6 : Hid (Kst w B kb m3 w6) := hk6
          clear hk6 HTC
          go_wp2_with fail
          refine (HTD.out _ HK6.out).mono ?_
          rintro e w7 ⟨rfl, hk7⟩
          have HK7 : Hid (Kst w B kb m3 w7) := hk7
          clear hk7 HTD
          go_wp2_with fail
          go_ret
          exact ⟨rfl, HK7.out.wide⟩
        · obtain ⟨hg, m3, ht3, hlv⟩ := HNO.out (fun h => h.elim h20 h60)
          have HLV3 : Hid (Living m3 i (k + 1) (age + n)) := hlv
          have HA3 : Hid (age + n ≤ 22 * (k + 1)) := by have := HAG.out; show _ ≤ _; omega
          have HGT := sget w B kb m2 G P [97] w4 HK4.out HP.out HG.out
          rw [hg] at HGT
          have HGT : Hid (Calls Tryz.prog 27 #[.pointer (some ⟨kb, 0, none⟩), .string (ofL P), .string { data := #[97] }] w4 _) := HGT
          have HTC : Hid (∀ w5, Kst w B kb m2 w5 → Calls Tryz.prog 21 #[.pointer (some ⟨kb, 0, none⟩), .string (ofL P)] w5 fun e w' => e = .returned (.int .i64 0) ∧ Kst w B kb m3 w') := fun w5 h5 => by
            have := stouch w B kb m2 G P w5 h5 HP.out HG.out
            rw [ht3] at this
            exact this
          clear hg ht3 hlv HOV HNO HST HLV
          go_wp2_with fail
          refine HGT.out.mono ?_
          rintro e w5 ⟨rfl, hk5, _⟩
          have HK5 : Hid (Kst w B kb m2 w5) := hk5
          clear hk5 HGT
          go_wp2_with fail
          refine (HTC.out _ HK5.out).mono ?_
          rintro e w6 ⟨rfl, hk6⟩
          have HK6 : Hid (Kst w B kb m3 w6) := hk6
          clear hk6 HTC
          go_wp2_with fail
          go_roundw
          case rel => exact ⟨m3, k + 1, age + n, by go_num, by go_num, h2, (by omega), HA3.out, HLV3.out, HK6.out⟩
          case measure => simp [intOf]; omega
    · by_cases hz : k < zs.length
      · have h60 : ¬ k < 60 := fun h => hlt ⟨hz, h⟩
        go_wp2_with fail
        go_ret
        exact ⟨rfl, HKS.out.wide⟩
      · go_wp2_with fail
        go_ret
        exact ⟨rfl, HKS.out.wide⟩
end Go.Proofs.YtmnajomkfnkmeaaGreatDoor
