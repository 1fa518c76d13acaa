import Derived.Test.YtmnajomkfnkmeaaGreatDoorKopA
import Derived.Deep.RegionWith
namespace Go.Proofs.YtmnajomkfnkmeaaGreatDoor
open Go.RowKit Go.Conc
attribute [local go_sem] ofL_size
/-- the byte that is turned -/
def turnB (x : UInt8) (n : Nat) : UInt8 := UInt8.ofNat (x.toNat + (1 + n))
theorem turnB_ne (x : UInt8) (n : Nat) (h : n < 255) : turnB x n ≠ x := by
  intro e
  have := congrArg UInt8.toNat e
  unfold turnB at this
  rw [UInt8.toNat_ofNat'] at this
  have := x.toNat_lt
  omega
def turned (P : Bs) (i n : Nat) : Bs := laidB P i [turnB (P.getD i 0) n]
theorem turned_length {P : Bs} {i n : Nat} (h : i < P.length) : (turned P i n).length = P.length := laidB_length (by show i + 1 ≤ _; omega)
theorem turned_ne {P : Bs} {i n : Nat} (h : i < P.length) (hn : n < 255) : turned P i n ≠ P := by
  intro e
  have := laidB_get (s := P) (p := i) (r := [turnB (P.getD i 0) n]) (by show i + 1 ≤ _; omega) i
  have e2 : turned P i n = laidB P i [turnB (P.getD i 0) n] := rfl
  rw [← e2, e] at this
  rw [if_neg (Nat.lt_irrefl i), if_pos (by show i < i + 1; omega), Nat.sub_self] at this
  have hx : P[i]? = some (P.getD i 0) := by
    rw [List.getD_eq_getElem?_getD, List.getElem?_eq_getElem h]; rfl
  rw [hx] at this
  injection this with this
  exact turnB_ne _ n hn this.symm
theorem turnB_nat (x : UInt8) (n : Nat) : ((turnB x n).toNat : Int) = ((x.toNat : Int) + (1 + (n : Int))) % 256 := by
  unfold turnB
  rw [UInt8.toNat_ofNat']
  omega
theorem turn_val (x : UInt8) (n : Nat) : IntKind.u8.wrap ((x.toNat : Int) + IntKind.u8.wrap (IntKind.i64.wrap (1 + (n : Int)))) = ((turnB x n).toNat : Int) := by
  rw [turnB_nat]
  simp only [IntKind.wrap_i64, IntKind.wrap_u8]
  omega
theorem turn_val2 (x : UInt8) (n : Nat) : IntKind.u8.wrap ((x.toNat : Int) + wrap64 (1 + (n : Int)) % 256) = ((turnB x n).toNat : Int) := by
  rw [turnB_nat]
  simp only [IntKind.wrap_u8, wrap64]
  omega
theorem By.turned {w : World} {b i n : Nat} {P : Bs} (h : By w b P) (hi : i < P.length) : By ((w.setCell ⟨b, i, none⟩ (.int .u8 ((turnB (P[i]'hi) n).toNat : Int))).drew) b (turned P i n) := by
  have e : P.getD i 0 = P[i]'hi := by rw [List.getD_eq_getElem?_getD, List.getElem?_eq_getElem hi]; rfl
  have := h.laid (p := i) (r := [turnB (P.getD i 0) n]) (by show i + 1 ≤ _; omega)
  rw [e] at this
  unfold Proofs.YtmnajomkfnkmeaaGreatDoor.turned
  rw [e]
  exact By.drew this
theorem str_eq (a b : Bs) : ((ofL a).toList == (ofL b).toList) = decide (a = b) := by
  rw [eq_toList, toL_ofL, toL_ofL]
  by_cases h : a = b
  · rw [decide_eq_true h, h]; exact beq_self_eq_true _
  · rw [decide_eq_false h, Bool.eq_false_iff]; exact fun e => h (eq_of_beq e)
set_option maxRecDepth 20000 in
set_option maxHeartbeats 4000000 in
theorem one_any (c at_ by_ : Int) (text : Bs) (B : Nat) (G : Gl) (w : World) (hc : -9223372036854775808 ≤ c ∧ c ≤ 9223372036854775807) (ha : -9223372036854775808 ≤ at_ ∧ at_ ≤ 9223372036854775807) (hb : -9223372036854775808 ≤ by_ ∧ by_ ≤ 9223372036854775807) (ht : text.length ≤ 9223372036854775000) (hG : Glob B G w) :
    Calls Tryz.prog 7 #[.int .i64 c, .string (ofL text), .int .i64 at_, .int .i64 by_] w fun e w' => e = .returned (.bool true) ∧ Below w.heap.size w w' := by
  have HG : Hid (Glob B G w) := hG
  have HT : Hid (text.length ≤ 9223372036854775000) := ht
  have hu : 1 ≤ 1 + pickN c 99 ∧ 1 + pickN c 99 ≤ 99 := by have := pickN_lt c (n := 99) (by decide); omega
  obtain ⟨m0, m1, m2, i, j, e0, e1, e2, h2⟩ := one_start c (1 + pickN c 99) hu
  have HM0 : Hid (openK (blankB 40) (confK c true) = (0, some m0)) := e0
  have HL1 : Hid (∀ w', Kst w B w'.heap.size m0 w' → True) := fun _ _ => trivial
  have HPK : Hid (∀ w', Calls Tryz.prog 15 #[.int .i64 c, .int .i64 99] w' fun e w'' => e = .returned (.int .i64 (pickN c 99)) ∧ w'' = w') := fun w' => pick_any c 99 w' hc.1 hc.2 (by decide)
  have HPA : Hid (∀ w', Calls Tryz.prog 15 #[.int .i64 at_, .int .i64 9] w' fun e w'' => e = .returned (.int .i64 (pickN at_ 9)) ∧ w'' = w') := fun w' => pick_any at_ 9 w' ha.1 ha.2 (by decide)
  have HPB : Hid (∀ w', Calls Tryz.prog 15 #[.int .i64 by_, .int .i64 255] w' fun e w'' => e = .returned (.int .i64 (pickN by_ 255)) ∧ w'' = w') := fun w' => pick_any by_ 255 w' hb.1 hb.2 (by decide)
  have HCF : Hid (Calls Tryz.prog 26 #[.int .i64 c, .bool true] w fun e w' => e = .returned (cfgV (confK c true)) ∧ Below w.heap.size w w') := config_any c true w hc.1 hc.2
  have hpn := pickN_lt c (n := 99) (by decide)
  have hpa := pickN_lt at_ (n := 9) (by decide)
  have HPBN : Hid (pickN by_ 255 < 255) := pickN_lt by_ (n := 255) (by decide)
  have HI : Hid (i < 4096 ∧ j < 4096 ∧ i ≠ j) := ⟨h2.i4, h2.j4, h2.ne⟩
  have hP : (passL topSecret i).length = 9 := rfl
  have hQ : (passL topSecret j).length = 9 := rfl
  have hPQ : ((ofL (passL topSecret i)).toList == (ofL (passL topSecret j)).toList) = false := by
    rw [str_eq, decide_eq_false_iff_not]
    exact fun h => h2.ne (passL_inj h2.i4 h2.j4 h)
  have HTT : Hid (∀ k m t, k ≤ 10 → Two m i j k → (((t = passL topSecret i ∨ t = passL topSecret j) → ∃ m', m.touch t = (0, m') ∧ Two m' i j (k + 1)) ∧ (¬ (t = passL topSecret i ∨ t = passL topSecret j) → ∃ e, (e = 5 ∨ e = 6) ∧ m.touch t = (e, m)))) := fun k m t hk h => two_touch h hk t
  have H2 : Hid (Two m2 i j 0) := h2
  have HE1 : Hid (m0.login ((1 : Int) + (pickN c 99 : Int)) = (passL topSecret i, 0, m1)) := by
    show _ = _
    rw [← e1]; congr 1
  have HE2 : Hid (m1.login 7 = (passL topSecret j, 0, m2)) := e2
  clear hG ht hu e0 e1 e2 h2 hc ha hb HL1
  generalize passL topSecret i = P at *
  generalize passL topSecret j = Q at *
  generalize pickN c 99 = n99 at *
  generalize pickN at_ 9 = ia at *
  go_enter Tryz.func7, Tryz.ntmps7
  go_wp2_with fail
  refine HCF.out.mono ?_
  rintro e w1 ⟨rfl, hb1⟩
  have HB1 : Hid (Below w.heap.size w w1) := hb1
  clear hb1 HCF
  have HFR : Hid (Calls Tryz.prog 18 #[.int .i64 40, cfgV (confK c true)] w1 fun e w' => ∃ kb, e = .returned (.pointer (some ⟨kb, 0, none⟩)) ∧ Kst w B kb m0 w') := sfresh w 40 c true B G w1 m0 (by decide) (by decide) HB1.out HG.out HM0.out
  generalize confK c true = cc at *
  unfold cfgV at *
  go_wp2_with fail
  refine HFR.out.mono ?_
  rintro e w2 ⟨kb, rfl, hk2⟩
  have HK2 : Hid (Kst w B kb m0 w2) := hk2
  clear hk2 HFR HM0
  go_wp2_with fail
  refine (HPK.out _).mono ?_
  rintro e w' ⟨rfl, hw⟩
  subst w'
  have HS1 := slogin w B kb m0 G ((1 : Int) + (n99 : Int)) w2 HK2.out HG.out
  rw [HE1.out] at HS1
  have HS1 : Hid (Calls _ _ _ _ _) := HS1
  clear HPK HE1
  go_wp2_with fail
  refine HS1.out.mono ?_
  rintro e w3 ⟨rfl, hk3⟩
  have HS2 := slogin w B kb m1 G 7 w3 hk3 HG.out
  rw [HE2.out] at HS2
  have HS2 : Hid (Calls _ _ _ _ _) := HS2
  clear hk3 HS1 HE2
  go_wp2_with fail
  refine HS2.out.mono ?_
  rintro e w4 ⟨rfl, hk4⟩
  have HK4 : Hid (Kst w B kb m2 w4) := hk4
  clear hk4 HS2
  obtain ⟨w5, cap, hr5, hy5, hb5, hz5, hcap, hcapm⟩ := bytes_made w4 P (by rw [hP]; unfold maxLen; omega)
  have HY5 : Hid (By w5 w4.heap.size P) := hy5
  have HB5 : Hid (Below w4.heap.size w4 w5) := hb5
  clear hy5 hb5 hcapm
  go_wp2_with fail
  refine (HPA.out _).mono ?_
  rintro e w' ⟨rfl, hw⟩
  subst w'
  clear HPA
  have hx : ia < P.length := by omega
  have cI : w5.cell? ⟨w4.heap.size, ia, none⟩ = some (.int .u8 (P[ia]'hx).toNat) := HY5.out.cell ia hx
  have fI : w5.frozen? ⟨w4.heap.size, ia, none⟩ = false := HY5.out.free ia hx
  generalize pickN by_ 255 = nb at *
  have hx8 := (P[ia]'hx).toNat_lt
  go_wp2_with fail
  go_region_with (go_at_call 15; refine (HPB.out _).mono ?_; rintro e w' ⟨rfl, hw⟩; subst w')
  all_goals
    first
      | rw [turn_val (P[ia]'hx) nb]
      | rw [turn_val2 (P[ia]'hx) nb]
    have HY6 : Hid (By _ w4.heap.size (turned P ia nb)) := By.turned (n := nb) HY5.out hx
    have HB6 : Hid (Below w4.heap.size w4 ((w5.setCell ⟨w4.heap.size, ia, none⟩ (.int .u8 ((turnB (P[ia]'hx) nb).toNat : Int))).drew)) := (HB5.out.setCell (Nat.le_refl _) _).drew
    have hTl : (turned P ia nb).length = 9 := (turned_length hx).trans hP
    have hTP : Hid (turned P ia nb ≠ P) := turned_ne hx HPBN.out
    clear cI fI hx8 hr5 hz5 HY5 HB5 HPB hcap
    generalize (World.setCell w5 _ _).drew = w6 at *
    have hr6 := HY6.out.text (cap := cap)
    rw [hTl] at hr6
    have HK6 : Hid (Kst w B kb m2 w6) := HK4.out.below HB6.out
    clear HY6 HB6
    generalize turned P ia nb = T at *
    obtain ⟨m3, ht3, h3⟩ := (HTT.out 0 m2 P (by omega) H2.out).1 (Or.inl rfl)
    have HS3 := stouch w B kb m2 G P w6 HK6.out (by omega) HG.out
    rw [ht3] at HS3
    have HS3 : Hid (Calls _ _ _ _ _) := HS3
    have H3 : Hid (Two m3 i j 1) := h3
    clear ht3 h3
    go_wp2_with fail
    refine HS3.out.mono ?_
    rintro e w7 ⟨rfl, hk7⟩
    have HK7 : Hid (Kst w B kb m3 w7) := hk7
    clear hk7 HS3 hr6
    have hQT : ((ofL T).toList == (ofL Q).toList) = decide (T = Q) := str_eq T Q
    have hxP : ((ofL text).toList == (ofL P).toList) = decide (text = P) := str_eq text P
    have hxQ : ((ofL text).toList == (ofL Q).toList) = decide (text = Q) := str_eq text Q
    have HEND : Hid (∀ m4 k w8, k ≤ 2 → Two m4 i j k → Kst w B kb m4 w8 → ((decide (text = P) || decide (text = Q)) = true ∧ Calls Tryz.prog 21 #[.pointer (some ⟨kb, 0, none⟩), .string (ofL text)] w8 fun e w' => e = .returned (.int .i64 0) ∧ Below w.heap.size w w') ∨ (decide (text = P) = false ∧ decide (text = Q) = false ∧ ∃ c, (c = 5 ∨ c = 6) ∧ Calls Tryz.prog 21 #[.pointer (some ⟨kb, 0, none⟩), .string (ofL text)] w8 fun e w' => e = .returned (.int .i64 c) ∧ Below w.heap.size w w')) := by
      intro m4 k w8 hk h4 hk8
      have ht := HTT.out k m4 text (by omega) h4
      have hs := stouch w B kb m4 G text w8 hk8 HT.out HG.out
      by_cases hh : text = P ∨ text = Q
      · obtain ⟨m5, he, _⟩ := ht.1 hh
        rw [he] at hs
        refine Or.inl ⟨?_, hs.mono fun e w' hh => ⟨hh.1, hh.2.wide⟩⟩
        rcases hh with hh | hh
        · rw [decide_eq_true hh]; rfl
        · rw [decide_eq_true hh, Bool.or_true]
      · obtain ⟨cc, hcc, he⟩ := ht.2 hh
        rw [he] at hs
        refine Or.inr ⟨decide_eq_false fun h => hh (Or.inl h), decide_eq_false fun h => hh (Or.inr h), (cc : Int), ?_, hs.mono fun e w' hh => ⟨hh.1, hh.2.wide⟩⟩
        omega
    by_cases hTQ : T = Q
    · obtain ⟨m4, ht4, h4⟩ := (HTT.out 1 m3 T (by omega) H3.out).1 (Or.inr hTQ)
      have HS4 := stouch w B kb m3 G T w7 HK7.out (by omega) HG.out
      rw [ht4] at HS4
      have HS4 : Hid (Calls _ _ _ _ _) := HS4
      have H4 : Hid (Two m4 i j 2) := h4
      rw [decide_eq_true hTQ] at hQT
      clear ht4 h4 hTQ HTT
      go_wp2_with fail
      refine HS4.out.mono ?_
      rintro e w8 ⟨rfl, hk8⟩
      rcases HEND.out m4 2 w8 (by omega) H4.out hk8 with ⟨hb, hcl⟩ | ⟨hb1, hb2, code, hcode, hcl⟩
      · have HCL : Hid (Calls _ _ _ _ _) := hcl
        clear hk8 HS4 HEND hcl
        generalize decide (text = P) = b1 at *
        generalize decide (text = Q) = b2 at *
        go_wp2_with fail
        refine HCL.out.mono ?_
        rintro e w9 ⟨rfl, hb9⟩
        have HB9 : Hid (Below w.heap.size w w9) := hb9
        clear hb9 HCL
        cases b1 with
        | true =>
          go_wp2_with fail
          go_ret
          exact ⟨rfl, HB9.out⟩
        | false =>
          cases b2 with
          | true =>
            go_wp2_with fail
            go_ret
            exact ⟨rfl, HB9.out⟩
          | false => cases hb
      · have HCL : Hid (Calls _ _ _ _ _) := hcl
        clear hk8 HS4 HEND hcl
        rw [hb1] at hxP
        rw [hb2] at hxQ
        clear hb1 hb2
        rcases hcode with rfl | rfl
        all_goals
          go_wp2_with fail
          refine HCL.out.mono ?_
          rintro e w9 ⟨rfl, hb9⟩
          have HB9 : Hid (Below w.heap.size w w9) := hb9
          clear hb9 HCL
          go_wp2_with fail
          go_ret
          exact ⟨rfl, HB9.out⟩
    · obtain ⟨c4, hc4, ht4⟩ := (HTT.out 1 m3 T (by omega) H3.out).2 (fun h => h.elim hTP.out hTQ)
      have HS4 := stouch w B kb m3 G T w7 HK7.out (by omega) HG.out
      rw [ht4] at HS4
      have HS4 : Hid (Calls _ _ _ _ _) := HS4
      rw [decide_eq_false hTQ] at hQT
      clear ht4 hTQ HTT
      rcases hc4 with rfl | rfl
      all_goals
        go_wp2_with fail
        refine HS4.out.mono ?_
        rintro e w8 ⟨rfl, hk8⟩
        rcases HEND.out m3 1 w8 (by omega) H3.out hk8 with ⟨hb, hcl⟩ | ⟨hb1, hb2, code, hcode, hcl⟩
        · have HCL : Hid (Calls _ _ _ _ _) := hcl
          clear hk8 HS4 HEND hcl
          generalize decide (text = P) = b1 at *
          generalize decide (text = Q) = b2 at *
          go_wp2_with fail
          refine HCL.out.mono ?_
          rintro e w9 ⟨rfl, hb9⟩
          have HB9 : Hid (Below w.heap.size w w9) := hb9
          clear hb9 HCL
          cases b1 with
          | true =>
            go_wp2_with fail
            go_ret
            exact ⟨rfl, HB9.out⟩
          | false =>
            cases b2 with
            | true =>
              go_wp2_with fail
              go_ret
              exact ⟨rfl, HB9.out⟩
            | false => cases hb
        · have HCL : Hid (Calls _ _ _ _ _) := hcl
          clear hk8 HS4 HEND hcl
          rw [hb1] at hxP
          rw [hb2] at hxQ
          clear hb1 hb2
          rcases hcode with rfl | rfl
          all_goals
            go_wp2_with fail
            refine HCL.out.mono ?_
            rintro e w9 ⟨rfl, hb9⟩
            have HB9 : Hid (Below w.heap.size w w9) := hb9
            clear hb9 HCL
            go_wp2_with fail
            go_ret
            exact ⟨rfl, HB9.out⟩
end Go.Proofs.YtmnajomkfnkmeaaGreatDoor
