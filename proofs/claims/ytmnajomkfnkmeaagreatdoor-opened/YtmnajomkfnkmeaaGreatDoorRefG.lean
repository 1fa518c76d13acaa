import Derived.Test.YtmnajomkfnkmeaaGreatDoorRefM
import Derived.Deep.DeepCutAuto
import Derived.Deep.CutBlock
import Derived.BigQuiet
namespace Go.Proofs.YtmnajomkfnkmeaaGreatDoor
open Go.RowKit
attribute [local go_sem] ofL_size
/-! THE DOCUMENT's OWN KEEPER: what a disk may hold behind a loss of power -/
set_option maxRecDepth 20000 in
set_option maxHeartbeats 1000000 in
theorem dlaid_q (s r : Bs) (p : Nat) (w : World) (h : p + r.length ≤ s.length) (hl : s.length ≤ 1000000) :
    Calls Tryz.prog 94 #[.string (ofL s), .int .i64 (p : Int), .string (ofL r)] w fun e w' => e = .returned (.string (ofL (laidB s p r))) ∧ ∃ q, w' = w.drewN q := by
  have x1 : (ofL s).extract 0 p = ofL (s.take p) := by rw [extract_ofL]; simp
  have x2 : (ofL s).extract (p + r.length) s.length = ofL (s.drop (p + r.length)) := by
    rw [extract_ofL, List.take_of_length_le (by rw [List.length_drop]; exact Nat.le_refl _)]
  have s1 : (s.take p).length = p := by rw [List.length_take]; omega
  have s2 : (s.drop (p + r.length)).length = s.length - (p + r.length) := List.length_drop
  have HE : Hid (ofL (s.take p) ++ ofL r ++ ofL (s.drop (p + r.length)) = ofL (laidB s p r)) := by
    show _ = _
    unfold laidB
    rw [ofL_append, ofL_append]
  generalize s.take p = s0 at *
  generalize s.drop (p + r.length) = s3 at *
  generalize laidB s p r = V at *
  have b1 : (0 : Int) ≤ (p : Int) := by omega
  have b2 : (p : Int) ≤ (s.length : Int) := by omega
  have b3 : (0 : Int) ≤ (p : Int) + (r.length : Int) := by omega
  have b4 : (p : Int) + (r.length : Int) ≤ (s.length : Int) := by omega
  have e1 : IntKind.i64.wrap ((p : Int) + (r.length : Int)) = (p : Int) + (r.length : Int) := by rw [IntKind.wrap_i64]; omega
  have n1 : ((p : Int) + (r.length : Int)).toNat = p + r.length := by omega
  have p1 : ¬ (9223372036854775807 < s0.length + r.length) := by omega
  have p2 : ¬ (9223372036854775807 < s0.length + r.length + s3.length) := by omega
  clear s1 s2 h hl
  go_enter Tryz.func94, Tryz.ntmps94
  go_wp2_with fail
  go_quiet (fail)
  go_wp2
  go_ret
  exact ⟨by rw [← HE.out]; rfl, _, rfl⟩
theorem bit_bool (x : Int) : (Int.tmod x 2 != 0) = decide (x % 2 ≠ 0) := by
  rw [Bool.eq_iff_iff]
  simp only [bne_iff_ne, decide_eq_true_eq, ne_eq]
  exact not_congr ⟨fun h => Int.emod_eq_zero_of_dvd (Int.dvd_of_tmod_eq_zero h), fun h => Int.tmod_eq_zero_of_dvd (Int.dvd_of_emod_eq_zero h)⟩
/-- the writes under way lie in the disk, each a sector -/
def WayFits (m : Kp) : Prop := ∀ x ∈ m.way, x.1 + 32 ≤ m.disk.length ∧ x.2.length = 32
structure LeftK (m : Kp) (keep torn part : Int) (k : Nat) (st : Bs) : Prop where
  eq : m.left keep torn part = leftAux keep torn part k st (m.way.drop k)
  len : st.length = m.disk.length
theorem LeftK.next {m : Kp} {keep torn part : Int} {k : Nat} {st s2 : Bs} {x : Nat × Bs} (h : LeftK m keep torn part k st) (hx : m.way[k]? = some x)
    (he : s2 = if (k : Int) = torn then laidB st x.1 (x.2.take (clampP part)) else if (keep / (2 ^ (min k 62) : Nat)) % 2 ≠ 0 then laidB st x.1 x.2 else st)
    (hl : s2.length = m.disk.length) : LeftK m keep torn part (k + 1) s2 := by
  obtain ⟨hk, hx⟩ := List.getElem?_eq_some_iff.1 hx
  refine ⟨?_, hl⟩
  rw [h.eq, List.drop_eq_getElem_cons hk, he, hx]
  rfl
set_option maxRecDepth 20000 in
set_option maxHeartbeats 4000000 in
theorem dkleft_any (kb : Nat) (F : Nat → Prop) (m : Kp) (keep torn part : Int) (w : World) (h : DK w kb F m) (hfit : WayFits m) (h0 : -9223372036854775808 ≤ keep ∧ keep ≤ 9223372036854775807) (h2 : -9223372036854775808 ≤ part ∧ part ≤ 9223372036854775807) :
    Calls Tryz.prog 47 #[.pointer (some ⟨kb, 0, none⟩), .int .i64 keep, .int .i64 torn, .int .i64 part] w fun e w' => e = .returned (.string (ofL (m.left keep torn part))) ∧ Below w.heap.size w w' := by
  obtain ⟨seed, cn, wv, tb, f, hp, hF⟩ := h
  have c7 := hp.blk.cell 7
  have c8 := hp.blk.cell 8
  simp only [rkA, List.getElem?_toArray, List.getElem?_cons_zero, List.getElem?_cons_succ] at c7 c8
  have hsz := hp.bnd.size
  unfold okSize at hsz
  have hL : m.disk.length ≤ 6400 := by omega
  have hfew := hp.bnd.few
  have HWY : Hid (WYO w wv m.way) := hp.way
  have HB8 : Hid (∀ wx, Below w.heap.size w wx → wx.cell? ⟨kb, 8, none⟩ = some wv) := fun wx hb => (hp.blk.below hb).cell 8
  obtain ⟨a0, c0, hwv⟩ := wo_slice hp.way
  obtain ⟨n, hn⟩ : ∃ n, m.way.length = n := ⟨_, rfl⟩
  rw [hn] at hwv hfew
  have HN : Hid (m.way.length = n) := hn
  have HFI : Hid (WayFits m) := hfit
  have HKB : Hid (-9223372036854775808 ≤ keep ∧ keep ≤ 9223372036854775807) := h0
  have HL0 : Hid (LeftK m keep torn part 0 m.disk) := ⟨rfl, rfl⟩
  subst hwv
  obtain ⟨D, hD⟩ : ∃ D, D = m.disk := ⟨_, rfl⟩
  rw [← hD] at c7 HL0
  obtain ⟨pc, hpc⟩ : ∃ pc : Nat, pc = clampP part := ⟨_, rfl⟩
  have hpc32 : pc ≤ 32 := by rw [hpc]; unfold clampP; omega
  have HPC : Hid (pc = clampP part) := hpc
  clear hp hF hn hfit h0 hsz hD hpc
  go_enter Tryz.func47, Tryz.ntmps47
  go_upto_if 17 with fail
  go_cut [3] (fun pv wx => pv = .int .i64 (max part 0) ∧ wx = w)
  case first =>
    by_cases hp0 : part < 0
    · have em : max part 0 = 0 := by omega
      go_wp2_with fail
      go_meet
      case rel => exact ⟨by rw [em], rfl⟩
    · have em : max part 0 = part := by omega
      go_wp2_with fail
      go_meet
      case rel => exact ⟨by rw [em], rfl⟩
  case rest =>
  obtain ⟨rfl, hwc⟩ := hcut
  replace hwc := hwc.symm
  subst hwc
  obtain ⟨p1, hp1⟩ : ∃ p1 : Int, p1 = max part 0 := ⟨_, rfl⟩
  have hp1b : 0 ≤ p1 ∧ p1 ≤ 9223372036854775807 := by omega
  have HP1 : Hid (min p1 32 = (pc : Int)) := by have := HPC.out; unfold clampP at this; show _ = _; omega
  rw [← hp1]
  clear hp1 h2
  go_upto_if 19 with fail
  go_cut [3] (fun pv wx => pv = .int .i64 (pc : Int) ∧ wx = w)
  case first =>
    by_cases hp0 : 32 < p1
    · have em : (pc : Int) = 32 := by have := HP1.out; omega
      go_wp2_with fail
      go_meet
      case rel => exact ⟨by rw [em], rfl⟩
    · have em : (pc : Int) = p1 := by have := HP1.out; omega
      go_wp2_with fail
      go_meet
      case rel => exact ⟨by rw [em], rfl⟩
  case rest =>
  obtain ⟨rfl, hwc⟩ := hcut
  replace hwc := hwc.symm
  subst hwc
  clear HP1 hp1b p1
  go_wp2_with fail
  go_loopw [9, 10] (fun sv iv wx => ∃ (k : Nat) (st : Bs), iv = .int .i64 k ∧ k ≤ n ∧ sv = .string (ofL st) ∧ Hid (LeftK m keep torn part k st) ∧ Hid (Below w.heap.size w wx)) (fun _ iv _ => n - (intOf iv).toNat)
  case atStart => exact ⟨0, D, rfl, Nat.zero_le _, rfl, HL0.out, Below.refl _ _⟩
  case round =>
    obtain ⟨k, st, rfl, hk, rfl, HK, HB⟩ := hrel
    have c8 : wr.cell? ⟨kb, 8, none⟩ = some (Value.slice a0 n c0) := HB8.out wr HB.out
    by_cases hlt : k < n
    · have hkw : k < m.way.length := by rw [HN.out]; exact hlt
      obtain ⟨x, hx⟩ : ∃ x, x = m.way[k] := ⟨_, rfl⟩
      have HX : Hid (m.way[k]? = some x) := by rw [hx]; exact List.getElem?_eq_getElem hkw
      obtain ⟨q, hq⟩ : ∃ q, a0 = some ⟨q, 0, none⟩ := by
        rcases HWY.out.cases with ⟨e, e2⟩ | ⟨q, cap, e, _⟩
        · rw [e2] at hkw; exact absurd hkw (Nat.not_lt_zero _)
        · injection e with e1 e2 e3; exact ⟨q, e1⟩
      subst hq
      have HCP : Hid ((n : Int) ≤ (c0 : Int)) := by
        rcases HWY.out.cases with ⟨e, e2⟩ | ⟨q, cap, e, _, h4, _⟩
        · cases e
        · injection e with e1 e2 e3
          show _ ≤ _
          rw [HN.out] at h4
          omega
      have hwr := HWY.out.below HB.out
      have d0 := Own.cell wrV_length hwr k hkw 0 (by decide)
      have d1 := Own.cell wrV_length hwr k hkw 1 (by decide)
      rw [← hx] at d0 d1
      obtain ⟨f1, f2⟩ := HFI.out x (by rw [hx]; exact List.getElem_mem hkw)
      obtain ⟨p, r⟩ := x
      change wr.cell? ⟨q, k * 2, none⟩ = some (.int .i64 (p : Int)) at d0
      change wr.cell? ⟨q, k * 2 + 1, none⟩ = some (.string (ofL r)) at d1
      change p + 32 ≤ m.disk.length at f1
      change r.length = 32 at f2
      have hst : st.length = m.disk.length := HK.out.len
      clear hx hwr hkw
      go_upto_if 31 with fail
      go_cut [11] (fun bv wx => bv = .int .i64 ((min k 62 : Nat) : Int) ∧ wx = wr)
      case first =>
        by_cases h6 : 62 < k
        · have em : ((min k 62 : Nat) : Int) = 62 := by omega
          have h6 : (62 : Int) < (k : Int) := by omega
          go_wp2_with fail
          go_meet
          case rel => exact ⟨by rw [em], rfl⟩
        · have em : ((min k 62 : Nat) : Int) = k := by omega
          have h6 : ¬ (62 : Int) < (k : Int) := by omega
          go_wp2_with fail
          go_meet
          case rel => exact ⟨by rw [em], rfl⟩
      case rest =>
      obtain ⟨rfl, hwc⟩ := hcut
      replace hwc := hwc.symm
      subst hwc
      obtain ⟨bt, hbt⟩ : ∃ bt, bt = min k 62 := ⟨_, rfl⟩
      have hb62 : bt ≤ 62 := by omega
      have HBT : Hid (bt = min k 62) := hbt
      rw [← hbt]
      clear hbt
      have z1 : (0 : Int) ≤ (k : Int) := by omega
      have z2 : (k : Int) < (n : Int) := by omega
      have z3 := HCP.out
      by_cases htn : (k : Int) = torn
      · have HLD : Hid (∀ wx : World, Calls _ _ _ wx _) := fun wx => dlaid_q st (r.take pc) p wx (by rw [List.length_take, hst]; omega) (by omega)
        have x1 : (ofL r).extract 0 pc = ofL (r.take pc) := by rw [extract_ofL]; simp
        have HS : Hid (LeftK m keep torn part (k + 1) (laidB st p (r.take pc))) := HK.out.next HX.out (by rw [if_pos htn, HPC.out]) (by rw [laidB_length (by rw [List.length_take, hst]; omega), hst])
        subst htn
        generalize r.take pc = rt at *
        generalize laidB st p rt = s2 at *
        have b0 : (0 : Int) ≤ (pc : Int) := by omega
        have b1 : (pc : Int) ≤ (r.length : Int) := by omega
        have b2 : (pc : Int).toNat = pc := by omega
        clear f1 hst
        go_upto_region 13 with fail
        go_quiet ((go_at_call 94; exact Calls.quiet_of (HLD.out _)))
        go_wp2_with fail
        go_round
        case rel => exact ⟨k + 1, _, by go_num, by omega, rfl, HS.out, below_drewN HB.out _⟩
        case measure => simp [intOf]; omega
      · have hne : ((k : Int) == torn) = false := by rw [Bool.eq_false_iff]; intro h; rw [beq_iff_eq] at h; exact htn h
        by_cases hb : (keep / (2 ^ bt : Nat)) % 2 ≠ 0
        · have HLD : Hid (∀ wx : World, Calls _ _ _ wx _) := fun wx => dlaid_q st r p wx (by rw [hst]; omega) (by omega)
          have HS : Hid (LeftK m keep torn part (k + 1) (laidB st p r)) := HK.out.next HX.out (by rw [if_neg htn, ← HBT.out, if_pos hb]) (by rw [laidB_length (by rw [hst]; omega), hst])
          have hbb : (Int.tmod (keep / (2 : Int) ^ bt) 2 != 0) = true := by rw [bit_bool]; exact decide_eq_true (by rw [Int.natCast_pow] at hb; exact hb)
          clear htn hb
          go_upto_region 15 with fail
          go_quiet ((go_at_call 94; exact Calls.quiet_of (HLD.out _)))
          go_wp2_with fail
          go_round
          case rel => exact ⟨k + 1, _, by go_num, by omega, rfl, HS.out, below_drewN HB.out _⟩
          case measure => simp [intOf]; omega
        · have HS : Hid (LeftK m keep torn part (k + 1) st) := HK.out.next HX.out (by rw [if_neg htn, ← HBT.out, if_neg hb]) hst
          have hbb : (Int.tmod (keep / (2 : Int) ^ bt) 2 != 0) = false := by rw [bit_bool]; exact decide_eq_false (by rw [Int.natCast_pow] at hb; exact hb)
          clear htn hb
          go_wp2_with fail
          go_round
          case rel => exact ⟨k + 1, _, by go_num, by omega, rfl, HS.out, HB.out⟩
          case measure => simp [intOf]; omega
    · have hk2 : k = n := by omega
      subst hk2
      have HE : Hid (m.left keep torn part = st) := by
        have := HK.out.eq
        rw [List.drop_of_length_le (by rw [HN.out]; exact Nat.le_refl _)] at this
        exact this
      go_wp2_with fail
      go_ret
      rw [HE.out]
      exact ⟨rfl, HB.out⟩
end Go.Proofs.YtmnajomkfnkmeaaGreatDoor
