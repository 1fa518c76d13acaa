import Derived.Test.YtmnajomkfnkmeaaGreatDoorDrv
import Derived.Test.YtmnajomkfnkmeaaGreatDoorShelf
namespace Go.Proofs.YtmnajomkfnkmeaaGreatDoor
open Go.RowKit Go.Conc
attribute [local go_sem] ofL_size
theorem Fr.grownW {w w' : World} {row : Option Nat} (h : w.grownBy w' row) : Fr (fun b => row = some b) w w' := ⟨h.os, h.tape, h.output, h.size, fun k hk hn => h.block k hk (fun e => hn e.symm)⟩
end Go.Proofs.YtmnajomkfnkmeaaGreatDoor
namespace Go.Proofs.YtmnajomkfnkmeaaGreatDoor
open Go.RowKit Go.Conc
attribute [local go_sem] ofL_size
end Go.Proofs.YtmnajomkfnkmeaaGreatDoor
namespace Go.Proofs.YtmnajomkfnkmeaaGreatDoor
open Go.RowKit Go.Conc
attribute [local go_sem] ofL_size
end Go.Proofs.YtmnajomkfnkmeaaGreatDoor
namespace Go.Proofs.YtmnajomkfnkmeaaGreatDoor
open Go.RowKit Go.Conc
attribute [local go_sem] ofL_size
theorem info_u8 : (Tryz.prog.info? 5).map (fun i => (i.zero, i.size, i.bytes)) = some (some (.int .u8 0), 1, 1) := by kernel_rfl
theorem By.of_row {w : World} {g cap n : Nat} {l : Bs} (hn : n = l.length) (h : w.ownsRow 0 5 1 (.slice (some ⟨g, 0, none⟩) n cap) n (u8s l)) : By w g l := by
  rcases h.2 with ⟨h1, _⟩ | ⟨g', cap', cur, h1, _, h3, h4, h5, h6, h7⟩
  · cases h1
  · simp only [Value.slice.injEq, Option.some.injEq, Addr.mk.injEq, and_true] at h1
    obtain ⟨rfl, _, rfl⟩ := h1
    have hb : Blk w g cur 5 := h3
    refine ⟨hb.lt, fun i hi => ?_, fun i hi => Blk.frozen hb i⟩
    rw [Blk.cell hb]
    have hg : (u8s l)[i]? = some (u8V l[i]) := by unfold u8s; rw [List.getElem?_map, List.getElem?_eq_getElem hi]; rfl
    rw [← h7, List.getElem?_take, if_pos (by omega)] at hg
    simpa using hg
set_option maxRecDepth 20000 in
set_option maxHeartbeats 400000 in
theorem clone_bytes (b c : Nat) (l : Bs) (w : World) (h : By w b l) (hl : 0 < l.length) (hm : l.length ≤ 1000000) :
    Calls Tryz.prog 112 #[.slice (some ⟨b, 0, none⟩) l.length c] w fun e w' => ∃ g cap, e = .returned (.slice (some ⟨g, 0, none⟩) l.length cap) ∧ By w' g l ∧ w.heap.size ≤ g ∧ l.length ≤ cap ∧ cap ≤ maxLen ∧ Below w.heap.size w w' := by
  obtain ⟨i0, hi, hzz⟩ := Option.map_eq_some_iff.1 info_u8
  simp only [Prod.mk.injEq] at hzz
  obtain ⟨hz, hs0, hb⟩ := hzz
  have HI : Hid (Tryz.prog.info? 5 = some i0) := hi
  have HZ : Hid (i0.zero = some (.int .u8 0)) := hz
  have HS : Hid (i0.size = 1) := hs0
  have HB : Hid (i0.bytes = 1) := hb
  have HY : Hid (By w b l) := h
  have HLM : Hid (0 < l.length ∧ l.length ≤ 1000000) := ⟨hl, hm⟩
  have qT : ∀ (w : World) (a : Option Addr) (n c n' c' : Nat), (binOp .eql 39 (.slice a n c) (.slice none n' c')).run Tryz.prog w = .ok (.bool a.isNone) w := fun w a n c n' c' => Lib.run_eql_slice_nil w _ _ a n c n' c' Tryz.underlying39
  have HO : Hid (World.ownsRow (w.alloc (.cells #[] 5)) 0 5 1 (.slice (some ⟨w.heap.size, 0, none⟩) 0 0) 0 []) := ⟨rfl, Or.inr ⟨w.heap.size, 0, #[], rfl, Nat.zero_le _, Blk.new w #[] _, Nat.le_refl _, by unfold maxLen; omega, rfl, rfl⟩⟩
  have HN : Hid (∀ (j : Nat) (u : Value), (u8s l)[j]? = some u → (w.alloc (.cells #[] 5)).cell? ((⟨b, 0, none⟩ : Addr).add j) = some u) := fun j u hu => by
    have hj : j < l.length := by
      have := (List.getElem?_eq_some_iff.1 hu).1
      rwa [u8s_length] at this
    have hadd : (⟨b, 0, none⟩ : Addr).add j = ⟨b, j, none⟩ := by unfold Addr.add; split <;> simp_all
    rw [hadd, (h.kept (S := fun _ => False) ((Fr.refl _ w).alloc _) (fun h => h)).cell j hj, ← hu]
    unfold u8s
    rw [List.getElem?_map, List.getElem?_eq_getElem hj]; rfl
  have H1 : Hid (∀ u ∈ u8s l, u.oneCell' = true) := fun u hu => by obtain ⟨x, _, rfl⟩ := List.mem_map.1 hu; rfl
  have HL1 : Hid ((u8s l).length = l.length * 1) := by show _ = _; rw [u8s_length]; omega
  have H63 : Hid (0 + l.length ≤ maxLen) := by show _ ≤ _; unfold maxLen; omega
  have HBY : Hid ((0 + l.length) * 1 ≤ 140737488355328) := by show _ ≤ _; omega
  have HPB : Hid (Below w.heap.size w (w.alloc (.cells #[] 5))) := (Below.refl _ _).alloc (Nat.le_refl _) _
  clear hi hz hs0 hb h hl hm
  generalize hn : l.length = n at *
  have HNL : Hid (l.length = n) := hn
  clear hn
  go_enter Tryz.func112, Tryz.ntmps112
  go_wp2_with (at_builtin; refine wpList_append_lies _ rfl _ _ 39 rfl 0 5 i0 (.int .u8 0) 1 1 Tryz.underlying39 HI.out HZ.out HS.out HB.out rfl (by decide) _ 0 [] rfl HO.out ⟨b, 0, none⟩ n c (u8s l) rfl HL1.out HN.out H1.out HLM.out.1 H63.out HBY.out (Nat.zero_le _) _ rfl ?_; intro g cap w2 hown hgr hloc hlt)
  rw [Nat.zero_add, List.nil_append] at hown
  have hgr : (w.alloc (.cells #[] 5)).grownBy w2 (some w.heap.size) := hgr
  have hloc : some w.heap.size = some g ∨ g = (w.alloc (.cells #[] 5)).heap.size := hloc
  have hsz : (w.alloc (.cells #[] 5)).heap.size = w.heap.size + 1 := by simp
  have hge : w.heap.size ≤ g := by
    rcases hloc with h | h
    · injection h with h; omega
    · omega
  have hcap : n ≤ cap ∧ cap ≤ maxLen := by
    rcases hown.2 with ⟨h1, _⟩ | ⟨g', cap', cur, h1, _, h3, h4, h5, h6, h7⟩
    · cases h1
    · simp only [Value.slice.injEq, Option.some.injEq, Addr.mk.injEq, and_true] at h1
      obtain ⟨_, _, rfl⟩ := h1
      exact ⟨h4, h5⟩
  refine bodyPost_ret (v := .slice (some ⟨g, 0, none⟩) n cap) (by simp [results, Tryz.results112, go_sem]) rfl ⟨g, cap, rfl, By.of_row HNL.out.symm hown, hge, hcap.1, hcap.2, ?_⟩
  have hf := Fr.grownW hgr
  exact HPB.out.trans (hf.below_of w.heap.size (by omega) (fun i hi e => by injection e with e; omega))
theorem i64_and1 (x : Int) : bits .and .i64 x 1 = x % 2 := by
  have h15 : (BitVec.ofInt 64 1).toNat = 2 ^ 1 - 1 := by decide
  have key : (BitVec.ofInt 64 x &&& BitVec.ofInt 64 1).toNat = (x % ((2 ^ 64 : Nat) : Int)).toNat % 2 ^ 1 := by
    rw [BitVec.toNat_and, BitVec.toNat_ofInt, h15, Nat.and_two_pow_sub_one_eq_mod]
  show IntKind.i64.wrap ((BitVec.ofInt 64 x &&& BitVec.ofInt 64 1).toNat : Nat) = x % 2
  rw [key, IntKind.wrap_i64]
  omega
set_option maxHeartbeats 400000 in
theorem hasBit_any (n : Int) (i : Nat) (w : World) :
    Calls Tryz.prog 113 #[.int .i64 n, .int .i64 i] w fun e w' => e = .returned (.bool (decide ((n / (2 ^ (min i 62) : Nat)) % 2 ≠ 0))) ∧ w' = w := by
  go_enter Tryz.func113, Tryz.ntmps113
  go_wp2_with fail
  go_ret
  rw [i64_and1, show (min (i : Int) 62).toNat = min i 62 by omega]
  have key : (n / (2 : Int) ^ min i 62 % 2 == 1) = decide ((n / (2 ^ (min i 62) : Nat)) % 2 ≠ 0) := by
    rw [Bool.eq_iff_iff]
    simp only [beq_iff_eq, decide_eq_true_eq, ne_eq, Int.natCast_pow]
    show n / (2 : Int) ^ min i 62 % 2 = 1 ↔ ¬ n / (2 : Int) ^ min i 62 % 2 = 0
    have := Int.emod_two_eq (n / (2 : Int) ^ min i 62)
    omega
  exact ⟨congrArg (fun b => Ending.returned (.bool b)) key, rfl⟩
/-- what is left, so far -/
structure Lefting (w : World) (d : Dv) (keep torn part : Int) (wx : World) (g k : Nat) (st : Bs) : Prop where
  by_ : By wx g st
  below : Below w.heap.size w wx
  eq : d.left keep torn part = leftAux keep torn part k st ((d.way.drop k).map fun s => slice d.written (32 * s))
  len : st.length = d.stable.length
theorem Lefting.next {w : World} {d : Dv} {keep torn part : Int} {wx w2 : World} {g k m : Nat} {st : Bs} (h : Lefting w d keep torn part wx g k st) (hg : w.heap.size ≤ g) (hok : d.ok) (hk : k < d.way.length)
    (hy : By w2 g (laidB st (32 * d.way[k]) ((d.written.drop (32 * d.way[k])).take m))) (hf : Fr (· = g) wx w2) (hm : m ≤ 32)
    (he : m = if (k : Int) = torn then clampP part else if (keep / (2 ^ (min k 62) : Nat)) % 2 ≠ 0 then 32 else 0) :
    Lefting w d keep torn part w2 g (k + 1) (laidB st (32 * d.way[k]) ((d.written.drop (32 * d.way[k])).take m)) := by
  have hin := hok.way d.way[k] (List.getElem_mem hk)
  have hx : ((d.written.drop (32 * d.way[k])).take m).length = m := by rw [List.length_take, List.length_drop, hok.wsize]; omega
  refine ⟨hy, h.below.trans (hf.below_of _ h.below.size (fun i hi e => by omega)), ?_, ?_⟩
  · rw [h.eq, List.drop_eq_getElem_cons hk, List.map_cons, leftAux_cons]
    congr 1
    show (if (k : Int) = torn then laidB st (32 * d.way[k]) (((d.written.drop (32 * d.way[k])).take 32).take (clampP part)) else if (keep / (2 ^ (min k 62) : Nat)) % 2 ≠ 0 then laidB st (32 * d.way[k]) ((d.written.drop (32 * d.way[k])).take 32) else st) = _
    rw [he]
    split
    · rw [List.take_take, show min (clampP part) 32 = clampP part by unfold clampP; omega]
    · split
      · rfl
      · rw [List.take_zero, laidB_nil]
  · rw [laidB_length (by rw [hx, h.len]; omega), h.len]
set_option maxRecDepth 20000 in
set_option maxHeartbeats 2000000 in
theorem left_any (db B : Nat) (F : Nat → Prop) (d : Dv) (keep torn part : Int) (w : World) (h : DrvAt w B db F d) (hok : d.ok) (h0 : -9223372036854775808 ≤ keep ∧ keep ≤ 9223372036854775807) (h2 : -9223372036854775808 ≤ part ∧ part ≤ 9223372036854775807) :
    Calls Tryz.prog 61 #[.pointer (some ⟨db, 0, none⟩), .int .i64 keep, .int .i64 torn, .int .i64 part] w fun e w' => e = .returned (.string (ofL (d.left keep torn part))) ∧ Below w.heap.size w w' := by
  obtain ⟨cb, sb, wb, uv, c1, c2, hp, hF⟩ := h
  have hsz := hok.size
  have k2 : w.cell? ⟨db, 2, none⟩ = some (byS sb d.stable.length c1) := Blk.cell hp.blk 2
  have HP : Hid (DrvP w B db cb sb wb uv c1 c2 d) := hp
  have HOK : Hid d.ok := hok
  have HKB : Hid (-9223372036854775808 ≤ keep ∧ keep ≤ 9223372036854775807) := h0
  unfold byS at k2
  clear hp hok hF h0
  go_enter Tryz.func61, Tryz.ntmps61
  go_wp2_with fail
  refine (clone_bytes sb c1 d.stable _ HP.out.stable (by have := hsz.2.1; omega) (by have := hsz.2.2; omega)).mono ?_
  rintro e w1 ⟨g, cap, rfl, hy, hg, hc1, hc2, hb1⟩
  have HL : Hid (Lefting w d keep torn part w1 g 0 d.stable) := ⟨hy, hb1, rfl, rfl⟩
  have HG : Hid (w.heap.size ≤ g ∧ d.stable.length ≤ cap ∧ cap ≤ maxLen) := ⟨hg, hc1, hc2⟩
  have k4 : w1.cell? ⟨db, 4, none⟩ = some uv := Blk.cell (HP.out.blk.below hb1) 4
  clear hy hg hc1 hc2 hb1 k2
  rcases HP.out.way.cases with ⟨rfl, hw0⟩ | ⟨q, cap0, cur, rfl, hb, hn, hm, hc, ht⟩
  · have ht := By.text (cap := cap) HL.out.by_
    have HE : Hid (d.left keep torn part = d.stable) := by
      have := HL.out.eq
      rw [show d.way = [] from hw0] at this
      exact this
    go_wp2_with fail
    refine wp_loop_rounds 1 ?_
    rw [rounds_succ]
    go_wp2_with fail
    go_ret
    rw [HE.out]
    exact ⟨rfl, HL.out.below⟩
  · have HM : Hid (d.way.length ≤ cap0 ∧ cap0 ≤ maxLen) := ⟨hn, hm⟩
    clear hb hn hm hc ht cur
    have HWC : Hid (∀ i (hi : i < d.way.length), w.cell? ⟨q, i, none⟩ = some (.int .i64 (d.way[i] : Int))) := WO.cell HP.out.way
    have hq : q < w.heap.size := HP.out.way.lt q rfl
    have hdw : db < w.heap.size := HP.out.blk.lt
    have HHD : Hid (w.cell? ⟨db, 3, none⟩ = some (byS wb d.written.length c2)) := Blk.cell HP.out.blk 3
    have HWY : Hid (By w wb d.written) := HP.out.written
    have HCC : Hid (d.written.length ≤ c2) := HP.out.caps.2.2.1
    clear HP
    obtain ⟨n, hn⟩ : ∃ n, n = d.way.length := ⟨_, rfl⟩
    rw [← hn] at k4
    have HNN : Hid (d.way.length = n) := hn.symm
    have hnm : n ≤ 9223372036854775807 := by have := HM.out; unfold maxLen at this; omega
    have HNM : Hid (n ≤ 9223372036854775807) := hnm
    clear hn hnm
    go_wp2_with fail
    go_loopw [24] (fun iv wx => ∃ (k : Nat) (st : Bs), iv = .int .i64 k ∧ k ≤ n ∧ Hid (Lefting w d keep torn part wx g k st)) (fun iv _ => n - (intOf iv).toNat)
    case atStart => exact ⟨0, d.stable, rfl, Nat.zero_le _, HL.out⟩
    case round =>
      obtain ⟨k, st, rfl, hk, HK⟩ := hrel
      by_cases hlt : k < n
      · have hkn : k < d.way.length := by rw [HNN.out]; exact hlt
        have kq : wr.cell? ⟨q, k, none⟩ = some (.int .i64 (d.way[k] : Int)) := (below_cell HK.out.below hq).trans (HWC.out k hkn)
        have c3 : wr.cell? ⟨db, 3, none⟩ = some (byS wb d.written.length c2) := (below_cell HK.out.below hdw).trans HHD.out
        unfold byS at c3
        have HIN : Hid (32 * d.way[k] + 32 ≤ d.stable.length) := HOK.out.way d.way[k] (List.getElem_mem hkn)
        have HCP : Hid (st.length = d.stable.length ∧ d.stable.length ≤ cap ∧ d.written.length ≤ c2) := ⟨HK.out.len, HG.out.2.1, HCC.out⟩
        have HWS : Hid (d.written.length = d.stable.length) := HOK.out.wsize
        have hsb : (d.way[k] : Int) ≤ 200 := by have := HIN.out; have := hsz.2.2; omega
        by_cases htn : (k : Int) = torn
        · obtain ⟨m, hmm⟩ : ∃ m, m = clampP part := ⟨_, rfl⟩
          have hm32 : m ≤ 32 := by rw [hmm]; unfold clampP; omega
          obtain ⟨w2, hr2, hy2, hf2, hz2⟩ := (HK.out.by_.drew).bytes (k := m) (p := 32 * d.way[k]) (q := 32 * d.way[k]) (((HWY.out.kept (S := fun _ => False) ((HK.out.below.mono (Nat.le_refl _)) |> Fr.of_below) (fun h => h))).drew) (by have := HIN.out; have := HCP.out; omega) (by have := HIN.out; have := HWS.out; omega)
          have HNX : Hid (Lefting w d keep torn part w2 g (k + 1) (laidB st (32 * d.way[k]) ((d.written.drop (32 * d.way[k])).take m))) := HK.out.next HG.out.1 HOK.out hkn hy2 ((Fr.refl (· = g) wr).drew.trans hf2 (fun _ _ h => h)) hm32 (by rw [if_pos htn]; exact hmm)
          clear hy2 hf2 hz2
          generalize d.way[k] = s at *
          have hmx : min (max part 0) 32 = (m : Int) := by rw [hmm]; unfold clampP; omega
          clear hmm
          subst htn
          go_wp2_with fail
          have e6 : (s : Int) * 32 = ((32 * s : Nat) : Int) := by omega
          rw [e6]
          clear e6 kq hsb
          generalize 32 * s = o at *
          have hcp := fun ty => hr2 (d.written.length - o) m (cap - o) (c2 - o) ty (by have := HIN.out; have := HWS.out; exact Nat.min_eq_right (by omega))
          clear hr2
          have hi := HIN.out
          have hb := HCP.out
          have hws := HWS.out
          have g1 : (o : Int) + m ≤ cap := by omega
          have g2 : (o : Int) ≤ d.written.length := by omega
          have g3 : (d.written.length : Int) ≤ c2 := by omega
          have g4 : ¬ cap = o := by omega
          have g5 : ¬ c2 = o := by omega
          have g6 : (0 : Int) ≤ o := by omega
          have g7 : (o : Int) ≤ o + m := by omega
          have e1 : IntKind.i64.wrap ((o : Int) + m) = (o : Int) + m := by have := hsz.2.2; rw [IntKind.wrap_i64]; omega
          have n1 : ((o : Int) + m).toNat = o + m := by omega
          have n2 : o + m - o = m := by omega
          have hnk : (n : Int) ≤ 9223372036854775807 := by have := HNM.out; omega
          clear hb hi hws
          go_region
          go_wp2_with fail
          go_round
          case rel => exact ⟨k + 1, _, by go_num, by omega, HNX.out⟩
          case measure => simp [intOf]; omega
        · have hne : ((k : Int) == torn) = false := by rw [Bool.eq_false_iff]; intro h; rw [beq_iff_eq] at h; exact htn h
          by_cases hbt : (keep / (2 ^ (min k 62) : Nat)) % 2 ≠ 0
          · obtain ⟨m, hmm⟩ : ∃ m, m = 32 := ⟨_, rfl⟩
            have hm32 : m ≤ 32 := by omega
            obtain ⟨w2, hr2, hy2, hf2, hz2⟩ := (HK.out.by_.drew).bytes (k := m) (p := 32 * d.way[k]) (q := 32 * d.way[k]) (((HWY.out.kept (S := fun _ => False) ((HK.out.below.mono (Nat.le_refl _)) |> Fr.of_below) (fun h => h))).drew) (by have := HIN.out; have := HCP.out; omega) (by have := HIN.out; have := HWS.out; omega)
            have HNX : Hid (Lefting w d keep torn part w2 g (k + 1) (laidB st (32 * d.way[k]) ((d.written.drop (32 * d.way[k])).take m))) := HK.out.next HG.out.1 HOK.out hkn hy2 ((Fr.refl (· = g) wr).drew.trans hf2 (fun _ _ h => h)) hm32 (by rw [if_neg htn, if_pos hbt]; exact hmm)
            clear hy2 hf2 hz2
            generalize d.way[k] = s at *
            have HBT : Hid (decide ((keep / (2 ^ (min k 62) : Nat)) % 2 ≠ 0) = true) := decide_eq_true hbt
            clear hbt
            subst hmm
            go_wp2_with fail
            refine (hasBit_any keep k _).mono ?_
            rintro e w3 ⟨rfl, rfl⟩
            rw [HBT.out]
            go_wp2_with fail
            have e6 : (s : Int) * 32 = ((32 * s : Nat) : Int) := by omega
            rw [e6]
            clear e6 kq hsb
            generalize 32 * s = o at *
            have hcp := fun ty => hr2 (d.written.length - o) 32 (cap - o) (c2 - o) ty (by have := HIN.out; have := HWS.out; exact Nat.min_eq_right (by omega))
            clear hr2
            have hi := HIN.out
            have hb := HCP.out
            have hws := HWS.out
            have g1 : (o : Int) + 32 ≤ cap := by omega
            have g2 : (o : Int) ≤ d.written.length := by omega
            have g3 : (d.written.length : Int) ≤ c2 := by omega
            have g4 : ¬ cap = o := by omega
            have g5 : ¬ c2 = o := by omega
            have g6 : (0 : Int) ≤ o := by omega
            have g7 : (o : Int) ≤ o + 32 := by omega
            have e1 : IntKind.i64.wrap ((o : Int) + 32) = (o : Int) + 32 := by have := hsz.2.2; rw [IntKind.wrap_i64]; omega
            have n1 : ((o : Int) + 32).toNat = o + 32 := by omega
            have n2 : o + 32 - o = 32 := by omega
            have hnk : (n : Int) ≤ 9223372036854775807 := by have := HNM.out; omega
            clear hb hi hws
            go_region
            go_wp2_with fail
            go_round
            case rel => exact ⟨k + 1, _, by go_num, by omega, HNX.out⟩
            case measure => simp [intOf]; omega
          · skip
            obtain ⟨m, hmm⟩ : ∃ m, m = 0 := ⟨_, rfl⟩
            have hm32 : m ≤ 32 := by omega
            obtain ⟨w2, hr2, hy2, hf2, hz2⟩ := (HK.out.by_.drew).bytes (k := m) (p := 32 * d.way[k]) (q := 32 * d.way[k]) (((HWY.out.kept (S := fun _ => False) ((HK.out.below.mono (Nat.le_refl _)) |> Fr.of_below) (fun h => h))).drew) (by have := HIN.out; have := HCP.out; omega) (by have := HIN.out; have := HWS.out; omega)
            have HNX : Hid (Lefting w d keep torn part w2 g (k + 1) (laidB st (32 * d.way[k]) ((d.written.drop (32 * d.way[k])).take m))) := HK.out.next HG.out.1 HOK.out hkn hy2 ((Fr.refl (· = g) wr).drew.trans hf2 (fun _ _ h => h)) hm32 (by rw [if_neg htn, if_neg hbt]; exact hmm)
            clear hy2 hf2 hz2
            generalize d.way[k] = s at *
            have HBT : Hid (decide ((keep / (2 ^ (min k 62) : Nat)) % 2 ≠ 0) = false) := decide_eq_false hbt
            clear hbt
            subst hmm
            go_wp2_with fail
            refine (hasBit_any keep k _).mono ?_
            rintro e w3 ⟨rfl, rfl⟩
            rw [HBT.out]
            go_wp2_with fail
            have e6 : (s : Int) * 32 = ((32 * s : Nat) : Int) := by omega
            rw [e6]
            clear e6 kq hsb
            generalize 32 * s = o at *
            have hcp := fun ty => hr2 (d.written.length - o) 0 (cap - o) (c2 - o) ty (by have := HIN.out; have := HWS.out; exact Nat.min_eq_right (by omega))
            clear hr2
            have hi := HIN.out
            have hb := HCP.out
            have hws := HWS.out
            have g1 : (o : Int) ≤ cap := by omega
            have g2 : (o : Int) ≤ d.written.length := by omega
            have g3 : (d.written.length : Int) ≤ c2 := by omega
            have g4 : ¬ cap = o := by omega
            have g5 : ¬ c2 = o := by omega
            have g6 : (0 : Int) ≤ o := by omega
            have e1 : IntKind.i64.wrap (o : Int) = (o : Int) := by have := hsz.2.2; rw [IntKind.wrap_i64]; omega
            have hnk : (n : Int) ≤ 9223372036854775807 := by have := HNM.out; omega
            clear hb hi hws
            go_region
            go_wp2_with fail
            go_round
            case rel => exact ⟨k + 1, _, by go_num, by omega, HNX.out⟩
            case measure => simp [intOf]; omega
      · have hk2 : k = n := by omega
        subst hk2
        have ht := By.text (cap := cap) HK.out.by_
        have HE : Hid (d.left keep torn part = st) := by
          have := HK.out.eq
          rw [← HNN.out, List.drop_of_length_le (Nat.le_refl _)] at this
          exact this
        have hln : st.length = d.stable.length := HK.out.len
        rw [hln] at ht
        go_wp2_with fail
        go_ret
        rw [HE.out]
        exact ⟨rfl, HK.out.below⟩
end Go.Proofs.YtmnajomkfnkmeaaGreatDoor
