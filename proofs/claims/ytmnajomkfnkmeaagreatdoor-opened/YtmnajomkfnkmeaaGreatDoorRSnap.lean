import Derived.Test.YtmnajomkfnkmeaaGreatDoorMapT
namespace Go.Proofs.YtmnajomkfnkmeaaGreatDoor
open Go.RowKit
open Op (bytesLess)
attribute [local go_sem] ofL_size

theorem gSess_id (r : Rd) : (gSess r).1.1 < 65536 := by
  unfold gSess gS1 gS2 gS3 gS4 gTail
  exact rdId_lt r
def snapTo (err : Value) (w : World) (o : Option Tab) (e : Ending) (w' : World) : Prop :=
  match o with
  | none => e = .returned (.tuple #[.pointer none, err])
  | some T => ∃ sb mb f D sl, e = .returned (.tuple #[.pointer (some ⟨sb, 0, none⟩), .nilIface]) ∧ TabAt w' sb T mb f D sl ∧ ∀ b, foot sb mb f sl b → w.heap.size ≤ b
set_option maxHeartbeats 2000000 in
theorem rsnap_any (p : Bs) (t0 : TypeId) (v0 : Value) (w : World) (he : w.cell? ⟨8, 0, none⟩ = some (.iface t0 v0)) (hg : 8 < w.heap.size) :
    Calls Tryz.prog 187 #[.string (ofL p)] w fun e w' => snapTo (.iface t0 v0) w (parseSnap p) e w' ∧ Below w.heap.size w w' := by
  have HE : Hid (w.cell? ⟨8, 0, none⟩ = some (.iface t0 v0)) := he
  have HQ : Hid (gSnap p = parseSnap p) := gSnap_eq p
  have hmm := @run_makeMap Tryz.prog
  clear he
  go_enter Tryz.func187, Tryz.ntmps187
  go_wp2_with fail
  refine (newSR_any _ _).mono ?_
  rintro e w1 ⟨rfl, hb1⟩
  go_wp2_with fail
  have hw1 : w.heap.size ≤ w1.heap.size := hb1.size
  have HR : Hid (RS (((w1.alloc (.cells #[.string (ofL p), .bool false, .bool false] 275)).alloc (.map #[] 0)).alloc (.cells #[.map (some (w1.heap.size + 1))] 158)) w1.heap.size ⟨p, false, false⟩) := Blk.alloc (Blk.alloc (Blk.new w1 _ _) _) _
  have HT : Hid (TabAt (((w1.alloc (.cells #[.string (ofL p), .bool false, .bool false] 275)).alloc (.map #[] 0)).alloc (.cells #[.map (some (w1.heap.size + 1))] 158)) (w1.heap.size + 1 + 1) noTab (w1.heap.size + 1) (fun _ => none) (.map []) (fun _ => .nilIface)) := by
    refine ⟨?_, ?_, fun i => rfl, (fun i p x h => by cases h), (fun i j p h => by cases h), (fun i j b h => by cases h)⟩
    · have := Blk.new ((w1.alloc (.cells #[.string (ofL p), .bool false, .bool false] 275)).alloc (.map #[] 0)) #[.map (some (w1.heap.size + 1))] 158
      simpa using this
    · have h0 := MapIs.made (w1.alloc (.cells #[.string (ofL p), .bool false, .bool false] 275))
      have h1 := h0.kept ((Fr.refl (fun _ => False) _).alloc (.cells #[.map (some (w1.heap.size + 1))] 158)) (fun h => h)
      simpa using h1
  have HF : Hid (Fr (fun _ => False) w (((w1.alloc (.cells #[.string (ofL p), .bool false, .bool false] 275)).alloc (.map #[] 0)).alloc (.cells #[.map (some (w1.heap.size + 1))] 158))) := (((((Fr.refl (fun _ => False) w).trans (Fr.of_below hb1) (fun _ _ h => h)).alloc _).alloc _).alloc _)
  have HFT : Hid (∀ b, foot (w1.heap.size + 1 + 1) (w1.heap.size + 1) (fun _ => none) (fun _ => .nilIface) b → w.heap.size ≤ b ∧ b ≠ w1.heap.size) := fun b hb => by
    rcases hb with rfl | rfl | ⟨i, hi⟩ | ⟨i, hi, _⟩
    · exact ⟨by omega, by omega⟩
    · exact ⟨by omega, by omega⟩
    · cases hi
    · cases hi
  clear hb1 hmm
  generalize ((w1.alloc (.cells #[.string (ofL p), .bool false, .bool false] 275)).alloc (.map #[] 0)).alloc (.cells #[.map (some (w1.heap.size + 1))] 158) = w2 at *
  generalize hbb : w1.heap.size = b at *
  have hbw : w.heap.size ≤ b := hw1
  clear hbb hw1
  refine (scount_any b _ 12 _ HR.out).mono ?_
  rintro e w3 ⟨rfl, h3, hf3⟩
  have HG : Hid (gSnap p = if (gSesss (rdCount 12 ⟨p, false, false⟩).1 0 (rdCount 12 ⟨p, false, false⟩).2 noTab).2.fit then some (gSesss (rdCount 12 ⟨p, false, false⟩).1 0 (rdCount 12 ⟨p, false, false⟩).2 noTab).1 else none) := rfl
  have hm := rdCount_le 12 ⟨p, false, false⟩
  have HR3 : Hid (RS w3 b (rdCount 12 ⟨p, false, false⟩).2) := h3
  have HT3 : Hid (TabAt w3 (b + 1 + 1) noTab (b + 1) (fun _ => none) (.map []) (fun _ => .nilIface)) := HT.out.kept hf3 (fun q hq => (HFT.out q hq).2)
  have HF3 : Hid (Fr (fun _ => False) w w3) := HF.out.trans hf3 (fun q hq e => by omega)
  clear h3 hf3 HR HT HF
  generalize rdCount 12 ⟨p, false, false⟩ = m at *
  obtain ⟨m1, m2⟩ := m
  go_wp2_with fail
  go_loopw [6, 14] (fun la iv wx => ∃ (j lo : Nat) (rj : Rd) (T : Tab) (f : Fn) (D : DataW Unit) (sl : Nat → Value), j ≤ m1 ∧ iv = .int .i64 j ∧ la = .int .i64 ((lo : Int) - 1) ∧ lo ≤ 65536 ∧ Hid (gSesss (m1 - j) lo rj T = gSesss m1 0 m2 noTab) ∧ Hid (RS wx b rj) ∧ Hid (TabAt wx (b + 1 + 1) T (b + 1) f D sl) ∧ Hid (Fr (fun _ => False) w wx) ∧ Hid (∀ q, foot (b + 1 + 1) (b + 1) f sl q → w.heap.size ≤ q ∧ q ≠ b)) (fun _ iv _ => m1 - (intOf iv).toNat)
  case atStart => exact ⟨0, 0, m2, noTab, _, _, _, Nat.zero_le _, rfl, rfl, by omega, rfl, HR3.out, HT3.out, HF3.out, HFT.out⟩
  case round =>
    obtain ⟨j, lo, rj, T, f, D, sl, hj, rfl, rfl, hlo, HGV, HR4, HT4, HF4, HFT4⟩ := hrel
    by_cases hlt : j < m1
    · have HGN : Hid (gSesss (m1 - j) lo rj T = gSesss (m1 - (j + 1)) ((gSess rj).1.1 + 1) (rdMust (decide (lo ≤ (gSess rj).1.1)) (gSess rj).2) (T.set (gSess rj).1.1 (some (gSess rj).1.2))) := by
        show _ = _
        rw [show m1 - j = (m1 - (j + 1)) + 1 by omega]; rfl
      have hid := gSess_id rj
      go_wp2_with fail
      refine (rsess_any b rj _ HR4.out).mono ?_
      rintro e w5 ⟨q, s, rfl, hs5, hr5, hf5, hq5, ho5⟩
      have hbr : b < wr.heap.size := Blk.lt HR4.out
      have HS5 : Hid (SAt w5 q (gSess rj).1.1 (gSess rj).1.2 s) := hs5
      have HR5 : Hid (RS w5 b (gSess rj).2) := hr5
      have HT5 : Hid (TabAt w5 (b + 1 + 1) T (b + 1) f D sl) := HT4.out.kept hf5 (fun q hq => (HFT4.out q hq).2)
      have HF5 : Hid (Fr (fun _ => False) w w5) := HF4.out.trans hf5 (fun q hq e => by omega)
      have HN5 : Hid (∀ i, f i ≠ some q) := fun i hi => by have := HT4.out.lt q (Or.inr (Or.inr (Or.inl ⟨i, hi⟩))); omega
      have HO5 : Hid (∀ i c, (f i).isSome = true → (sl i).ownBlock = some c → s.ownBlock ≠ some c) := fun i c hi hc hsc => by
        have := HT4.out.lt c (Or.inr (Or.inr (Or.inr ⟨i, hi, hc⟩)))
        have := ho5 c hsc
        omega
      have HQ5 : Hid (wr.heap.size ≤ q ∧ ∀ c, s.ownBlock = some c → wr.heap.size ≤ c) := ⟨hq5, ho5⟩
      have hqb : q ≠ b := by omega
      have hwr : Hid (w.heap.size ≤ wr.heap.size) := HF4.out.size
      clear hs5 hr5 hf5 hq5 ho5 HR4 HT4 HF4
      have c0 : w5.cell? ⟨q, 0, none⟩ = some (.int .i64 (gSess rj).1.1) := Blk.cell HS5.out.blk 0
      generalize gSess rj = g at *
      obtain ⟨⟨g1, g2⟩, g3⟩ := g
      go_wp2_with fail
      rw [show decide ((lo : Int) - 1 < (g1 : Int)) = decide (lo ≤ g1) from decide_eq_decide.2 (by omega)]
      generalize decide (lo ≤ g1) = ok at *
      refine (must_any b g3 ok _ HR5.out).mono ?_
      rintro e w6 ⟨rfl, h6, hf6⟩
      have HR6 : Hid (RS w6 b (rdMust ok g3)) := h6
      have HS6 : Hid (SAt w6 q g1 g2 s) := HS5.out.kept hf6 hqb (fun c hc e => by have := HQ5.out.2 c hc; omega)
      have HT6 : Hid (TabAt w6 (b + 1 + 1) T (b + 1) f D sl) := HT5.out.kept hf6 (fun q hq => (HFT4.out q hq).2)
      have HF6 : Hid (Fr (fun _ => False) w w6) := HF5.out.trans hf6 (fun q hq e => by omega)
      clear h6 hf6 HR5 HS5 HT5 HF5 c0
      have c0 : w6.cell? ⟨q, 0, none⟩ = some (.int .i64 g1) := Blk.cell HS6.out.blk 0
      have cs : w6.cell? ⟨b + 1 + 1, 0, none⟩ = some (.map (some (b + 1))) := Blk.cell HT6.out.blk 0
      obtain ⟨w7, D', hrun, hm7, hturn⟩ := (HT6.out.map.kept ((Fr.refl (fun _ => False) w6).drew) (fun h => h)).store g1 q hid
      go_wp2_with fail
      go_region
      have ht7 : Fr (· = b + 1) w6 w7 := (Fr.refl (· = b + 1) w6).drew.trans (Fr.turned hturn) (fun _ _ h => h)
      have HT7 : Hid (TabAt w7 (b + 1 + 1) (T.set g1 (some g2)) (b + 1) (f.set g1 (some q)) D' (fun k => if k = g1 then s else sl k)) := HT6.out.add HS6.out HN5.out HO5.out hm7 ht7
      have HR7 : Hid (RS w7 b (rdMust ok g3)) := Blk.kept HR6.out ht7 (by omega)
      have HF7 : Hid (Fr (fun _ => False) w w7) := HF6.out.trans ht7 (fun c hc e => by omega)
      have HFT7 : Hid (∀ c, foot (b + 1 + 1) (b + 1) (f.set g1 (some q)) (fun k => if k = g1 then s else sl k) c → w.heap.size ≤ c ∧ c ≠ b) := fun c hc => by
        have h1 := HQ5.out
        have h2 := hwr.out
        rcases hc with rfl | rfl | ⟨i, hi⟩ | ⟨i, hi, ho⟩
        · exact ⟨by omega, by omega⟩
        · exact ⟨by omega, by omega⟩
        · unfold Fn.set at hi
          by_cases e : i = g1
          · rw [if_pos e] at hi
            obtain rfl := Option.some.inj hi
            exact ⟨by omega, hqb⟩
          · rw [if_neg e] at hi
            exact HFT4.out c (Or.inr (Or.inr (Or.inl ⟨i, hi⟩)))
        · unfold Fn.set at hi
          simp only at ho
          by_cases e : i = g1
          · rw [if_pos e] at ho
            have := h1.2 c ho
            exact ⟨by omega, by omega⟩
          · rw [if_neg e] at hi ho
            exact HFT4.out c (Or.inr (Or.inr (Or.inr ⟨i, hi, ho⟩)))
      clear hrun hm7 hturn ht7 c0 cs
      go_wp2_with fail
      go_roundw
      case rel => exact ⟨j + 1, g1 + 1, _, _, _, _, _, by omega, by go_num, by simp, by omega, HGN.out.symm.trans HGV.out, HR7.out, HT7.out, HF7.out, HFT7.out⟩
      case measure => simp [intOf]; omega
    · obtain rfl : j = m1 := by omega
      have HE2 : Hid (gSesss j 0 m2 noTab = (T, rj)) := by
        have := HGV.out
        rw [Nat.sub_self] at this
        exact this.symm
      have HG2 : Hid (parseSnap p = if rj.fit = true then some T else none) := by
        have h1 := HG.out
        rw [HE2.out] at h1
        exact HQ.out.symm.trans h1
      clear HG HQ
      go_wp2_with fail
      refine (isFit_any b rj _ HR4.out).mono ?_
      rintro e w8 ⟨rfl, nq, rfl⟩
      generalize rj.fit = ft at *
      cases ft with
      | true =>
        go_wp2_with fail
        go_ret2
        rw [HG2.out]
        exact ⟨⟨b + 1 + 1, b + 1, f, D, sl, rfl, HT4.out.kept ((Fr.refl (fun _ => False) wr).drewN nq) (fun _ _ h => h), fun c hc => (HFT4.out c hc).1⟩, below_drewN HF4.out.below nq⟩
      | false =>
        have fe : wr.cell? ⟨8, 0, none⟩ = some (.iface t0 v0) := (HF4.out.cell (p := ⟨8, 0, none⟩) hg (fun h => h)).trans HE.out
        go_wp2_with fail
        go_quiet (fail)
        go_wp2_with fail
        go_ret2
        rw [HG2.out]
        exact ⟨rfl, below_drewN (below_drewN HF4.out.below _) _⟩
end Go.Proofs.YtmnajomkfnkmeaaGreatDoor
