import Derived.Test.YtmnajomkfnkmeaaGreatDoorKatA
import Derived.Test.YtmnajomkfnkmeaaGreatDoorStaD
import Derived.Deep.RegionHeld3
import Derived.Test.YtmnajomkfnkmeaaGreatDoorDrvL
namespace Go.Proofs.YtmnajomkfnkmeaaGreatDoor
open Go.RowKit Go.Conc
attribute [local go_sem] ofL_size
set_option maxHeartbeats 400000 in
theorem isSpan_any (u : Int) (w : World) :
    Calls Tryz.prog 126 #[.int .i64 u] w fun e w' => e = .returned (.bool (decide (1 ≤ u ∧ u ≤ 1000000000))) ∧ w' = w := by
  obtain ⟨r, hr⟩ : ∃ r, r = decide (1 ≤ u ∧ u ≤ 1000000000) := ⟨_, rfl⟩
  rw [← hr]
  have HR : Hid (r = decide (1 ≤ u ∧ u ≤ 1000000000)) := hr
  clear hr
  by_cases h1 : 1 ≤ u
  · have HR2 : Hid (r = decide (0 ≤ u ∧ u ≤ 1000000000)) := by
      show _ = _
      rw [HR.out]; congr 1; apply propext; omega
    go_enter Tryz.func126, Tryz.ntmps126
    go_wp2_with fail
    refine (isTime_any u _).mono ?_
    rintro e w' ⟨rfl, rfl⟩
    rw [← HR2.out]
    go_wp2_with fail
    go_ret
    exact ⟨rfl, rfl⟩
  · have HR2 : Hid (r = false) := HR.out.trans (decide_eq_false (fun h => h1 h.1))
    go_enter Tryz.func126, Tryz.ntmps126
    go_wp2
    go_ret
    exact ⟨by rw [HR2.out]; rfl, rfl⟩
theorem kdown_drv {w : World} {B kb db jb sb mb : Nat} {f : Fn} {D : DataW Unit} {sl : Nat → Value} {Fd : Nat → Prop} {m : Kp} {d : Dv} (h : KeepP w B kb db jb sb mb f D sl Fd m d) {w' : World} (hb : Below w.heap.size w w') :
    Calls Tryz.prog 54 #[.pointer (some ⟨db, 0, none⟩)] w' fun e w'' => e = .returned (.bool m.down) ∧ w'' = w' := by
  have := down_any db B Fd d w' (h.below hb).dj.drv
  rw [h.dj.kd.down] at this
  exact this
theorem MOK.ids {m : Kp} (h : MOK m) : ∀ i x, m.st.T i = some x → i < 4096 := fun i x hx => (h.wf.each i x hx).1
set_option maxHeartbeats 800000 in
theorem klive_any (B kb : Nat) (F : Nat → Prop) (m : Kp) (w : World) (h : KAt w B kb F m) :
    Calls Tryz.prog 25 #[.pointer (some ⟨kb, 0, none⟩)] w fun e w' => e = .returned (.tuple #[.int .i64 m.live.1, .int .i64 m.live.2]) ∧ w' = w := by
  obtain ⟨db, jb, sb, mb, f, D, sl, Fd, d, hp, -⟩ := h
  have HP : Hid (KeepP w B kb db jb sb mb f D sl Fd m d) := hp
  have HDN : Hid (Calls Tryz.prog 54 #[.pointer (some ⟨db, 0, none⟩)] w fun e w'' => e = .returned (.bool m.down) ∧ w'' = w) := kdown_drv hp (Below.refl _ _)
  have HL : Hid (m.live = if m.down then (0, 4) else (m.st.T.live, 0)) := rfl
  have k0 := Blk.cell HP.out.blk 0
  have k2 := Blk.cell HP.out.blk 2
  simp only [kepA, List.getElem?_toArray, List.getElem?_cons_zero, List.getElem?_cons_succ] at k0 k2
  clear hp
  generalize m.live = L at *
  by_cases hd : m.down = true
  · have HL2 : Hid (L = (0, 4)) := HL.out.trans (if_pos hd)
    go_enter Tryz.func25, Tryz.ntmps25
    go_wp2_with fail
    refine HDN.out.mono ?_
    rintro e w' ⟨rfl, rfl⟩
    rw [hd]
    clear hd
    go_wp2_with fail
    go_ret2
    exact ⟨by rw [HL2.out]; rfl, rfl⟩
  · have hu : m.down = false := Bool.eq_false_iff.2 hd
    have HL2 : Hid (L = (m.st.T.live, 0)) := HL.out.trans (if_neg hd)
    clear hd
    go_enter Tryz.func25, Tryz.ntmps25
    go_wp2_with fail
    refine HDN.out.mono ?_
    rintro e w' ⟨rfl, rfl⟩
    rw [hu]
    clear hu HDN
    go_wp2_with fail
    refine (live_any sb m.st.T mb f D sl _ HP.out.tab HP.out.ok.ids).mono ?_
    rintro e w' ⟨rfl, rfl⟩
    generalize m.st.T.live = n at *
    go_wp2_with fail
    go_ret2
    exact ⟨by rw [HL2.out]; rfl, rfl⟩
set_option maxHeartbeats 800000 in
theorem kleft_any (B kb : Nat) (F : Nat → Prop) (m : Kp) (keep torn part : Int) (w : World) (h : KAt w B kb F m) (h0 : -9223372036854775808 ≤ keep ∧ keep ≤ 9223372036854775807) (h2 : -9223372036854775808 ≤ part ∧ part ≤ 9223372036854775807) :
    Calls Tryz.prog 23 #[.pointer (some ⟨kb, 0, none⟩), .int .i64 keep, .int .i64 torn, .int .i64 part] w fun e w' => e = .returned (.string (ofL (m.left keep torn part))) ∧ Below w.heap.size w w' := by
  obtain ⟨db, jb, sb, mb, f, D, sl, Fd, d, hp, hF⟩ := h
  have hc := left_any db B Fd d keep torn part w hp.dj.drv hp.dj.ok h0 h2
  rw [hp.dj.kd.left] at hc
  have HC : Hid (Calls _ _ _ _ _) := hc
  have k0 := Blk.cell hp.blk 0
  simp only [kepA, List.getElem?_toArray, List.getElem?_cons_zero] at k0
  clear hp hF h0 h2 hc
  generalize m.left keep torn part = L at *
  go_enter Tryz.func23, Tryz.ntmps23
  go_wp2_with fail
  refine HC.out.mono ?_
  rintro e w1 ⟨rfl, hb⟩
  have HB : Hid (Below w.heap.size w w1) := hb
  clear hb HC k0
  go_wp2_with fail
  go_ret
  exact ⟨rfl, HB.out⟩
end Go.Proofs.YtmnajomkfnkmeaaGreatDoor
namespace Go.Proofs.YtmnajomkfnkmeaaGreatDoor
open Go.RowKit Go.Conc
attribute [local go_sem] ofL_size
end Go.Proofs.YtmnajomkfnkmeaaGreatDoor
namespace Go.Proofs.YtmnajomkfnkmeaaGreatDoor
open Go.RowKit Go.Conc
attribute [local go_sem] ofL_size
end Go.Proofs.YtmnajomkfnkmeaaGreatDoor
namespace Go.Proofs.YtmnajomkfnkmeaaGreatDoor
open Go.RowKit Go.Conc
attribute [local go_sem] ofL_size
end Go.Proofs.YtmnajomkfnkmeaaGreatDoor
namespace Go.Proofs.YtmnajomkfnkmeaaGreatDoor
open Go.RowKit Go.Conc
attribute [local go_sem] ofL_size
end Go.Proofs.YtmnajomkfnkmeaaGreatDoor
