import Derived.Test.YtmnajomkfnkmeaaGreatDoorRefS
import Derived.Deep.RegionWith
namespace Go.Proofs.YtmnajomkfnkmeaaGreatDoor
open Go.RowKit
attribute [local go_sem] ofL_size
/-! THE DOCUMENT's OWN KEEPER: what it holds is Kp's -/
def wrV (x : Nat × Bs) : List Value := [.int .i64 x.1, .string (ofL x.2)]
theorem wrV_length (x : Nat × Bs) : (wrV x).length = 2 := rfl
abbrev WYO (w : World) (s : Value) (l : List (Nat × Bs)) : Prop := Own w 145 2 wrV s l
def halfS (n : Nat) : Nat := (n / 32 - 2) / 2
theorem halfS_N (n : Nat) : halfN n = 32 * halfS n := rfl
def rkA (m : Kp) (seed cn : Int) (wv : Value) (tb : Nat) : Array Value :=
  #[.string (ofL m.secret), .int .i64 seed, .int .i64 m.idle, .int .i64 m.abs, .int .i64 cn, .int .i64 m.now, .int .i64 m.drawn, .string (ofL m.disk), wv, .int .i64 m.fuse, .bool m.down, .int .i64 (halfS m.disk.length), .int .i64 m.st.gen, .int .i64 m.st.reg, .int .i64 m.st.slot, .int .i64 m.st.endp, .int .i64 m.st.next, .slice (some ⟨tb, 0, none⟩) 4096 4096]
/-- bounds on what a keeper holds, whatever happens -/
structure Bnd (m : Kp) : Prop where
  wf : m.st.T.wf
  secret : m.secret.length ≤ 1000
  idle : m.idle ≤ 1000000000
  abs : m.abs ≤ 1000000000
  now : m.now ≤ 1000000000
  drawn : m.drawn < 65537
  size : okSize m.disk.length
  gen : m.st.gen < 4294967296
  reg : m.st.reg ≤ 1
  slot : m.st.slot ≤ 1
  endp : m.st.endp ≤ 6400
  next : m.st.next ≤ 100000
  fuse : (m.fuse : Int) ≤ 9223372036854775807
  few : m.way.length ≤ 1000
structure DKP (w : World) (kb : Nat) (seed cn : Int) (wv : Value) (tb : Nat) (f : RF) (m : Kp) : Prop where
  blk : Blk w kb (rkA m seed cn wv tb) 131
  tab : RT w tb m.st.T f
  way : WYO w wv m.way
  kt : ¬ rfoot tb f kb
  wk : ∀ b, wv.ownBlock = some b → b ≠ kb ∧ ¬ rfoot tb f b
  bnd : Bnd m
def rkfoot (kb tb : Nat) (f : RF) (wv : Value) (b : Nat) : Prop := b = kb ∨ rfoot tb f b ∨ wv.ownBlock = some b
theorem DKP.foot {w : World} {kb : Nat} {seed cn : Int} {wv : Value} {tb : Nat} {f : RF} {m : Kp} (h : DKP w kb seed cn wv tb f m) {b : Nat} (hb : rkfoot kb tb f wv b) : b < w.heap.size := by
  rcases hb with e | e | e
  · rw [e]; exact h.blk.lt
  · exact h.tab.foot e
  · exact h.way.lt e
theorem DKP.kept {S : Nat → Prop} {w w' : World} {kb : Nat} {seed cn : Int} {wv : Value} {tb : Nat} {f : RF} {m : Kp} (h : DKP w kb seed cn wv tb f m) (hf : Fr S w w') (hn : ∀ b, rkfoot kb tb f wv b → ¬ S b) : DKP w' kb seed cn wv tb f m :=
  ⟨h.blk.kept hf (hn kb (Or.inl rfl)), h.tab.kept hf (fun b hb => hn b (Or.inr (Or.inl hb))), h.way.kept hf (fun b hb => hn b (Or.inr (Or.inr hb))), h.kt, h.wk, h.bnd⟩
def DK (w : World) (kb : Nat) (F : Nat → Prop) (m : Kp) : Prop := ∃ seed cn wv tb f, DKP w kb seed cn wv tb f m ∧ ∀ b, F b ↔ rkfoot kb tb f wv b
theorem DK.foot {w : World} {kb : Nat} {F : Nat → Prop} {m : Kp} (h : DK w kb F m) {b : Nat} (hb : F b) : b < w.heap.size := by
  obtain ⟨_, _, _, _, _, hp, hF⟩ := h
  exact hp.foot ((hF b).1 hb)
theorem DK.kept {S : Nat → Prop} {w w' : World} {kb : Nat} {F : Nat → Prop} {m : Kp} (h : DK w kb F m) (hf : Fr S w w') (hn : ∀ b, F b → ¬ S b) : DK w' kb F m := by
  obtain ⟨seed, cn, wv, tb, f, hp, hF⟩ := h
  exact ⟨seed, cn, wv, tb, f, hp.kept hf (fun b hb => hn b ((hF b).2 hb)), hF⟩
theorem DK.below {w w' : World} {kb : Nat} {F : Nat → Prop} {m : Kp} (h : DK w kb F m) (hb : Below w.heap.size w w') : DK w' kb F m := h.kept (S := fun _ => False) (Fr.of_below hb) (fun _ _ h => h)
/-- cells of the keeper's own block are set -/
theorem DKP.turned {w w' : World} {kb : Nat} {seed cn : Int} {wv : Value} {tb : Nat} {f : RF} {m m' : Kp} (h : DKP w kb seed cn wv tb f m) (hf : Fr (fun b => b = kb) w w') (hb : Blk w' kb (rkA m' seed cn wv tb) 131) (ht : m'.st.T = m.st.T) (hw : m'.way = m.way) (ho : Bnd m') : DKP w' kb seed cn wv tb f m' :=
  ⟨hb, by rw [ht]; exact h.tab.kept hf (fun b hb e => h.kt (e ▸ hb)), by rw [hw]; exact h.way.kept hf (fun b hb e => (h.wk b hb).1 e), h.kt, h.wk, ho⟩
/-! ### its small calls -/
set_option maxHeartbeats 1000000 in
theorem din_any (n lo hi : Int) (w : World) :
    Calls Tryz.prog 77 #[.int .i64 n, .int .i64 lo, .int .i64 hi] w fun e w' => e = .returned (.bool (decide (lo ≤ n ∧ n ≤ hi))) ∧ w' = w := by
  obtain ⟨V, hV⟩ : ∃ V, V = decide (lo ≤ n ∧ n ≤ hi) := ⟨_, rfl⟩
  rw [← hV]
  by_cases h1 : lo ≤ n
  · by_cases h2 : n ≤ hi
    · have HV : Hid (V = true) := by rw [hV]; exact decide_eq_true ⟨h1, h2⟩
      clear hV
      go_enter Tryz.func77, Tryz.ntmps77
      go_wp2_with fail
      go_ret
      exact ⟨by rw [HV.out]; rfl, rfl⟩
    · have HV : Hid (V = false) := by rw [hV]; exact decide_eq_false (fun h => h2 h.2)
      clear hV
      go_enter Tryz.func77, Tryz.ntmps77
      go_wp2_with fail
      go_ret
      exact ⟨by rw [HV.out]; rfl, rfl⟩
  · have HV : Hid (V = false) := by rw [hV]; exact decide_eq_false (fun h => h1 h.1)
    clear hV
    go_enter Tryz.func77, Tryz.ntmps77
    go_wp2_with fail
    go_ret
    exact ⟨by rw [HV.out]; rfl, rfl⟩
set_option maxHeartbeats 1000000 in
theorem dklive_any (kb : Nat) (F : Nat → Prop) (m : Kp) (w : World) (h : DK w kb F m) :
    Calls Tryz.prog 44 #[.pointer (some ⟨kb, 0, none⟩)] w fun e w' => e = .returned (.tuple #[.int .i64 m.live.1, .int .i64 m.live.2]) ∧ w' = w := by
  obtain ⟨seed, cn, wv, tb, f, hp, hF⟩ := h
  have c10 := hp.blk.cell 10
  have c17 := hp.blk.cell 17
  simp only [rkA, List.getElem?_toArray, List.getElem?_cons_zero, List.getElem?_cons_succ] at c10 c17
  have HLV : Hid (Calls _ _ _ _ _) := rlive_any tb m.st.T f w hp.tab
  obtain ⟨V, hV⟩ : ∃ V, V = m.live := ⟨_, rfl⟩
  rw [← hV]
  cases hd : m.down with
  | true =>
    have HV : Hid (V = (0, 4)) := by rw [hV]; show _ = _; unfold Kp.live; rw [hd]; rfl
    rw [hd] at c10
    clear hV hp hF hd
    go_enter Tryz.func44, Tryz.ntmps44
    go_wp2_with fail
    go_ret2
    exact ⟨by rw [HV.out]; rfl, rfl⟩
  | false =>
    have HV : Hid (V = (m.st.T.live, 0)) := by rw [hV]; show _ = _; unfold Kp.live; rw [hd]; rfl
    rw [hd] at c10
    clear hV hp hF hd
    generalize m.st.T.live = lv at *
    go_enter Tryz.func44, Tryz.ntmps44
    go_wp2_with fail
    refine HLV.out.mono ?_
    rintro e w' ⟨rfl, hw'⟩
    subst w'
    go_wp2_with fail
    go_ret2
    exact ⟨by rw [HV.out]; rfl, rfl⟩
theorem fr_cell {w : World} {kb : Nat} (i : Nat) (v : Value) : Fr (fun b => b = kb) w (w.setCell ⟨kb, i, none⟩ v) := (Fr.refl (fun b => b = kb) w).setCell ⟨kb, i, none⟩ (fun _ => rfl) v
end Go.Proofs.YtmnajomkfnkmeaaGreatDoor
