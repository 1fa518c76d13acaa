import Derived.Test.YtmnajomkfnkmeaaGreatDoorFr
namespace Go.Proofs.YtmnajomkfnkmeaaGreatDoor
open Go.RowKit

/-! THE DOCUMENT's OWN READER -/
set_option maxHeartbeats 400000 in
theorem number_any (s : ByteArray) (w : World) (hs : s.size ≤ 4) :
    Calls Tryz.prog 131 #[.string s] w fun e w' => e = .returned (.int .i64 (numL (toL s))) ∧ w' = w := by
  have hL : (toL s).length = s.size := rfl
  go_enter Tryz.func131, Tryz.ntmps131
  go_wp2
  go_loop [3, 4] (fun n i => ∃ k : Nat, k ≤ s.size ∧ i = .int .i64 ((k : Int) - 1) ∧ n = .int .i64 (numL ((toL s).drop k))) (fun _ i => (intOf i + 1).toNat)
  case atStart => exact ⟨s.size, Nat.le_refl _, rfl, by rw [List.drop_of_length_le (by rw [hL]; exact Nat.le_refl _)]; rfl⟩
  case round =>
    obtain ⟨k, hk, rfl, rfl⟩ := hrel
    have hb := numL_lt ((toL s).drop k)
    have hlen : ((toL s).drop k).length ≤ 4 := by rw [List.length_drop, hL]; omega
    have hp : 256 ^ ((toL s).drop k).length ≤ 256 ^ 4 := Nat.pow_le_pow_right (by decide) hlen
    have hp4 : (256 : Nat) ^ 4 = 4294967296 := by decide
    by_cases hlt : 0 < k
    · obtain ⟨j, rfl⟩ : ∃ j, k = j + 1 := ⟨k - 1, by omega⟩
      have hj : j < s.size := by omega
      have HS : Hid (numL ((toL s).drop j) = s[j].toNat + 256 * numL ((toL s).drop (j + 1))) := by
        show _ = _
        have hj2 : j < (toL s).length := by rw [hL]; exact hj
        rw [List.drop_eq_getElem_cons hj2]
        rfl
      have hb2 : s[j].toNat < 256 := s[j].toNat_lt
      have hN : numL ((toL s).drop (j + 1)) < 4294967296 := by omega
      clear hp hb hlen
      generalize numL ((toL s).drop (j + 1)) = N at *
      go_wp2
      go_round
      case rel => exact ⟨j, by omega, by rfl, by rw [HS.out]; exact congrArg _ (by omega)⟩
      case measure => simp [intOf]
    · obtain rfl : k = 0 := by omega
      go_wp2
      go_ret
      exact ⟨rfl, rfl⟩

def SpotAt (w : World) (b : Nat) (p : Sp) : Prop := Blk w b #[.string (ofL p.s), .int .i64 p.pos, .bool p.bad] 191
theorem ers {a b : ByteArray} (h : a = b) : Ending.returned (.string a) = .returned (.string b) := by rw [h]
theorem noughtsB (n : Nat) : zA n = ofL (zeros n) := by unfold zA ofL zeros; simp

theorem SpotAt.setBad {w : World} {b : Nat} {p : Sp} (h : SpotAt w b p) : SpotAt (w.setCell ⟨b, 2, none⟩ (.bool true)) b ⟨p.s, p.pos, true⟩ := by
  have := Blk.set h 2 (.bool true)
  simpa [SpotAt] using this
theorem SpotAt.setPos {w : World} {b : Nat} {p : Sp} (h : SpotAt w b p) (n : Nat) : SpotAt (w.setCell ⟨b, 1, none⟩ (.int .i64 (n : Int))) b ⟨p.s, n, p.bad⟩ := by
  have := Blk.set h 1 (.int .i64 (n : Int))
  simpa [SpotAt] using this

set_option maxHeartbeats 400000 in
theorem take_any (b : Nat) (p : Sp) (n : Nat) (w : World) (h : SpotAt w b p) (hp : p.pos ≤ p.s.length) (hl : p.s.length ≤ 1000000) (hn : n ≤ 1000) :
    Calls Tryz.prog 136 #[.pointer (some ⟨b, 0, none⟩), .int .i64 n] w fun e w' => e = .returned (.string (ofL (spTake n p).1)) ∧ SpotAt w' b (spTake n p).2 ∧ Fr (· = b) w w' := by
  have c0 : w.cell? ⟨b, 0, none⟩ = some (.string (ofL p.s)) := Blk.cell h 0
  have c1 : w.cell? ⟨b, 1, none⟩ = some (.int .i64 p.pos) := Blk.cell h 1
  have c2 : w.cell? ⟨b, 2, none⟩ = some (.bool p.bad) := Blk.cell h 2
  have f1 : w.frozen? ⟨b, 1, none⟩ = false := Blk.frozen h 1
  have f2 : w.frozen? ⟨b, 2, none⟩ = false := Blk.frozen h 2
  have HH : Hid (SpotAt w b p) := h
  clear h
  have hz : (ofL p.s).size = p.s.length := rfl
  by_cases hb : p.bad = true
  · have HT : Hid (spTake n p = (zeros n, ⟨p.s, p.pos, true⟩)) := by show _ = _; unfold spTake; rw [if_pos (Or.inl hb)]
    rw [hb] at c2
    go_enter Tryz.func136, Tryz.ntmps136
    go_wp2_with fail
    go_quiet (fail)
    go_wp2_with fail
    refine (noughts_any n _ (by omega)).mono ?_
    rintro e w1 ⟨rfl, hb1⟩
    go_wp2_with fail
    go_ret
    rw [HT.out]
    have hs : SpotAt ((w.drewN nq).setCell ⟨b, 2, none⟩ (.bool true)) b ⟨p.s, p.pos, true⟩ := SpotAt.setBad (w := w.drewN nq) HH.out
    exact ⟨ers (noughtsB n), Blk.below hs hb1, (((Fr.refl (· = b) w).drewN nq).setCell _ (fun _ => rfl) _).trans (Fr.of_below hb1) (fun _ _ h => h)⟩
  · have hb0 : p.bad = false := by simpa using hb
    by_cases hc : p.s.length - p.pos < n
    · have HT : Hid (spTake n p = (zeros n, ⟨p.s, p.pos, true⟩)) := by show _ = _; unfold spTake; rw [if_pos (Or.inr hc)]
      rw [hb0] at c2
      go_enter Tryz.func136, Tryz.ntmps136
      go_wp2_with fail
      go_quiet (fail)
      go_wp2_with fail
      refine (noughts_any n _ (by omega)).mono ?_
      rintro e w1 ⟨rfl, hb1⟩
      go_wp2_with fail
      go_ret
      rw [HT.out]
      have hs : SpotAt ((w.drewN nq).setCell ⟨b, 2, none⟩ (.bool true)) b ⟨p.s, p.pos, true⟩ := SpotAt.setBad (w := w.drewN nq) HH.out
      exact ⟨ers (noughtsB n), Blk.below hs hb1, (((Fr.refl (· = b) w).drewN nq).setCell _ (fun _ => rfl) _).trans (Fr.of_below hb1) (fun _ _ h => h)⟩
    · have HT : Hid (spTake n p = ((p.s.drop p.pos).take n, ⟨p.s, p.pos + n, p.bad⟩)) := by show _ = _; unfold spTake; rw [if_neg (by rw [hb0]; simp; omega)]
      rw [hb0] at c2
      go_enter Tryz.func136, Tryz.ntmps136
      go_wp2_with fail
      go_quiet (fail)
      go_wp2_with fail
      go_quiet (fail)
      go_wp2_with fail
      go_ret
      rw [HT.out]
      refine ⟨ers (by rw [extract_ofL, Nat.add_sub_cancel_left]), ?_, ?_⟩
      · exact SpotAt.setPos (w := w.drewN _) HH.out (p.pos + n)
      · exact (((Fr.refl (· = b) w).drewN _).setCell _ (fun _ => rfl) _).drewN _

attribute [local go_sem] ofL_size
theorem take2 (b : Nat) (p : Sp) (n : Nat) (m : Int) (w : World) (h : SpotAt w b p) (hp : p.pos ≤ p.s.length) (hl : p.s.length ≤ 1000000) (hn : n ≤ 1000) (hm : m = n) :
    Calls Tryz.prog 136 #[.pointer (some ⟨b, 0, none⟩), .int .i64 m] w fun e w' => e = .returned (.string (ofL (spTake n p).1)) ∧ SpotAt w' b (spTake n p).2 ∧ Fr (· = b) w w' := hm ▸ take_any b p n w h hp hl hn
set_option maxHeartbeats 400000 in
theorem spn_any (b : Nat) (p : Sp) (wd lo hi : Nat) (w : World) (h : SpotAt w b p) (hp : p.pos ≤ p.s.length) (hl : p.s.length ≤ 1000000) (hn : wd ≤ 4) :
    Calls Tryz.prog 133 #[.pointer (some ⟨b, 0, none⟩), .int .i64 wd, .int .i64 lo, .int .i64 hi] w fun e w' => e = .returned (.int .i64 (spN wd lo hi p).1) ∧ SpotAt w' b (spN wd lo hi p).2 ∧ Fr (· = b) w w' := by
  have HH : Hid (SpotAt w b p) := h
  clear h
  have hlen := spTake_length wd p
  have HE : Hid (spN wd lo hi p = if numL (spTake wd p).1 < lo ∨ hi < numL (spTake wd p).1 then (lo, ⟨(spTake wd p).2.s, (spTake wd p).2.pos, true⟩) else (numL (spTake wd p).1, (spTake wd p).2)) := rfl
  have hnl := numL_lt (spTake wd p).1
  rw [hlen] at hnl
  have hnl4 : 256 ^ wd ≤ 256 ^ 4 := Nat.pow_le_pow_right (by decide) hn
  have hp4 : (256 : Nat) ^ 4 = 4294967296 := by decide
  have hN : numL (spTake wd p).1 < 4294967296 := by omega
  clear hnl hnl4 hp4
  go_enter Tryz.func133, Tryz.ntmps133
  go_wp2_with fail
  refine (take_any b p wd _ HH.out hp hl (by omega)).mono ?_
  rintro e w1 ⟨rfl, h1, hf1⟩
  have HS1 : Hid (SpotAt w1 b (spTake wd p).2) := h1
  clear h1
  generalize spTake wd p = q at *
  obtain ⟨q1, q2⟩ := q
  go_wp2_with fail
  refine (number_any (ofL q1) _ (by rw [ofL_size, hlen]; exact hn)).mono ?_
  rintro e w2 ⟨rfl, rfl⟩
  rw [toL_ofL]
  have c2 : w2.cell? ⟨b, 2, none⟩ = some (.bool q2.bad) := Blk.cell HS1.out 2
  have f2 : w2.frozen? ⟨b, 2, none⟩ = false := Blk.frozen HS1.out 2
  generalize numL q1 = m at *
  by_cases c : m < lo
  · have HF : Hid (spN wd lo hi p = (lo, ⟨q2.s, q2.pos, true⟩)) := HE.out.trans (if_pos (Or.inl c))
    go_wp2_with fail
    go_ret
    rw [HF.out]
    exact ⟨rfl, SpotAt.setBad HS1.out, hf1.setCell _ (fun _ => rfl) _⟩
  · by_cases d : hi < m
    · have HF : Hid (spN wd lo hi p = (lo, ⟨q2.s, q2.pos, true⟩)) := HE.out.trans (if_pos (Or.inr d))
      go_wp2_with fail
      go_ret
      rw [HF.out]
      exact ⟨rfl, SpotAt.setBad HS1.out, hf1.setCell _ (fun _ => rfl) _⟩
    · have HF : Hid (spN wd lo hi p = (m, q2)) := HE.out.trans (if_neg (by omega))
      go_wp2_with fail
      go_ret
      rw [HF.out]
      exact ⟨rfl, HS1.out, hf1⟩
theorem spnI (b : Nat) (p : Sp) (wd lo hi : Nat) (wd' lo' hi' : Int) (w : World) (h : SpotAt w b p) (hp : p.pos ≤ p.s.length) (hl : p.s.length ≤ 1000000) (hn : wd ≤ 4) (e1 : wd' = wd) (e2 : lo' = lo) (e3 : hi' = hi) :
    Calls Tryz.prog 133 #[.pointer (some ⟨b, 0, none⟩), .int .i64 wd', .int .i64 lo', .int .i64 hi'] w fun e w' => e = .returned (.int .i64 (spN wd lo hi p).1) ∧ SpotAt w' b (spN wd lo hi p).2 ∧ Fr (· = b) w w' := by
  subst e1; subst e2; subst e3; exact spn_any b p wd lo hi w h hp hl hn
set_option maxHeartbeats 400000 in
theorem spx_any (b : Nat) (p : Sp) (lo hi : Nat) (w : World) (h : SpotAt w b p) (hp : p.pos ≤ p.s.length) (hl : p.s.length ≤ 1000000) (hh : hi ≤ 255) (hlo : lo ≤ hi) :
    Calls Tryz.prog 134 #[.pointer (some ⟨b, 0, none⟩), .int .i64 lo, .int .i64 hi] w fun e w' => e = .returned (.string (ofL (spX lo hi p).1)) ∧ SpotAt w' b (spX lo hi p).2 ∧ Fr (· = b) w w' := by
  have HH : Hid (SpotAt w b p) := h
  clear h
  have HE : Hid (spX lo hi p = spTake (spN 1 lo hi p).1 (spN 1 lo hi p).2) := rfl
  have hle := (spN_le (w := 1) (p := p) hlo).1
  have hpos := spN_pos (w := 1) (lo := lo) (hi := hi) hp
  have hss := spN_s 1 lo hi p
  go_enter Tryz.func134, Tryz.ntmps134
  go_wp2_with fail
  refine (spnI b p 1 lo hi 1 lo hi _ HH.out hp hl (by omega) rfl rfl rfl).mono ?_
  rintro e w1 ⟨rfl, h1, hf1⟩
  have HS1 : Hid (SpotAt w1 b (spN 1 lo hi p).2) := h1
  have HSS : Hid ((spN 1 lo hi p).2.s = p.s) := hss
  clear h1 hss
  generalize spN 1 lo hi p = q at *
  obtain ⟨q1, q2⟩ := q
  go_wp2_with fail
  refine (take_any b q2 q1 _ HS1.out (by have := HSS.out; rw [this]; exact hpos) (by have := HSS.out; rw [this]; exact hl) (by omega)).mono ?_
  rintro e w2 ⟨rfl, h2, hf2⟩
  go_wp2_with fail
  go_ret
  rw [HE.out]
  exact ⟨rfl, h2, hf1.trans hf2 (fun _ _ h => h)⟩
end Go.Proofs.YtmnajomkfnkmeaaGreatDoor
