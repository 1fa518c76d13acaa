import Derived.Test.YtmnajomkfnkmeaaGreatDoorNum
import Derived.Test.YtmnajomkfnkmeaaGreatDoorShelf
import Derived.Lib.EndianBits
import Derived.Deep.RegionWith
set_option maxHeartbeats 1000000
namespace Go.Proofs.YtmnajomkfnkmeaaGreatDoor
open Go.RowKit
attribute [local go_sem] ofL_size
theorem rs {a b : ByteArray} (h : a = b) : Ending.returned (.string a) = .returned (.string b) := by rw [h]
theorem ri {k : IntKind} {a b : Int} (h : a = b) : Ending.returned (.int k a) = .returned (.int k b) := by rw [h]
theorem rb {a b : Bool} (h : a = b) : Ending.returned (.bool a) = .returned (.bool b) := by rw [h]
def RAt (w : World) (b : Nat) (r : Rd) (tl : List Value) (T : TypeId) : Prop := Blk w b (.string (ofL r.rest) :: .bool r.short :: tl).toArray T
theorem RAt.c0 {w : World} {b : Nat} {r : Rd} {tl : List Value} {T : TypeId} (h : RAt w b r tl T) : w.cell? ⟨b, 0, none⟩ = some (.string (ofL r.rest)) := by have := Blk.cell h 0; simpa using this
theorem RAt.c1 {w : World} {b : Nat} {r : Rd} {tl : List Value} {T : TypeId} (h : RAt w b r tl T) : w.cell? ⟨b, 1, none⟩ = some (.bool r.short) := by have := Blk.cell h 1; simpa using this
theorem RAt.fr {w : World} {b : Nat} {r : Rd} {tl : List Value} {T : TypeId} (h : RAt w b r tl T) (i : Nat) : w.frozen? ⟨b, i, none⟩ = false := Blk.frozen h i
theorem RAt.set0 {w : World} {b : Nat} {r : Rd} {tl : List Value} {T : TypeId} (h : RAt w b r tl T) (l : Bs) (s : ByteArray) (hs : s = ofL l) : RAt (w.setCell ⟨b, 0, none⟩ (.string s)) b ⟨l, r.short, r.out⟩ tl T := by
 subst hs;have := Blk.set h 0 (.string (ofL l));unfold RAt;simpa using this
theorem RAt.set1 {w : World} {b : Nat} {r : Rd} {tl : List Value} {T : TypeId} (h : RAt w b r tl T) : RAt (w.setCell ⟨b, 1, none⟩ (.bool true)) b ⟨r.rest, true, r.out⟩ tl T := by
 have := Blk.set h 1 (.bool true);unfold RAt;simpa using this
theorem repeatZ (n : Nat) : (⟨(Lib.repeatL [0] n).toArray⟩ : ByteArray) = ofL (zeros n) := by
 have : Lib.repeatL [(0 : UInt8)] n = List.replicate n 0 := by simpa using Lib.repeatL_replicate (0 : UInt8) 1 n
 rw [this]; rfl
theorem extract_take (l : Bs) (n : Nat) : (ofL l).extract 0 n = ofL (l.take n) := by rw [extract_ofL, List.drop_zero, Nat.sub_zero]
theorem extract_drop (l : Bs) (n : Nat) : (ofL l).extract n l.length = ofL (l.drop n) := by rw [extract_ofL, List.take_of_length_le (by simp)]
theorem rtext_any (b : Nat) (r : Rd) (tl : List Value) (T : TypeId) (n : Nat) (w : World) (h : RAt w b r tl T) (hn : n ≤ 1000) :
  Calls Tryz.prog 232 #[.pointer (some ⟨b, 0, none⟩), .int .i64 n] w fun e w' => e = .returned (.string (ofL (rdText n r).1)) ∧ RAt w' b (rdText n r).2 tl T ∧ Fr (· = b) w w' := by
 have c0 := h.c0;have c1 := h.c1;have f0 := h.fr 0;have f1 := h.fr 1;have HH : Hid (RAt w b r tl T) := h;have hz : (ofL r.rest).size = r.rest.length := rfl;have hs1 : ({ data := #[0] } : ByteArray).size = 1 := rfl;clear h;by_cases hc : r.rest.length < n
 ·have HT : Hid (rdText n r = (zeros n, ⟨[], true, r.out⟩)) := by show _ = _; unfold rdText; rw [if_pos hc]
  go_enter Tryz.func232, Tryz.ntmps232;go_wp2_with fail;refine (Tryz.strings_Repeat { data := #[0] } n _ (by omega) (by rw [hs1]; omega)).mono ?_;rintro e w1 ⟨rfl, hb1⟩;go_wp2_with fail;go_ret;rw [HT.out];have hs : RAt ((w.setCell ⟨b, 0, none⟩ (.string { data := #[] })).setCell ⟨b, 1, none⟩ (.bool true)) b ⟨[], true, r.out⟩ tl T := (HH.out.set0 [] _ rfl).set1;exact ⟨rs (repeatZ n), Blk.below hs hb1, (((Fr.refl (· = b) w).setCell _ (fun _ => rfl) _).setCell _ (fun _ => rfl) _).trans (Fr.of_below hb1) (fun _ _ h => h)⟩
 ·have HT : Hid (rdText n r = (r.rest.take n, ⟨r.rest.drop n, r.short, r.out⟩)) := by show _ = _; unfold rdText; rw [if_neg hc]
  go_enter Tryz.func232, Tryz.ntmps232;go_wp2_with fail;go_ret;rw [HT.out];refine ⟨rs (extract_take _ _), ?_, (Fr.refl (· = b) w).setCell _ (fun _ => rfl) _⟩;exact HH.out.set0 _ _ (extract_drop _ _)
theorem rdText_out (n : Nat) (r : Rd) : (rdText n r).2.out = r.out := by unfold rdText; split <;> rfl
theorem rdText_size (n : Nat) (r : Rd) : (rdText n r).1.length = n := by
 unfold rdText zeros; split
 ·simp
 ·rename_i c; rw [List.length_take_of_le]; omega
theorem rtextI (b : Nat) (r : Rd) (tl : List Value) (T : TypeId) (n : Nat) (m : Int) (w : World) (h : RAt w b r tl T) (hn : n ≤ 1000) (hm : m = n) :
  Calls Tryz.prog 232 #[.pointer (some ⟨b, 0, none⟩), .int .i64 m] w fun e w' => e = .returned (.string (ofL (rdText n r).1)) ∧ RAt w' b (rdText n r).2 tl T ∧ Fr (· = b) w w' := hm ▸ rtext_any b r tl T n w h hn
theorem numL1 {l : Bs} (h : l.length = 1) : ∃ x, l = [x] ∧ numL l = x.toNat := by
 match l, h with
 | [x], _ => exact ⟨x, rfl, by simp [numL]⟩
theorem numL2 {l : Bs} (h : l.length = 2) : ∃ x y, l = [x, y] ∧ numL l = x.toNat + 256 * y.toNat := by
 match l, h with
 | [x, y], _ => exact ⟨x, y, rfl, by simp [numL]⟩
theorem rone_any (b : Nat) (r : Rd) (tl : List Value) (T : TypeId) (w : World) (h : RAt w b r tl T) :
  Calls Tryz.prog 208 #[.pointer (some ⟨b, 0, none⟩)] w fun e w' => e = .returned (.int .u8 (rdOne r).1) ∧ RAt w' b (rdOne r).2 tl T ∧ Fr (· = b) w w' := by
 have HH : Hid (RAt w b r tl T) := h;clear h;obtain ⟨x, hx, hnx⟩ := numL1 (rdText_size 1 r);have HE : Hid ((rdOne r) = (x.toNat, (rdText 1 r).2)) := by show _ = _; unfold rdOne; rw [hnx]
 have HX : Hid ((rdText 1 r).1 = [x]) := hx;clear hx hnx;go_enter Tryz.func208, Tryz.ntmps208;go_wp2_with fail;refine (rtextI b r tl T 1 1 _ HH.out (by omega) rfl).mono ?_;rintro e w1 ⟨rfl, h1, hf1⟩;rw [HX.out];have H1 : Hid _ := h1;clear h1;have hsz : (ofL [x]).size = 1 := rfl;have hg : (ofL [x])[0] = x := rfl;go_wp2_with fail;go_ret;rw [HE.out];exact ⟨rfl, H1.out, hf1⟩
theorem rtwo_any (b : Nat) (r : Rd) (tl : List Value) (T : TypeId) (w : World) (h : RAt w b r tl T) :
  Calls Tryz.prog 230 #[.pointer (some ⟨b, 0, none⟩)] w fun e w' => e = .returned (.int .u16 (rdTwo r).1) ∧ RAt w' b (rdTwo r).2 tl T ∧ Fr (· = b) w w' := by
 have HH : Hid (RAt w b r tl T) := h;clear h;obtain ⟨x, y, hx, hnx⟩ := numL2 (rdText_size 2 r);have HE : Hid ((rdTwo r) = (x.toNat + 256 * y.toNat, (rdText 2 r).2)) := by show _ = _; unfold rdTwo; rw [hnx]
 have HX : Hid ((rdText 2 r).1 = [x, y]) := hx;clear hx hnx;go_enter Tryz.func230, Tryz.ntmps230;go_wp2_with fail;refine (rtextI b r tl T 2 2 _ HH.out (by omega) rfl).mono ?_;rintro e w1 ⟨rfl, h1, hf1⟩;rw [HX.out];have H1 : Hid _ := h1;clear h1;have hsz : (ofL [x, y]).size = 2 := rfl;have hg : (ofL [x, y])[0] = x := rfl;have hg1 : (ofL [x, y])[1] = y := rfl;have hx := x.toNat_lt;have hy := y.toNat_lt;have hor : bits .or .u16 (x.toNat : Int) ((y.toNat : Int) * 256) = (x.toNat : Int) + (y.toNat : Int) * 256 := by apply Go.u16_or8 <;> omega
 go_wp2_with fail
 go_quiet (fail)
 go_wp2_with fail;go_ret;rw [HE.out];exact ⟨ri (by omega), H1.out, hf1.drewN _⟩
theorem rdTwo_lt (r : Rd) : (rdTwo r).1 < 65536 := by
 have := numL_lt (rdText 2 r).1;rw [rdText_size] at this;exact this
theorem rdOne_lt (r : Rd) : (rdOne r).1 < 256 := by
 have := numL_lt (rdText 1 r).1;rw [rdText_size] at this;exact this
theorem rfour_any (b : Nat) (r : Rd) (tl : List Value) (T : TypeId) (w : World) (h : RAt w b r tl T) :
  Calls Tryz.prog 229 #[.pointer (some ⟨b, 0, none⟩)] w fun e w' => e = .returned (.int .u32 (rdFour r).1) ∧ RAt w' b (rdFour r).2 tl T ∧ Fr (· = b) w w' := by
 have HH : Hid (RAt w b r tl T) := h;clear h;have HE : Hid (rdFour r = ((rdTwo r).1 + 65536 * (rdTwo (rdTwo r).2).1, (rdTwo (rdTwo r).2).2)) := rfl;have b1 := rdTwo_lt r;have b2 := rdTwo_lt (rdTwo r).2;go_enter Tryz.func229, Tryz.ntmps229;go_wp2_with fail;refine (rtwo_any b r tl T _ HH.out).mono ?_;rintro e w1 ⟨rfl, h1, hf1⟩;have H1 : Hid (RAt w1 b (rdTwo r).2 tl T) := h1;clear h1;generalize rdTwo r = p at *
 obtain ⟨p1, p2⟩ := p;go_wp2_with fail;refine (rtwo_any b p2 tl T _ H1.out).mono ?_;rintro e w2 ⟨rfl, h2, hf2⟩;have H2 : Hid (RAt w2 b (rdTwo p2).2 tl T) := h2;clear h2;generalize rdTwo p2 = q at *
 obtain ⟨q1, q2⟩ := q;have hor : bits .or .u32 (p1 : Int) ((q1 : Int) * 65536) = (p1 : Int) + (q1 : Int) * 65536 := by apply Go.u32_or16 <;> omega
 go_wp2_with fail;go_ret;rw [HE.out];exact ⟨ri (by simp only; omega), H2.out, hf1.trans hf2 (fun _ _ h => h)⟩
theorem whole_any (b : Nat) (r : Rd) (tl : List Value) (T : TypeId) (w : World) (h : RAt w b r tl T) :
  Calls Tryz.prog 231 #[.pointer (some ⟨b, 0, none⟩)] w fun e w' => e = .returned (.bool (r.rest == [] && !r.short)) ∧ ∃ n, w' = w.drewN n := by
 have c0 := h.c0;have c1 := h.c1;clear h;obtain ⟨l, sh, o⟩ := r;simp only at c0 c1;cases l with
 | nil =>
  have e0 : (ofL []).toList = [] := by rw [toList_toL]; rfl
  go_enter Tryz.func231, Tryz.ntmps231;go_wp2_with fail;go_ret;exact ⟨rb (by simp), 0, rfl⟩
 | cons x l =>
  have e0 : ((ofL (x :: l)).toList == []) = false := by rw [toList_toL]; rfl
  go_enter Tryz.func231, Tryz.ntmps231;go_wp2_with fail;go_ret;exact ⟨rb (by simp), 0, rfl⟩
end Go.Proofs.YtmnajomkfnkmeaaGreatDoor
namespace Go.Proofs.YtmnajomkfnkmeaaGreatDoor
open Go.RowKit
attribute [local go_sem] ofL_size
def RS (w : World) (b : Nat) (r : Rd) : Prop := RAt w b r [.bool r.out] 275
theorem RS.c2 {w : World} {b : Nat} {r : Rd} (h : RS w b r) : w.cell? ⟨b, 2, none⟩ = some (.bool r.out) := by have := Blk.cell h 2; simpa using this
theorem RS.set2 {w : World} {b : Nat} {r : Rd} (h : RS w b r) (o : Bool) : RS (w.setCell ⟨b, 2, none⟩ (.bool o)) b ⟨r.rest, r.short, o⟩ := by
 have := Blk.set h 2 (.bool o);unfold RS RAt;simpa using this
theorem RS.of {w : World} {b : Nat} {r r' : Rd} (h : RAt w b r' [.bool r.out] 275) (e : r'.out = r.out) : RS w b r' := by unfold RS; rw [e]; exact h
theorem must_any (b : Nat) (r : Rd) (ok : Bool) (w : World) (h : RS w b r) :
  Calls Tryz.prog 206 #[.pointer (some ⟨b, 0, none⟩), .bool ok] w fun e w' => e = .returned (.tuple #[]) ∧ RS w' b (rdMust ok r) ∧ Fr (· = b) w w' := by
 have c2 := h.c2;have f2 : w.frozen? ⟨b, 2, none⟩ = false := Blk.frozen h 2;have HH : Hid (RS w b r) := h;clear h;have HE : Hid (rdMust ok r = ⟨r.rest, r.short, r.out || !ok⟩) := rfl;generalize hro : r.out = o at *
 have HO : Hid (r.out = o) := hro;clear hro;cases o with
 | true =>
  go_enter Tryz.func206, Tryz.ntmps206;go_wp2_with fail;go_end0;rw [HE.out];exact ⟨rfl, by simpa using HH.out.set2 true, (Fr.refl (· = b) w).setCell _ (fun _ => rfl) _⟩
 | false =>
  go_enter Tryz.func206, Tryz.ntmps206;go_wp2_with fail;go_end0;rw [HE.out];exact ⟨rfl, by simpa using HH.out.set2 (!ok), (Fr.refl (· = b) w).setCell _ (fun _ => rfl) _⟩
theorem isFit_any (b : Nat) (r : Rd) (w : World) (h : RS w b r) :
  Calls Tryz.prog 207 #[.pointer (some ⟨b, 0, none⟩)] w fun e w' => e = .returned (.bool r.fit) ∧ ∃ n, w' = w.drewN n := by
 have c2 := h.c2;have HH : Hid (RS w b r) := h;clear h;have HE : Hid (r.fit = ((r.rest == [] && !r.short) && !r.out)) := rfl;go_enter Tryz.func207, Tryz.ntmps207;go_wp2_with fail;refine (whole_any b r _ _ _ HH.out).mono ?_;rintro e w1 ⟨rfl, n, rfl⟩;generalize (r.rest == [] && !r.short) = x at *
 cases x with
 | true =>
  go_wp2_with fail;go_ret;exact ⟨rb (by rw [HE.out]; rfl), n, rfl⟩
 | false =>
  go_wp2_with fail;go_ret;exact ⟨rb (by rw [HE.out]; rfl), n, rfl⟩
theorem isID_any (n : Nat) (w : World) :
  Calls Tryz.prog 233 #[.int .i64 n] w fun e w' => e = .returned (.bool (decide (n < 4096))) ∧ w' = w := by
 have h0 : (0 : Int) ≤ n := by omega
 go_enter Tryz.func233, Tryz.ntmps233;go_wp2;go_ret;exact ⟨rb (decide_eq_decide.2 (by omega)), rfl⟩
theorem isUser_any (n : Int) (w : World) :
  Calls Tryz.prog 55 #[.int .i64 n] w fun e w' => e = .returned (.bool (decide (1 ≤ n ∧ n ≤ 99))) ∧ w' = w := by
 by_cases h : 1 ≤ n
 ·go_enter Tryz.func55, Tryz.ntmps55;go_wp2;go_ret;exact ⟨rb (decide_eq_decide.2 (by omega)), rfl⟩
 ·have hd : decide (1 ≤ n) = false := decide_eq_false h;go_enter Tryz.func55, Tryz.ntmps55;go_wp2;go_ret;exact ⟨rfl, rfl⟩
theorem isTime_any (n : Int) (w : World) :
  Calls Tryz.prog 127 #[.int .i64 n] w fun e w' => e = .returned (.bool (decide (0 ≤ n ∧ n ≤ 1000000000))) ∧ w' = w := by
 by_cases h : 0 ≤ n
 ·go_enter Tryz.func127, Tryz.ntmps127;go_wp2;go_ret;exact ⟨rb (decide_eq_decide.2 (by omega)), rfl⟩
 ·have hd : decide (0 ≤ n) = false := decide_eq_false h;go_enter Tryz.func127, Tryz.ntmps127;go_wp2;go_ret;exact ⟨rfl, rfl⟩
theorem isName_any (s : ByteArray) (w : World) (hs : s.size ≤ maxLen) :
  Calls Tryz.prog 67 #[.string s] w fun e w' => e = .returned (.bool (decide (1 ≤ (toL s).length ∧ (toL s).length ≤ 8))) ∧ w' = w := by
 unfold maxLen at hs;have hL : (toL s).length = s.size := rfl;have HL : Hid ((toL s).length = s.size) := hL;clear hL;by_cases h : s.size = 0
 ·have e0 : s = ByteArray.empty := toL_inj (List.eq_nil_of_length_eq_zero (HL.out.trans h));subst e0;go_enter Tryz.func67, Tryz.ntmps67;go_wp2;go_ret;exact ⟨rfl, rfl⟩
 ·have e0 : (s.toList == []) = false := by
   rw [toList_toL];cases hx : toL s with
   | nil => rw [hx] at HL; exact absurd HL.out.symm h
   | cons a l => rfl
  go_enter Tryz.func67, Tryz.ntmps67;go_wp2;go_ret;exact ⟨rb (decide_eq_decide.2 (by have := HL.out; omega)), rfl⟩
theorem isText_any (s : ByteArray) (w : World) (hs : s.size ≤ maxLen) :
  Calls Tryz.prog 68 #[.string s] w fun e w' => e = .returned (.bool (decide ((toL s).length ≤ 8))) ∧ w' = w := by
 unfold maxLen at hs;have HL : Hid ((toL s).length = s.size) := rfl;go_enter Tryz.func68, Tryz.ntmps68;go_wp2;go_ret;exact ⟨rb (decide_eq_decide.2 (by have := HL.out; omega)), rfl⟩
theorem sid_any (b : Nat) (r : Rd) (w : World) (h : RS w b r) :
  Calls Tryz.prog 209 #[.pointer (some ⟨b, 0, none⟩)] w fun e w' => e = .returned (.int .i64 (rdId r).1) ∧ RS w' b (rdId r).2 ∧ Fr (· = b) w w' := by
 have HH : Hid (RS w b r) := h;clear h;have HE : Hid (rdId r = ((rdTwo r).1, rdMust (decide ((rdTwo r).1 < 4096)) (rdTwo r).2)) := rfl;have hb := rdTwo_lt r;have HO : Hid ((rdTwo r).2.out = r.out) := rdText_out 2 r;go_enter Tryz.func209, Tryz.ntmps209;go_wp2_with fail;refine (rtwo_any b r _ _ _ HH.out).mono ?_;rintro e w1 ⟨rfl, h1, hf1⟩;have H1 : Hid (RS w1 b (rdTwo r).2) := RS.of h1 HO.out;clear h1;generalize rdTwo r = p at *
 obtain ⟨p1, p2⟩ := p;go_wp2_with fail;refine (isID_any p1 _).mono ?_;rintro e w2 ⟨rfl, rfl⟩;go_wp2_with fail;refine (must_any b p2 _ _ H1.out).mono ?_;rintro e w3 ⟨rfl, h3, hf3⟩;go_wp2_with fail;go_ret;rw [HE.out];exact ⟨rfl, h3, hf1.trans hf3 (fun _ _ h => h)⟩
theorem suser_any (b : Nat) (r : Rd) (w : World) (h : RS w b r) :
  Calls Tryz.prog 210 #[.pointer (some ⟨b, 0, none⟩)] w fun e w' => e = .returned (.int .i64 (rdUser r).1) ∧ RS w' b (rdUser r).2 ∧ Fr (· = b) w w' := by
 have HH : Hid (RS w b r) := h;clear h;have HE : Hid (rdUser r = ((rdOne r).1, rdMust (decide (1 ≤ (rdOne r).1 ∧ (rdOne r).1 ≤ 99)) (rdOne r).2)) := rfl;have hb := rdOne_lt r;have HO : Hid ((rdOne r).2.out = r.out) := rdText_out 1 r;go_enter Tryz.func210, Tryz.ntmps210;go_wp2_with fail;refine (rone_any b r _ _ _ HH.out).mono ?_;rintro e w1 ⟨rfl, h1, hf1⟩;have H1 : Hid (RS w1 b (rdOne r).2) := RS.of h1 HO.out;clear h1;generalize rdOne r = p at *
 obtain ⟨p1, p2⟩ := p;go_wp2_with fail;refine (isUser_any p1 _).mono ?_;rintro e w2 ⟨rfl, rfl⟩;rw [show decide ((1 : Int) ≤ (p1 : Int) ∧ (p1 : Int) ≤ 99) = decide (1 ≤ p1 ∧ p1 ≤ 99) from decide_eq_decide.2 (by omega)];generalize decide (1 ≤ p1 ∧ p1 ≤ 99) = ok at *
 go_wp2_with fail;refine (must_any b p2 _ _ H1.out).mono ?_;rintro e w3 ⟨rfl, h3, hf3⟩;go_wp2_with fail;go_ret;rw [HE.out];exact ⟨rfl, h3, hf1.trans hf3 (fun _ _ h => h)⟩
theorem rdFour_lt (r : Rd) : (rdFour r).1 < 4294967296 := by
 have h1 := rdTwo_lt r;have h2 := rdTwo_lt (rdTwo r).2;unfold rdFour; simp only; omega
theorem rdFour_out (r : Rd) : (rdFour r).2.out = r.out := (rdText_out 2 _).trans (rdText_out 2 r)
theorem stime_any (b : Nat) (r : Rd) (w : World) (h : RS w b r) :
  Calls Tryz.prog 211 #[.pointer (some ⟨b, 0, none⟩)] w fun e w' => e = .returned (.int .i64 (rdTime r).1) ∧ RS w' b (rdTime r).2 ∧ Fr (· = b) w w' := by
 have HH : Hid (RS w b r) := h;clear h;have HE : Hid (rdTime r = ((rdFour r).1, rdMust (decide ((rdFour r).1 ≤ maxT)) (rdFour r).2)) := rfl;have hb := rdFour_lt r;have HO : Hid ((rdFour r).2.out = r.out) := rdFour_out r;go_enter Tryz.func211, Tryz.ntmps211;go_wp2_with fail;refine (rfour_any b r _ _ _ HH.out).mono ?_;rintro e w1 ⟨rfl, h1, hf1⟩;have H1 : Hid (RS w1 b (rdFour r).2) := RS.of h1 HO.out;clear h1;generalize rdFour r = p at *
 obtain ⟨p1, p2⟩ := p;go_wp2_with fail;refine (isTime_any p1 _).mono ?_;rintro e w2 ⟨rfl, rfl⟩;rw [show decide ((0 : Int) ≤ (p1 : Int) ∧ (p1 : Int) ≤ 1000000000) = decide (p1 ≤ maxT) from decide_eq_decide.2 (by unfold maxT; omega)];go_wp2_with fail;refine (must_any b p2 _ _ H1.out).mono ?_;rintro e w3 ⟨rfl, h3, hf3⟩;go_wp2_with fail;go_ret;rw [HE.out];exact ⟨rfl, h3, hf1.trans hf3 (fun _ _ h => h)⟩
theorem scount_any (b : Nat) (r : Rd) (m : Nat) (w : World) (h : RS w b r) :
  Calls Tryz.prog 204 #[.pointer (some ⟨b, 0, none⟩), .int .i64 m] w fun e w' => e = .returned (.int .i64 (rdCount m r).1) ∧ RS w' b (rdCount m r).2 ∧ Fr (· = b) w w' := by
 have HH : Hid (RS w b r) := h;clear h;have HE : Hid (rdCount m r = (min (rdOne r).1 m, rdMust (decide ((rdOne r).1 ≤ m)) (rdOne r).2)) := rfl;have hb := rdOne_lt r;have HO : Hid ((rdOne r).2.out = r.out) := rdText_out 1 r;go_enter Tryz.func204, Tryz.ntmps204;go_wp2_with fail;refine (rone_any b r _ _ _ HH.out).mono ?_;rintro e w1 ⟨rfl, h1, hf1⟩;have H1 : Hid (RS w1 b (rdOne r).2) := RS.of h1 HO.out;clear h1;generalize rdOne r = p at *
 obtain ⟨p1, p2⟩ := p;go_wp2_with fail;refine (must_any b p2 _ _ H1.out).mono ?_;rintro e w3 ⟨rfl, h3, hf3⟩;go_wp2_with fail;go_ret;rw [HE.out];exact ⟨ri (by simp; omega), h3, hf1.trans hf3 (fun _ _ h => h)⟩
theorem rdStr_out (r : Rd) : (rdStr r).2.out = r.out := (rdText_out _ _).trans (rdText_out 1 r)
theorem rdStr_len (r : Rd) : (rdStr r).1.length < 256 := by
 have := rdOne_lt r;unfold rdStr;rw [rdText_size]; exact this
theorem wrap_of {n : Nat} (h : n < 256) : IntKind.i64.wrap (n : Int) = n := by rw [IntKind.wrap_i64]; omega
theorem sname_any (b : Nat) (r : Rd) (w : World) (h : RS w b r) :
  Calls Tryz.prog 212 #[.pointer (some ⟨b, 0, none⟩)] w fun e w' => e = .returned (.string (ofL (rdName r).1)) ∧ RS w' b (rdName r).2 ∧ Fr (· = b) w w' := by
 have HH : Hid (RS w b r) := h;clear h;have HE : Hid (rdName r = ((rdStr r).1, rdMust (decide (1 ≤ (rdStr r).1.length ∧ (rdStr r).1.length ≤ 8)) (rdStr r).2)) := rfl;have HS : Hid (rdStr r = rdText (rdOne r).1 (rdOne r).2) := rfl;have hb := rdOne_lt r;have hlen := rdStr_len r;have HO : Hid ((rdStr r).2.out = r.out) := rdStr_out r;have HD : Hid (RS w.drew b r) := HH.out;go_enter Tryz.func212, Tryz.ntmps212;go_wp2_with fail
 go_region_with (first
  | (go_at_call 208; refine (rone_any b r [.bool r.out] 275 _ ?_).mono ?_; exact HD.out; rintro e w1 ⟨rfl, h1, hf1⟩)
  | (go_at_call 232; refine (rtextI b (rdOne r).2 [.bool r.out] 275 (rdOne r).1 _ _ ?_ ?_ ?_).mono ?_; exact h1; omega; exact wrap_of hb; rintro e w2 ⟨rfl, h2, hf2⟩))
 have H2 : Hid (RS w2 b (rdStr r).2) := RS.of (show RAt w2 b (rdStr r).2 [.bool r.out] 275 from h2) HO.out;have hf : Fr (· = b) w w2 := ((Fr.refl (· = b) w).drew.trans hf1 (fun _ _ h => h)).trans hf2 (fun _ _ h => h);rw [show rdText (rdOne r).1 (rdOne r).2 = rdStr r from rfl];clear h1 h2 hf1 hf2;generalize rdStr r = q at *
 obtain ⟨q1, q2⟩ := q;go_wp2_with fail;refine (isName_any (ofL q1) _ (by rw [ofL_size]; unfold maxLen; omega)).mono ?_;rintro e w3 ⟨rfl, rfl⟩;rw [toL_ofL];generalize decide (1 ≤ q1.length ∧ q1.length ≤ 8) = ok at *
 go_wp2_with fail;refine (must_any b q2 _ _ H2.out).mono ?_;rintro e w4 ⟨rfl, h4, hf4⟩;go_wp2_with fail;go_ret;rw [HE.out];exact ⟨rfl, h4, hf.trans hf4 (fun _ _ h => h)⟩
theorem stext_any (b : Nat) (r : Rd) (w : World) (h : RS w b r) :
  Calls Tryz.prog 213 #[.pointer (some ⟨b, 0, none⟩)] w fun e w' => e = .returned (.string (ofL (rdVal r).1)) ∧ RS w' b (rdVal r).2 ∧ Fr (· = b) w w' := by
 have HH : Hid (RS w b r) := h;clear h;have HE : Hid (rdVal r = ((rdStr r).1, rdMust (decide ((rdStr r).1.length ≤ 8)) (rdStr r).2)) := rfl;have HS : Hid (rdStr r = rdText (rdOne r).1 (rdOne r).2) := rfl;have hb := rdOne_lt r;have hlen := rdStr_len r;have HO : Hid ((rdStr r).2.out = r.out) := rdStr_out r;have HD : Hid (RS w.drew b r) := HH.out;go_enter Tryz.func213, Tryz.ntmps213;go_wp2_with fail
 go_region_with (first
  | (go_at_call 208; refine (rone_any b r [.bool r.out] 275 _ ?_).mono ?_; exact HD.out; rintro e w1 ⟨rfl, h1, hf1⟩)
  | (go_at_call 232; refine (rtextI b (rdOne r).2 [.bool r.out] 275 (rdOne r).1 _ _ ?_ ?_ ?_).mono ?_; exact h1; omega; exact wrap_of hb; rintro e w2 ⟨rfl, h2, hf2⟩))
 have H2 : Hid (RS w2 b (rdStr r).2) := RS.of (show RAt w2 b (rdStr r).2 [.bool r.out] 275 from h2) HO.out;have hf : Fr (· = b) w w2 := ((Fr.refl (· = b) w).drew.trans hf1 (fun _ _ h => h)).trans hf2 (fun _ _ h => h);rw [show rdText (rdOne r).1 (rdOne r).2 = rdStr r from rfl];clear h1 h2 hf1 hf2;generalize rdStr r = q at *
 obtain ⟨q1, q2⟩ := q;go_wp2_with fail;refine (isText_any (ofL q1) _ (by rw [ofL_size]; unfold maxLen; omega)).mono ?_;rintro e w3 ⟨rfl, rfl⟩;rw [toL_ofL];generalize decide (q1.length ≤ 8) = ok at *
 go_wp2_with fail;refine (must_any b q2 _ _ H2.out).mono ?_;rintro e w4 ⟨rfl, h4, hf4⟩;go_wp2_with fail;go_ret;rw [HE.out];exact ⟨rfl, h4, hf.trans hf4 (fun _ _ h => h)⟩
theorem bcell {W w1 : World} (hb : Below W.heap.size W w1) : (∀ b o, b < W.heap.size → w1.cell? ⟨b, o, none⟩ = W.cell? ⟨b, o, none⟩) ∧ (∀ b o, b < W.heap.size → w1.frozen? ⟨b, o, none⟩ = W.frozen? ⟨b, o, none⟩) :=
 ⟨fun b o h => hb.cell (p := ⟨b, o, none⟩) h, fun b o h => hb.frozen (p := ⟨b, o, none⟩) h⟩
theorem newR_any (s : ByteArray) (w : World) :
  Calls Tryz.prog 227 #[.string s] w fun e w' => e = .returned (.agg #[.string s, .bool false]) ∧ Below w.heap.size w w' := by
 go_enter Tryz.func227, Tryz.ntmps227;go_wp2_with fail;refine bodyPost_ret (v := .agg #[.string s, .bool false]) (by simp [results, Tryz.results227, go_sem]) rfl ⟨rfl, ?_⟩;exact Below.alloc (Below.refl _ _) (Nat.le_refl _) _
theorem newSR_any (s : ByteArray) (w : World) :
  Calls Tryz.prog 203 #[.string s] w fun e w' => e = .returned (.agg #[.string s, .bool false, .bool false]) ∧ Below w.heap.size w w' := by
 go_enter Tryz.func203, Tryz.ntmps203;go_wp2_with fail;refine (newR_any s _).mono ?_;rintro e w1 ⟨rfl, hb1⟩;obtain ⟨hc, hf⟩ := bcell hb1;go_wp2_with fail;refine bodyPost_ret (v := .agg #[.string s, .bool false, .bool false]) (by simp [results, Tryz.results203, go_sem, hc]) rfl ⟨rfl, ?_⟩;exact (((((bA).trans (hb1.mono (by simp))).setCell (Nat.le_refl _) _).setCell (Nat.le_refl _) _).setCell (Nat.le_refl _) _)
end Go.Proofs.YtmnajomkfnkmeaaGreatDoor
