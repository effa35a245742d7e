/-
  PRUNED by wip/tools/prunem.py: what these texts need of an earlier stage's.
-/
import Derived.Test.YtcgloepfnnfioaaRows
import Derived.Test.YtcgloepfnnfioaaPlain
import Derived.WalkKit
import Derived.WalkSpells
import Derived.WalkLawsBesides
import Derived.BigQuiet
import Derived.Lib.Hide
import Derived.Lib.IndexBytes
import Derived.LoopN
set_option linter.unusedVariables false
set_option linter.unusedSimpArgs false
namespace Go.Proofs.Ytcgloepfnnfioaa
open Go.RowKit

theorem ret_int {k : IntKind} {a b : Int} (h : a = b) : Ending.returned (.int k a) = .returned (.int k b) := by rw [h]
theorem ret_bool {a b : Bool} (h : a = b) : Ending.returned (.bool a) = .returned (.bool b) := by rw [h]
def scalB (r : Int) : Bool := decide ((0 ≤ r ∧ r < 55296) ∨ (57343 < r ∧ r ≤ 1114111))
set_option maxHeartbeats 400000 in
theorem scalar_any (r : Int) (w : World) :
    Calls Try.prog 126 #[.int .i32 r] w fun e w' => e = .returned (.bool (scalB r)) ∧ w = w' := by
  go_enter Try.func126, Try.ntmps126
  go_wp2
  all_goals (go_ret; refine ⟨ret_bool ?_, rfl⟩; rw [Bool.eq_iff_iff]; simp [scalB]; omega)
def nameB (r : Int) : Bool := decide (32 < r ∧ r ≠ 127 ∧ r ≠ 59 ∧ r ≠ 91 ∧ r ≠ 40 ∧ r ≠ 41 ∧ r ≠ 46)
set_option maxHeartbeats 400000 in
theorem nameRune_any (r : Int) (w : World) :
    Calls Try.prog 123 #[.int .i32 r] w fun e w' => e = .returned (.bool (nameB r)) ∧ w = w' := by
  go_enter Try.func123, Try.ntmps123
  go_wp2
  all_goals (go_ret; refine ⟨ret_bool ?_, rfl⟩; rw [Bool.eq_iff_iff]; simp_all [nameB])
def rlen (r : Int) : Int := if 1 ≤ r ∧ r ≤ 127 then 1 else if r ≤ 2047 then 2 else if r < 65536 then 3 else 6
theorem rlen_1 {r : Int} (h : 1 ≤ r ∧ r ≤ 127) : rlen r = 1 := by unfold rlen; rw [if_pos h]
theorem rlen_2 {r : Int} (h : ¬ (1 ≤ r ∧ r ≤ 127)) (h2 : r ≤ 2047) : rlen r = 2 := by unfold rlen; rw [if_neg h, if_pos h2]
theorem rlen_3 {r : Int} (h : 2047 < r) (h2 : r < 65536) : rlen r = 3 := by unfold rlen; rw [if_neg (by omega), if_neg (by omega), if_pos h2]
theorem rlen_6 {r : Int} (h : 65536 ≤ r) : rlen r = 6 := by unfold rlen; rw [if_neg (by omega), if_neg (by omega), if_neg (by omega)]
set_option maxHeartbeats 400000 in
theorem runeLen_any (r : Int) (w : World) :
    Calls Try.prog 120 #[.int .i32 r] w fun e w' => e = .returned (.int .i64 (rlen r)) ∧ w = w' := by
  go_enter Try.func120, Try.ntmps120
  go_wp2
  all_goals (go_ret; refine ⟨ret_int ?_, rfl⟩; first | exact (rlen_1 (by omega)).symm | exact (rlen_2 (by omega) (by omega)).symm | exact (rlen_3 (by omega) (by omega)).symm | exact (rlen_6 (by omega)).symm)
theorem at0_get (s : ByteArray) (i : Nat) (h : i < s.size) : (s[i]'h).toNat = at0 s.data.toList i := by
  unfold at0
  congr 1
  have h' : i < s.data.toList.length := by simpa using h
  simp only [List.getD, List.getElem?_eq_getElem h', Option.getD_some]
  rfl
theorem isEmpty_true {s : ByteArray} (h : s.toList.isEmpty = true) : s.size = 0 := by
  rw [ByteArray.toList_eq] at h
  rw [Lib.size_eq]
  exact List.length_eq_zero_iff.2 (List.isEmpty_iff.1 h)
theorem isEmpty_of0 {s : ByteArray} (h : s.size = 0) : s.toList.isEmpty = true := by
  rw [Lib.size_eq] at h
  rw [ByteArray.toList_eq]
  exact List.isEmpty_iff.2 (List.length_eq_zero_iff.1 h)
theorem isEmpty_ofpos {s : ByteArray} (h : 0 < s.size) : s.toList.isEmpty = false := by
  cases e : s.toList.isEmpty with
  | false => rfl
  | true => have := isEmpty_true e; omega
def goodB (l : List UInt8) : Bool := decide (3 ≤ l.length) && (l.take 3 == [239, 191, 189])
set_option maxHeartbeats 400000 in
theorem startsGoodBad_any (s : ByteArray) (w : World) :
    Calls Try.prog 119 #[.string s] w fun e w' => e = .returned (.bool (goodB s.data.toList)) ∧ w = w' := by
  have e1 := Lib.extract_toList s 0 3
  have e2 := Lib.size_eq s
  have E : Hid _ := e1
  have E2 := Lib.hid e2
  clear e1 e2
  go_enter Try.func119, Try.ntmps119
  go_wp2
  · go_ret
    refine ⟨ret_bool ?_, rfl⟩
    rw [E.out]
    have := E2.out
    simp only [goodB, List.drop_zero]
    rw [decide_eq_true (by omega), Bool.true_and]
  · go_ret
    refine ⟨ret_bool ?_, rfl⟩
    have := E2.out
    simp only [goodB]
    rw [decide_eq_false (by omega), Bool.false_and]
/-- How many bytes the first byte asks for, if there are as many. -/
def ulen (n b0 : Nat) : Nat :=
  if n = 0 then 0 else if b0 < 128 then 1 else if 192 ≤ b0 ∧ b0 < 224 then (if 2 ≤ n then 2 else 0) else if 224 ≤ b0 ∧ b0 < 240 then (if 3 ≤ n then 3 else 0) else 0
set_option maxHeartbeats 400000 in
set_option maxRecDepth 100000 in
theorem unitLen_any (s : ByteArray) (w : World) :
    Calls Try.prog 128 #[.string s] w fun e w' => e = .returned (.int .i64 (ulen s.size (at0 s.data.toList 0))) ∧ w = w' := by
  by_cases hz : s.size = 0
  · have he := isEmpty_of0 hz
    go_enter Try.func128, Try.ntmps128
    go_wp2
    go_ret
    refine ⟨ret_int ?_, rfl⟩
    simp [ulen, hz]
  · have hpos : 0 < s.size := by omega
    have he := isEmpty_ofpos hpos
    have hb := at0_get s 0 hpos
    have HB := Lib.hid hb
    clear hb
    go_enter Try.func128, Try.ntmps128
    go_wp2
    all_goals
      go_ret
      refine ⟨ret_int ?_, rfl⟩
      rw [← HB.out]
      unfold ulen
      rw [if_neg hz]
      repeat' split
      all_goals first | rfl | (exfalso; omega)
theorem ulen_3 {n b : Nat} (h : ulen n b = 3) : 3 ≤ n ∧ 224 ≤ b ∧ b < 240 := by
  unfold ulen at h
  split at h
  · omega
  split at h
  · omega
  split at h
  · split at h <;> omega
  split at h
  · split at h <;> omega
  · omega
theorem ulen_2 {n b : Nat} (h : ulen n b = 2) : 2 ≤ n ∧ 192 ≤ b ∧ b < 224 := by
  unfold ulen at h
  split at h
  · omega
  split at h
  · omega
  split at h
  · split at h <;> omega
  split at h
  · split at h <;> omega
  · omega
theorem ulen_1 {n b : Nat} (h : ulen n b = 1) : 1 ≤ n ∧ b < 128 := by
  unfold ulen at h
  split at h
  · omega
  split at h
  · omega
  split at h
  · split at h <;> omega
  split at h
  · split at h <;> omega
  · omega
theorem ulen_0 {n b : Nat} (b1 b2 : Nat) (h : ulen n b = 0) : unitN n b b1 b2 = (0, 0) := by
  by_cases c0 : n = 0
  · simp [unitN, c0]
  by_cases c1 : b < 128
  · simp [ulen, c0, c1] at h
  by_cases c2 : 192 ≤ b ∧ b < 224
  · have : ¬ 2 ≤ n := by intro hc; simp [ulen, c0, c1, c2, hc] at h
    simp [unitN, c0, c1, c2, this]
  by_cases c3 : 224 ≤ b ∧ b < 240
  · have : ¬ 3 ≤ n := by intro hc; simp [ulen, c0, c1, c2, c3, hc] at h
    simp only [unitN, if_neg c0, if_neg c1, if_neg c2, if_pos c3]
    rw [if_neg (by omega)]
  · simp only [unitN, if_neg c0, if_neg c1, if_neg c2, if_neg c3]
theorem ulen_le (n b : Nat) : ulen n b = 0 ∨ ulen n b = 1 ∨ ulen n b = 2 ∨ ulen n b = 3 := by
  unfold ulen
  repeat' split
  all_goals omega
theorem and63 (c : Nat) (h : c < 256) : bits .and .u8 (c : Int) 63 = ((c % 64 : Nat) : Int) := by
  have : ∀ c : Fin 256, bits .and .u8 (c.val : Int) 63 = ((c.val % 64 : Nat) : Int) := by decide +kernel
  exact this ⟨c, h⟩
theorem and192 (c : Nat) (h : c < 256) : bits .and .u8 (c : Int) 192 = ((c / 64 * 64 : Nat) : Int) := by
  have : ∀ c : Fin 256, bits .and .u8 (c.val : Int) 192 = ((c.val / 64 * 64 : Nat) : Int) := by decide +kernel
  exact this ⟨c, h⟩
theorem and15 (c : Nat) (h : c < 256) : bits .and .i32 (c : Int) 15 = ((c % 16 : Nat) : Int) := by
  have : ∀ c : Fin 256, bits .and .i32 (c.val : Int) 15 = ((c.val % 16 : Nat) : Int) := by decide +kernel
  exact this ⟨c, h⟩
theorem and31 (c : Nat) (h : c < 256) : bits .and .i32 (c : Int) 31 = ((c % 32 : Nat) : Int) := by
  have : ∀ c : Fin 256, bits .and .i32 (c.val : Int) 31 = ((c.val % 32 : Nat) : Int) := by decide +kernel
  exact this ⟨c, h⟩
theorem ofInt_i32 (a : Nat) (ha : a < 2147483648) : (BitVec.ofInt 32 (a : Int)).toNat = a := by
  rw [BitVec.ofInt_natCast, BitVec.toNat_ofNat]; exact Nat.mod_eq_of_lt (by omega)
theorem i32_or_nat (a b : Nat) (ha : a < 2147483648) (hb : b < 2147483648) : bits .or .i32 (a : Int) (b : Int) = ((a ||| b : Nat) : Int) := by
  have hx : a ||| b < 2 ^ 31 := Nat.or_lt_two_pow (by omega) (by omega)
  show IntKind.i32.wrap ((BitVec.ofInt 32 (a : Int) ||| BitVec.ofInt 32 (b : Int)).toNat : Int) = _
  rw [BitVec.toNat_or, ofInt_i32 a ha, ofInt_i32 b hb]
  rw [IntKind.wrap_i32]
  omega
theorem or64 (a x : Nat) (ha : a < 1024) (hx : x < 64) : bits .or .i32 ((a * 64 : Nat) : Int) (x : Int) = ((a * 64 + x : Nat) : Int) := by
  rw [i32_or_nat _ _ (by omega) (by omega)]
  have : a * 64 = a <<< 6 := by rw [Nat.shiftLeft_eq]
  rw [this, Nat.shiftLeft_add_eq_or_of_lt (by omega) a]
theorem w32 (a : Nat) (h : a < 2147483648) : wrap32 (a : Int) = a := by unfold wrap32; omega
theorem u3_eq (b0 b1 b2 : Nat) (h0 : b0 < 256) (h1 : b1 < 256) (h2 : b2 < 256) :
    bits .or .i32 (wrap32 (bits .or .i32 (wrap32 (bits .and .i32 (wrap32 (b0 : Int)) 15 * 64)) (wrap32 (bits .and .u8 (b1 : Int) 63)) * 64)) (wrap32 (bits .and .u8 (b2 : Int) 63)) =
      ((b0 % 16 * 4096 + b1 % 64 * 64 + b2 % 64 : Nat) : Int) := by
  have e1 : ((b0 % 16 : Nat) : Int) * 64 = ((b0 % 16 * 64 : Nat) : Int) := by omega
  have e2 : ((b0 % 16 * 64 + b1 % 64 : Nat) : Int) * 64 = (((b0 % 16 * 64 + b1 % 64) * 64 : Nat) : Int) := by omega
  rw [w32 b0 (by omega), and15 b0 h0, and63 b1 h1, and63 b2 h2, e1, w32 _ (by omega), w32 _ (by omega), w32 _ (by omega), or64 _ _ (by omega) (by omega), e2, w32 _ (by omega), or64 _ _ (by omega) (by omega)]
  omega
theorem u2_eq (b0 b1 : Nat) (h0 : b0 < 256) (h1 : b1 < 256) :
    bits .or .i32 (wrap32 (bits .and .i32 (wrap32 (b0 : Int)) 31 * 64)) (wrap32 (bits .and .u8 (b1 : Int) 63)) = ((b0 % 32 * 64 + b1 % 64 : Nat) : Int) := by
  have e1 : ((b0 % 32 : Nat) : Int) * 64 = ((b0 % 32 * 64 : Nat) : Int) := by omega
  rw [w32 b0 (by omega), and31 b0 h0, and63 b1 h1, e1, w32 _ (by omega), w32 _ (by omega), or64 _ _ (by omega) (by omega)]
theorem cont_true {c : Nat} (h : c < 256) (hb : (bits BinOp.and IntKind.u8 (c : Int) 192 != 128) = true) : c / 64 ≠ 2 := by
  rw [and192 c h, bne_iff_ne] at hb
  intro e
  exact hb (by omega)
theorem cont_false {c : Nat} (h : c < 256) (hb : (bits BinOp.and IntKind.u8 (c : Int) 192 != 128) = false) : c / 64 = 2 := by
  rw [and192 c h] at hb
  have : ((c / 64 * 64 : Nat) : Int) = 128 := by simpa using hb
  omega
def tup (p : Nat × Nat) : Value := .tuple #[.int .i32 p.1, .int .i64 p.2]
theorem ret_tup {a b : Int} {p : Nat × Nat} (h1 : a = p.1) (h2 : b = p.2) : Ending.returned (.tuple #[.int .i32 a, .int .i64 b]) = .returned (tup p) := by rw [h1, h2]; rfl
theorem ret_tup0 {p : Nat × Nat} (h : p = (0, 0)) : Ending.returned (.tuple #[.int .i32 0, .int .i64 0]) = .returned (tup p) := by rw [h]; rfl
-- 'firstUnit' at a first byte that asks for three.
set_option maxHeartbeats 400000 in
set_option maxRecDepth 100000 in
theorem firstUnit_3 (s : ByteArray) (w : World) (h : ulen s.size (at0 s.data.toList 0) = 3) :
    Calls Try.prog 125 #[.string s] w fun e w' => e = .returned (tup (unitL s.data.toList)) ∧ w = w' := by
  have hu := unitLen_any s w
  rw [h] at hu
  have HU := Lib.hid hu
  obtain ⟨h3, hlo, hhi⟩ := ulen_3 h
  have b0 := Lib.hid (at0_get s 0 (by omega))
  have b1 := Lib.hid (at0_get s 1 (by omega))
  have b2 := Lib.hid (at0_get s 2 (by omega))
  have l0 := at0_lt s.data.toList 0
  have l1 := at0_lt s.data.toList 1
  have l2 := at0_lt s.data.toList 2
  have hL : unitL s.data.toList = if at0 s.data.toList 1 / 64 = 2 ∧ at0 s.data.toList 2 / 64 = 2 ∧ 2048 ≤ at0 s.data.toList 0 % 16 * 4096 + at0 s.data.toList 1 % 64 * 64 + at0 s.data.toList 2 % 64
      then (at0 s.data.toList 0 % 16 * 4096 + at0 s.data.toList 1 % 64 * 64 + at0 s.data.toList 2 % 64, 3) else (0, 0) := by
    unfold unitL unitN
    rw [← Lib.size_eq, if_neg (by omega), if_neg (by omega), if_neg (by omega), if_pos ⟨hlo, hhi⟩]
    simp [h3]
  have HL := Lib.hid hL
  clear h hu hL
  go_enter Try.func125, Try.ntmps125
  go_wp2_with (go_at_call 128; refine (HU.out).mono ?_; rintro e w' ⟨rfl, rfl⟩)
  refine wp_loop_rounds 4 ?_
  rw [rounds_succ]
  go_wp2
  · go_ret2
    have hb : (bits BinOp.and IntKind.u8 ((s[1]'(by omega)).toNat : Int) 192 != 128) = true := by assumption
    rw [b1.out] at hb
    exact ⟨ret_tup0 (by rw [HL.out, if_neg (fun hh => cont_true l1 hb hh.1)]), rfl⟩
  have hb1 : (bits BinOp.and IntKind.u8 ((s[1]'(by omega)).toNat : Int) 192 != 128) = false := by assumption
  have HB1 := Lib.hid hb1
  rw [rounds_succ]
  go_wp2
  · go_ret2
    have hb : (bits BinOp.and IntKind.u8 ((s[2]'(by omega)).toNat : Int) 192 != 128) = true := by assumption
    rw [b2.out] at hb
    exact ⟨ret_tup0 (by rw [HL.out, if_neg (fun hh => cont_true l2 hb hh.2.1)]), rfl⟩
  have hb2 : (bits BinOp.and IntKind.u8 ((s[2]'(by omega)).toNat : Int) 192 != 128) = false := by assumption
  have HB2 := Lib.hid hb2
  have hu3 := u3_eq (at0 s.data.toList 0) (at0 s.data.toList 1) (at0 s.data.toList 2) l0 l1 l2
  rw [← b0.out, ← b1.out, ← b2.out] at hu3
  have HU3 := Lib.hid hu3
  clear hb1 hb2 hu3
  rw [rounds_succ]
  go_wp2_with (go_at_call 120; refine (runeLen_any _ _).mono ?_; rintro e w' ⟨rfl, rfl⟩)
  · go_ret2
    rename_i hr
    rw [HU3.out, bne_iff_ne, b0.out, b1.out, b2.out] at hr
    refine ⟨ret_tup0 ?_, rfl⟩
    rw [HL.out, if_neg]
    intro hh
    exact hr (rlen_3 (by omega) (by omega))
  · go_ret2
    rename_i hr
    rw [HU3.out, bne_eq_false_iff_eq, b0.out, b1.out, b2.out] at hr
    have g1 := HB1.out
    have g2 := HB2.out
    rw [b1.out] at g1
    rw [b2.out] at g2
    have hge : 2048 ≤ at0 s.data.toList 0 % 16 * 4096 + at0 s.data.toList 1 % 64 * 64 + at0 s.data.toList 2 % 64 := by
      refine Nat.le_of_not_lt fun hlt => ?_
      by_cases hc : (1 : Int) ≤ ((at0 s.data.toList 0 % 16 * 4096 + at0 s.data.toList 1 % 64 * 64 + at0 s.data.toList 2 % 64 : Nat) : Int) ∧ ((at0 s.data.toList 0 % 16 * 4096 + at0 s.data.toList 1 % 64 * 64 + at0 s.data.toList 2 % 64 : Nat) : Int) ≤ 127
      · rw [rlen_1 hc] at hr; omega
      · rw [rlen_2 hc (by omega)] at hr; omega
    refine ⟨ret_tup ?_ ?_, rfl⟩
    · rw [HU3.out, HL.out, if_pos ⟨cont_false l1 g1, cont_false l2 g2, hge⟩, b0.out, b1.out, b2.out]
    · rw [HL.out, if_pos ⟨cont_false l1 g1, cont_false l2 g2, hge⟩]; rfl
-- 'firstUnit' at a first byte that asks for two.
set_option maxHeartbeats 400000 in
set_option maxRecDepth 100000 in
theorem firstUnit_2 (s : ByteArray) (w : World) (h : ulen s.size (at0 s.data.toList 0) = 2) :
    Calls Try.prog 125 #[.string s] w fun e w' => e = .returned (tup (unitL s.data.toList)) ∧ w = w' := by
  have hu := unitLen_any s w
  rw [h] at hu
  have HU := Lib.hid hu
  obtain ⟨h3, hlo, hhi⟩ := ulen_2 h
  have b0 := Lib.hid (at0_get s 0 (by omega))
  have b1 := Lib.hid (at0_get s 1 (by omega))
  have l0 := at0_lt s.data.toList 0
  have l1 := at0_lt s.data.toList 1
  have hL : unitL s.data.toList = if at0 s.data.toList 1 / 64 = 2 ∧ (at0 s.data.toList 0 % 32 * 64 + at0 s.data.toList 1 % 64 = 0 ∨ 128 ≤ at0 s.data.toList 0 % 32 * 64 + at0 s.data.toList 1 % 64)
      then (at0 s.data.toList 0 % 32 * 64 + at0 s.data.toList 1 % 64, 2) else (0, 0) := by
    unfold unitL unitN
    rw [← Lib.size_eq, if_neg (by omega), if_neg (by omega), if_pos ⟨hlo, hhi⟩]
    simp only [h3, true_and]
  have HL := Lib.hid hL
  clear h hu hL
  go_enter Try.func125, Try.ntmps125
  go_wp2_with (go_at_call 128; refine (HU.out).mono ?_; rintro e w' ⟨rfl, rfl⟩)
  refine wp_loop_rounds 3 ?_
  rw [rounds_succ]
  go_wp2
  · go_ret2
    have hb : (bits BinOp.and IntKind.u8 ((s[1]'(by omega)).toNat : Int) 192 != 128) = true := by assumption
    rw [b1.out] at hb
    exact ⟨ret_tup0 (by rw [HL.out, if_neg (fun hh => cont_true l1 hb hh.1)]), rfl⟩
  have hb1 : (bits BinOp.and IntKind.u8 ((s[1]'(by omega)).toNat : Int) 192 != 128) = false := by assumption
  have HB1 := Lib.hid hb1
  have hu2 := u2_eq (at0 s.data.toList 0) (at0 s.data.toList 1) l0 l1
  rw [← b0.out, ← b1.out] at hu2
  have HU2 := Lib.hid hu2
  clear hb1 hu2
  rw [rounds_succ]
  go_wp2_with (go_at_call 120; refine (runeLen_any _ _).mono ?_; rintro e w' ⟨rfl, rfl⟩)
  · go_ret2
    rename_i hr
    rw [HU2.out, bne_iff_ne, b0.out, b1.out] at hr
    refine ⟨ret_tup0 ?_, rfl⟩
    rw [HL.out, if_neg]
    intro hh
    exact hr (rlen_2 (by omega) (by omega))
  · go_ret2
    rename_i hr
    rw [HU2.out, bne_eq_false_iff_eq, b0.out, b1.out] at hr
    have g1 := HB1.out
    rw [b1.out] at g1
    have hge : at0 s.data.toList 0 % 32 * 64 + at0 s.data.toList 1 % 64 = 0 ∨ 128 ≤ at0 s.data.toList 0 % 32 * 64 + at0 s.data.toList 1 % 64 := by
      refine Decidable.byContradiction fun hlt => ?_
      rw [rlen_1 (by omega)] at hr
      omega
    refine ⟨ret_tup ?_ ?_, rfl⟩
    · rw [HU2.out, HL.out, if_pos ⟨cont_false l1 g1, hge⟩, b0.out, b1.out]
    · rw [HL.out, if_pos ⟨cont_false l1 g1, hge⟩]; rfl
-- 'firstUnit' at a first byte that asks for one.
set_option maxHeartbeats 400000 in
set_option maxRecDepth 100000 in
theorem firstUnit_1 (s : ByteArray) (w : World) (h : ulen s.size (at0 s.data.toList 0) = 1) :
    Calls Try.prog 125 #[.string s] w fun e w' => e = .returned (tup (unitL s.data.toList)) ∧ w = w' := by
  have hu := unitLen_any s w
  rw [h] at hu
  have HU := Lib.hid hu
  obtain ⟨h3, hhi⟩ := ulen_1 h
  have b0 := Lib.hid (at0_get s 0 (by omega))
  have hL : unitL s.data.toList = if at0 s.data.toList 0 = 0 then (0, 0) else (at0 s.data.toList 0, 1) := by
    unfold unitL unitN
    rw [← Lib.size_eq, if_neg (by omega), if_pos hhi]
  have HL := Lib.hid hL
  clear h hu hL
  go_enter Try.func125, Try.ntmps125
  go_wp2_with (go_at_call 128; refine (HU.out).mono ?_; rintro e w' ⟨rfl, rfl⟩)
  refine wp_loop_rounds 2 ?_
  rw [rounds_succ]
  go_wp2_with (go_at_call 120; refine (runeLen_any _ _).mono ?_; rintro e w' ⟨rfl, rfl⟩)
  · go_ret2
    rename_i hr
    rw [bne_iff_ne, b0.out, w32 _ (by omega)] at hr
    refine ⟨ret_tup0 ?_, rfl⟩
    rw [HL.out, if_pos]
    refine Decidable.byContradiction fun hh => ?_
    exact hr (rlen_1 (by omega))
  · go_ret2
    rename_i hr
    rw [bne_eq_false_iff_eq, b0.out, w32 _ (by omega)] at hr
    have hge : at0 s.data.toList 0 ≠ 0 := by
      intro hh
      rw [hh, rlen_2 (by omega) (by omega)] at hr
      omega
    refine ⟨ret_tup ?_ ?_, rfl⟩
    · rw [HL.out, if_neg hge, b0.out, w32 _ (by omega)]
    · rw [HL.out, if_neg hge]; rfl
-- 'firstUnit': the sixteen bits at the front.
set_option maxHeartbeats 400000 in
set_option maxRecDepth 100000 in
theorem firstUnit_any (s : ByteArray) (w : World) :
    Calls Try.prog 125 #[.string s] w fun e w' => e = .returned (tup (unitL s.data.toList)) ∧ w = w' := by
  rcases ulen_le s.size (at0 s.data.toList 0) with h | h | h | h
  · have hu := unitLen_any s w
    rw [h] at hu
    have HU := Lib.hid hu
    have hL : unitL s.data.toList = (0, 0) := by
      unfold unitL
      rw [← Lib.size_eq]
      exact ulen_0 _ _ h
    have HL := Lib.hid hL
    clear h hu hL
    go_enter Try.func125, Try.ntmps125
    go_wp2_with (go_at_call 128; refine (HU.out).mono ?_; rintro e w' ⟨rfl, rfl⟩)
    go_ret2
    exact ⟨ret_tup0 HL.out, rfl⟩
  · exact firstUnit_1 s w h
  · exact firstUnit_2 s w h
  · exact firstUnit_3 s w h
end Go.Proofs.Ytcgloepfnnfioaa
