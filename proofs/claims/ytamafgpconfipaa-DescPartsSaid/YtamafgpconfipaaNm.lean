/-
  WALKS of the two answers to 'may it be a name?'.
-/
import Derived.Test.YtamafgpconfipaaRows
import Derived.Test.YtamafgpconfipaaPl
import Derived.WalkKit
import Derived.WalkSpells
import Derived.WalkLawsBesides
import Derived.BigQuiet
import Derived.Lib.Hide
import Derived.Lib.IndexBytes
import Derived.LoopN
import Derived.Deep.QuietTactic
import Derived.Laws.RangeAny
import Derived.Lib.OthersKept
import Derived.Laws.IdiomStrings
import Derived.Laws.Cover4
import Derived.Lib.AppendStr
set_option linter.unusedVariables false
set_option linter.unusedSimpArgs false
namespace Go.Proofs.Ytamafgpconfipaa
open Go.RowKit
open Go.Lib (decodeN)

theorem ret_bool {a b : Bool} (h : a = b) : Ending.returned (.bool a) = .returned (.bool b) := by rw [h]
def nameB (r : Int) : Bool := decide (32 < r ∧ r ≠ 127 ∧ r ≠ 59 ∧ r ≠ 91 ∧ r ≠ 40 ∧ r ≠ 41 ∧ r ≠ 46)
set_option maxHeartbeats 400000 in
theorem nameRune_any (r : Int) (w : World) :
    Calls Try.prog 37 #[.int .i32 r] w fun e w' => e = .returned (.bool (nameB r)) ∧ w = w' := by
  go_enter Try.func37, Try.ntmps37
  go_wp2
  all_goals (go_ret; refine ⟨ret_bool ?_, rfl⟩; rw [Bool.eq_iff_iff]; simp_all [nameB])
theorem at0_get (s : ByteArray) (i : Nat) (h : i < s.size) : (s[i]'h).toNat = at0 s.data.toList i := by
  unfold at0
  congr 1
  have h' : i < s.data.toList.length := by simpa using h
  simp only [List.getD, List.getElem?_eq_getElem h', Option.getD_some]
  rfl
def goodB (l : List UInt8) : Bool := decide (3 ≤ l.length) && (l.take 3 == [239, 191, 189])
set_option maxHeartbeats 400000 in
theorem startsGoodBad_any (s : ByteArray) (w : World) :
    Calls Try.prog 47 #[.string s] w fun e w' => e = .returned (.bool (goodB s.data.toList)) ∧ w = w' := by
  have e1 := Lib.extract_toList s 0 3
  have e2 := Lib.size_eq s
  have E : Hid _ := e1
  have E2 := Lib.hid e2
  clear e1 e2
  go_enter Try.func47, Try.ntmps47
  go_wp2
  · go_ret
    refine ⟨ret_bool ?_, rfl⟩
    rw [E.out]
    have := E2.out
    simp only [goodB, List.drop_zero]
    rw [decide_eq_true (by omega), Bool.true_and]
  · go_ret
    refine ⟨ret_bool ?_, rfl⟩
    have := E2.out
    simp only [goodB]
    rw [decide_eq_false (by omega), Bool.false_and]
/-- 'dec', with (0, 0) where there is none. -/
def nextL (l : List UInt8) : Nat × Nat := if bad (dec l) then (0, 0) else dec l
theorem nextL_of {l : List UInt8} {p : Nat × Nat} (h : dec l = p) : nextL l = if p = (65533, 1) then (0, 0) else p := by
  unfold nextL bad
  rw [h]
  by_cases hp : p = (65533, 1)
  · simp [hp]
  · simp [hp]
def n2v (l : List UInt8) : Nat := (at0 l 0 - 192) * 64 + (at0 l 1 - 128)
def n3v (l : List UInt8) : Nat := ((at0 l 0 - 224) * 64 + (at0 l 1 - 128)) * 64 + (at0 l 2 - 128)
def n4v (l : List UInt8) : Nat := (((at0 l 0 - 240) * 64 + (at0 l 1 - 128)) * 64 + (at0 l 2 - 128)) * 64 + (at0 l 3 - 128)
theorem next_one {l : List UInt8} (h : at0 l 0 < 128) : nextL l = (at0 l 0, 1) := by
  have e : dec l = (at0 l 0, 1) := by unfold dec decodeN; rw [if_pos h]
  rw [nextL_of e, if_neg]
  intro hh
  have := congrArg Prod.fst hh
  simp only at this
  omega
theorem next_none {l : List UInt8} (h : (128 ≤ at0 l 0 ∧ at0 l 0 < 194) ∨ 245 ≤ at0 l 0) : nextL l = (0, 0) := by
  have h0 := at0_lt l 0
  have h1 := at0_lt l 1
  have h2 := at0_lt l 2
  have h3 := at0_lt l 3
  have e : dec l = (65533, 1) := by
    unfold dec decodeN
    rw [if_neg (by omega)]
    split
    · rw [if_neg (by omega)]
    split
    · rw [if_neg (by omega)]
    split
    · rw [if_neg (by omega)]
    · rfl
  rw [nextL_of e, if_pos rfl]
theorem next_two {l : List UInt8} (a : 194 ≤ at0 l 0) (b : at0 l 0 < 224) :
    nextL l = if 2 ≤ l.length ∧ 128 ≤ at0 l 1 ∧ at0 l 1 < 192 then (n2v l, 2) else (0, 0) := by
  have h1 := at0_lt l 1
  by_cases hc : 2 ≤ l.length ∧ 128 ≤ at0 l 1 ∧ at0 l 1 < 192
  · have e : dec l = (n2v l, 2) := by
      unfold dec decodeN n2v
      rw [if_neg (by omega), if_pos (by omega), if_pos (by omega)]
      exact congrArg (·, 2) (by omega)
    rw [nextL_of e, if_pos hc, if_neg (by intro hh; have := congrArg Prod.snd hh; simp at this)]
  · have e : dec l = (65533, 1) := by
      unfold dec decodeN
      rw [if_neg (by omega), if_neg (by omega), if_neg (by omega), if_neg (by omega)]
    rw [nextL_of e, if_pos rfl, if_neg hc]
theorem next_three {l : List UInt8} (a : 224 ≤ at0 l 0) (b : at0 l 0 < 240) :
    nextL l = if 3 ≤ l.length ∧ (128 ≤ at0 l 1 ∧ at0 l 1 < 192) ∧ (128 ≤ at0 l 2 ∧ at0 l 2 < 192) ∧ 2048 ≤ n3v l ∧ (n3v l < 55296 ∨ 57344 ≤ n3v l) then (n3v l, 3) else (0, 0) := by
  have h1 := at0_lt l 1
  have h2 := at0_lt l 2
  by_cases hc : 3 ≤ l.length ∧ (128 ≤ at0 l 1 ∧ at0 l 1 < 192) ∧ (128 ≤ at0 l 2 ∧ at0 l 2 < 192) ∧ 2048 ≤ n3v l ∧ (n3v l < 55296 ∨ 57344 ≤ n3v l)
  · have e : dec l = (n3v l, 3) := by
      have hn : n3v l = at0 l 0 % 16 * 4096 + at0 l 1 % 64 * 64 + at0 l 2 % 64 := by unfold n3v; omega
      unfold dec decodeN
      rw [if_neg (by omega), if_neg (by omega), if_pos (by omega), if_pos (by omega)]
      exact congrArg (·, 3) hn.symm
    rw [nextL_of e, if_pos hc, if_neg (by intro hh; have := congrArg Prod.snd hh; simp at this)]
  · have e : dec l = (65533, 1) := by
      unfold dec decodeN
      rw [if_neg (by omega), if_neg (by omega)]
      split
      · rename_i hd
        have hn : n3v l = at0 l 0 % 16 * 4096 + at0 l 1 % 64 * 64 + at0 l 2 % 64 := by unfold n3v; omega
        rw [if_neg (by omega)]
      · rw [if_neg (by omega)]
    rw [nextL_of e, if_pos rfl, if_neg hc]
theorem next_four {l : List UInt8} (a : 240 ≤ at0 l 0) (b : at0 l 0 < 245) :
    nextL l = if 4 ≤ l.length ∧ (128 ≤ at0 l 1 ∧ at0 l 1 < 192) ∧ (128 ≤ at0 l 2 ∧ at0 l 2 < 192) ∧ (128 ≤ at0 l 3 ∧ at0 l 3 < 192) ∧ 65536 ≤ n4v l ∧ n4v l ≤ 1114111 then (n4v l, 4) else (0, 0) := by
  have h1 := at0_lt l 1
  have h2 := at0_lt l 2
  have h3 := at0_lt l 3
  by_cases hc : 4 ≤ l.length ∧ (128 ≤ at0 l 1 ∧ at0 l 1 < 192) ∧ (128 ≤ at0 l 2 ∧ at0 l 2 < 192) ∧ (128 ≤ at0 l 3 ∧ at0 l 3 < 192) ∧ 65536 ≤ n4v l ∧ n4v l ≤ 1114111
  · have e : dec l = (n4v l, 4) := by
      have hn : n4v l = at0 l 0 % 8 * 262144 + at0 l 1 % 64 * 4096 + at0 l 2 % 64 * 64 + at0 l 3 % 64 := by unfold n4v; omega
      unfold dec decodeN
      rw [if_neg (by omega), if_neg (by omega), if_neg (by omega), if_pos (by omega), if_pos (by omega)]
      exact congrArg (·, 4) hn.symm
    rw [nextL_of e, if_pos hc, if_neg (by intro hh; have := congrArg Prod.snd hh; simp at this)]
  · have e : dec l = (65533, 1) := by
      unfold dec decodeN
      rw [if_neg (by omega), if_neg (by omega), if_neg (by omega)]
      split
      · rename_i hd
        have hn : n4v l = at0 l 0 % 8 * 262144 + at0 l 1 % 64 * 4096 + at0 l 2 % 64 * 64 + at0 l 3 % 64 := by unfold n4v; omega
        rw [if_neg (by omega)]
      · rfl
    rw [nextL_of e, if_pos rfl, if_neg hc]
def tupI (p : Nat × Nat) : Value := .tuple #[.int .i64 p.1, .int .i64 p.2]
theorem ret_tupI {a b : Int} {p : Nat × Nat} (h1 : a = p.1) (h2 : b = p.2) : Ending.returned (.tuple #[.int .i64 a, .int .i64 b]) = .returned (tupI p) := by rw [h1, h2]; rfl
theorem ret_tupI_of {a b : Int} {p : Nat × Nat} {x y : Nat} (h : p = (x, y)) (h1 : a = (x : Int)) (h2 : b = (y : Int)) : Ending.returned (.tuple #[.int .i64 a, .int .i64 b]) = .returned (tupI p) := by rw [h, h1, h2]; rfl
theorem ret_tupI0 {p : Nat × Nat} (h : p = (0, 0)) : Ending.returned (.tuple #[.int .i64 0, .int .i64 0]) = .returned (tupI p) := by rw [h]; rfl
set_option maxHeartbeats 800000 in
set_option maxRecDepth 100000 in
theorem nextW_1 (s : ByteArray) (w : World) (hp : 0 < s.size) (h : at0 s.data.toList 0 < 128 ∨ (128 ≤ at0 s.data.toList 0 ∧ at0 s.data.toList 0 < 194) ∨ 245 ≤ at0 s.data.toList 0) :
    Calls Try.prog 46 #[.string s] w fun e w' => e = .returned (tupI (nextL s.data.toList)) ∧ w = w' := by
  have b0 := Lib.hid (at0_get s 0 hp)
  have l0 := at0_lt s.data.toList 0
  have hb := at0_get s 0 hp
  have hlt : (s[0]'hp).toNat < 256 := by omega
  rw [← hb] at h
  clear hb l0
  rcases h with h | h
  · go_enter Try.func46, Try.ntmps46
    go_wp2
    go_ret2
    have e0 := b0.out
    refine ⟨ret_tupI ?_ ?_, rfl⟩ <;> rw [next_one (by omega)] <;> simp only <;> omega
  · rcases h with h | h
    all_goals
      go_enter Try.func46, Try.ntmps46
      go_wp2
      all_goals go_ret2
      have e0 := b0.out
      exact ⟨ret_tupI0 (next_none (by omega)), rfl⟩
set_option maxHeartbeats 800000 in
set_option maxRecDepth 100000 in
theorem nextW_2short (s : ByteArray) (w : World) (a : 194 ≤ at0 s.data.toList 0) (b : at0 s.data.toList 0 < 224) (hp : s.size < 2) (hpos : 0 < s.size) :
    Calls Try.prog 46 #[.string s] w fun e w' => e = .returned (tupI (nextL s.data.toList)) ∧ w = w' := by
  have hsz := Lib.hid (Lib.size_eq s)
  have hb := at0_get s 0 hpos
  have hL := next_two (l := s.data.toList) a b
  rw [← hb] at a b
  have HL := Lib.hid hL
  clear hb hL
  go_enter Try.func46, Try.ntmps46
  go_wp2
  all_goals go_ret2
  have ez := hsz.out
  exact ⟨ret_tupI0 (by rw [HL.out, if_neg (by omega)]), rfl⟩
set_option maxHeartbeats 1600000 in
set_option maxRecDepth 100000 in
theorem nextW_2 (s : ByteArray) (w : World) (a : 194 ≤ at0 s.data.toList 0) (b : at0 s.data.toList 0 < 224) (hp : 2 ≤ s.size) :
    Calls Try.prog 46 #[.string s] w fun e w' => e = .returned (tupI (nextL s.data.toList)) ∧ w = w' := by
  have b0 := Lib.hid (at0_get s 0 (by omega))
  have b1 := Lib.hid (at0_get s 1 (by omega))
  have hsz := Lib.hid (Lib.size_eq s)
  have hb := at0_get s 0 (by omega)
  have hL := next_two (l := s.data.toList) a b
  rw [← hb] at a b
  have HL := Lib.hid hL
  clear hb hL
  go_enter Try.func46, Try.ntmps46
  go_wp2
  refine wp_loop_rounds 2 ?_
  rw [rounds_succ]
  go_wp2
  · (go_ret2; have e0 := b0.out; have e1 := b1.out; have ez := hsz.out; exact ⟨ret_tupI0 (by rw [HL.out, if_neg (by omega)]), rfl⟩)
  rotate_left
  · (go_ret2; have e0 := b0.out; have e1 := b1.out; have ez := hsz.out; exact ⟨ret_tupI0 (by rw [HL.out, if_neg (by omega)]), rfl⟩)
  rw [rounds_succ]
  go_wp2
  all_goals first | (go_ret2; have e0 := b0.out; have e1 := b1.out; have ez := hsz.out; have hq : nextL s.data.toList = (n2v s.data.toList, 2) := (by rw [HL.out, if_pos (by omega)]); refine ⟨ret_tupI_of hq ?_ ?_, rfl⟩; (unfold n2v; omega); rfl) | (go_ret2; have e0 := b0.out; have e1 := b1.out; have ez := hsz.out; exact ⟨ret_tupI0 (by rw [HL.out, if_neg (by omega)]), rfl⟩)
set_option maxHeartbeats 800000 in
set_option maxRecDepth 100000 in
theorem nextW_3short (s : ByteArray) (w : World) (a : 224 ≤ at0 s.data.toList 0) (b : at0 s.data.toList 0 < 240) (hp : s.size < 3) (hpos : 0 < s.size) :
    Calls Try.prog 46 #[.string s] w fun e w' => e = .returned (tupI (nextL s.data.toList)) ∧ w = w' := by
  have hsz := Lib.hid (Lib.size_eq s)
  have hb := at0_get s 0 hpos
  have hL := next_three (l := s.data.toList) a b
  rw [← hb] at a b
  have HL := Lib.hid hL
  clear hb hL
  go_enter Try.func46, Try.ntmps46
  go_wp2
  all_goals go_ret2
  have ez := hsz.out
  exact ⟨ret_tupI0 (by rw [HL.out, if_neg (by omega)]), rfl⟩
set_option maxHeartbeats 1600000 in
set_option maxRecDepth 100000 in
theorem nextW_3 (s : ByteArray) (w : World) (a : 224 ≤ at0 s.data.toList 0) (b : at0 s.data.toList 0 < 240) (hp : 3 ≤ s.size) :
    Calls Try.prog 46 #[.string s] w fun e w' => e = .returned (tupI (nextL s.data.toList)) ∧ w = w' := by
  have b0 := Lib.hid (at0_get s 0 (by omega))
  have b1 := Lib.hid (at0_get s 1 (by omega))
  have b2 := Lib.hid (at0_get s 2 (by omega))
  have hsz := Lib.hid (Lib.size_eq s)
  have hb := at0_get s 0 (by omega)
  have hL := next_three (l := s.data.toList) a b
  rw [← hb] at a b
  have HL := Lib.hid hL
  clear hb hL
  go_enter Try.func46, Try.ntmps46
  go_wp2
  refine wp_loop_rounds 3 ?_
  rw [rounds_succ]
  go_wp2
  · (go_ret2; have e0 := b0.out; have e1 := b1.out; have e2 := b2.out; have ez := hsz.out; exact ⟨ret_tupI0 (by rw [HL.out, if_neg (by unfold n3v; omega)]), rfl⟩)
  rotate_left
  · (go_ret2; have e0 := b0.out; have e1 := b1.out; have e2 := b2.out; have ez := hsz.out; exact ⟨ret_tupI0 (by rw [HL.out, if_neg (by unfold n3v; omega)]), rfl⟩)
  rw [rounds_succ]
  go_wp2
  · (go_ret2; have e0 := b0.out; have e1 := b1.out; have e2 := b2.out; have ez := hsz.out; exact ⟨ret_tupI0 (by rw [HL.out, if_neg (by unfold n3v; omega)]), rfl⟩)
  rotate_left
  · (go_ret2; have e0 := b0.out; have e1 := b1.out; have e2 := b2.out; have ez := hsz.out; exact ⟨ret_tupI0 (by rw [HL.out, if_neg (by unfold n3v; omega)]), rfl⟩)
  rw [rounds_succ]
  go_wp2
  all_goals first | (go_ret2; have e0 := b0.out; have e1 := b1.out; have e2 := b2.out; have ez := hsz.out; have hq : nextL s.data.toList = (n3v s.data.toList, 3) := (by rw [HL.out, if_pos (by unfold n3v; omega)]); refine ⟨ret_tupI_of hq ?_ ?_, rfl⟩; (unfold n3v; omega); rfl) | (go_ret2; have e0 := b0.out; have e1 := b1.out; have e2 := b2.out; have ez := hsz.out; exact ⟨ret_tupI0 (by rw [HL.out, if_neg (by unfold n3v; omega)]), rfl⟩)
set_option maxHeartbeats 800000 in
set_option maxRecDepth 100000 in
theorem nextW_4short (s : ByteArray) (w : World) (a : 240 ≤ at0 s.data.toList 0) (b : at0 s.data.toList 0 < 245) (hp : s.size < 4) (hpos : 0 < s.size) :
    Calls Try.prog 46 #[.string s] w fun e w' => e = .returned (tupI (nextL s.data.toList)) ∧ w = w' := by
  have hsz := Lib.hid (Lib.size_eq s)
  have hb := at0_get s 0 hpos
  have hL := next_four (l := s.data.toList) a b
  rw [← hb] at a b
  have HL := Lib.hid hL
  clear hb hL
  go_enter Try.func46, Try.ntmps46
  go_wp2
  all_goals go_ret2
  have ez := hsz.out
  exact ⟨ret_tupI0 (by rw [HL.out, if_neg (by omega)]), rfl⟩
set_option maxHeartbeats 1600000 in
set_option maxRecDepth 100000 in
theorem nextW_4 (s : ByteArray) (w : World) (a : 240 ≤ at0 s.data.toList 0) (b : at0 s.data.toList 0 < 245) (hp : 4 ≤ s.size) :
    Calls Try.prog 46 #[.string s] w fun e w' => e = .returned (tupI (nextL s.data.toList)) ∧ w = w' := by
  have b0 := Lib.hid (at0_get s 0 (by omega))
  have b1 := Lib.hid (at0_get s 1 (by omega))
  have b2 := Lib.hid (at0_get s 2 (by omega))
  have b3 := Lib.hid (at0_get s 3 (by omega))
  have hsz := Lib.hid (Lib.size_eq s)
  have hb := at0_get s 0 (by omega)
  have hL := next_four (l := s.data.toList) a b
  rw [← hb] at a b
  have HL := Lib.hid hL
  clear hb hL
  go_enter Try.func46, Try.ntmps46
  go_wp2
  refine wp_loop_rounds 4 ?_
  rw [rounds_succ]
  go_wp2
  · (go_ret2; have e0 := b0.out; have e1 := b1.out; have e2 := b2.out; have e3 := b3.out; have ez := hsz.out; exact ⟨ret_tupI0 (by rw [HL.out, if_neg (by unfold n4v; omega)]), rfl⟩)
  rotate_left
  · (go_ret2; have e0 := b0.out; have e1 := b1.out; have e2 := b2.out; have e3 := b3.out; have ez := hsz.out; exact ⟨ret_tupI0 (by rw [HL.out, if_neg (by unfold n4v; omega)]), rfl⟩)
  rw [rounds_succ]
  go_wp2
  · (go_ret2; have e0 := b0.out; have e1 := b1.out; have e2 := b2.out; have e3 := b3.out; have ez := hsz.out; exact ⟨ret_tupI0 (by rw [HL.out, if_neg (by unfold n4v; omega)]), rfl⟩)
  rotate_left
  · (go_ret2; have e0 := b0.out; have e1 := b1.out; have e2 := b2.out; have e3 := b3.out; have ez := hsz.out; exact ⟨ret_tupI0 (by rw [HL.out, if_neg (by unfold n4v; omega)]), rfl⟩)
  rw [rounds_succ]
  go_wp2
  · (go_ret2; have e0 := b0.out; have e1 := b1.out; have e2 := b2.out; have e3 := b3.out; have ez := hsz.out; exact ⟨ret_tupI0 (by rw [HL.out, if_neg (by unfold n4v; omega)]), rfl⟩)
  rotate_left
  · (go_ret2; have e0 := b0.out; have e1 := b1.out; have e2 := b2.out; have e3 := b3.out; have ez := hsz.out; exact ⟨ret_tupI0 (by rw [HL.out, if_neg (by unfold n4v; omega)]), rfl⟩)
  rw [rounds_succ]
  go_wp2
  all_goals first | (go_ret2; have e0 := b0.out; have e1 := b1.out; have e2 := b2.out; have e3 := b3.out; have ez := hsz.out; have hq : nextL s.data.toList = (n4v s.data.toList, 4) := (by rw [HL.out, if_pos (by unfold n4v; omega)]); refine ⟨ret_tupI_of hq ?_ ?_, rfl⟩; (unfold n4v; omega); rfl) | (go_ret2; have e0 := b0.out; have e1 := b1.out; have e2 := b2.out; have e3 := b3.out; have ez := hsz.out; exact ⟨ret_tupI0 (by rw [HL.out, if_neg (by unfold n4v; omega)]), rfl⟩)
theorem next_any (s : ByteArray) (w : World) (hp : 0 < s.size) :
    Calls Try.prog 46 #[.string s] w fun e w' => e = .returned (tupI (nextL s.data.toList)) ∧ w = w' := by
  by_cases c1 : at0 s.data.toList 0 < 194
  · exact nextW_1 s w hp (by omega)
  by_cases c2 : at0 s.data.toList 0 < 224
  · by_cases h : 2 ≤ s.size
    · exact nextW_2 s w (by omega) c2 h
    · exact nextW_2short s w (by omega) c2 (by omega) hp
  by_cases c3 : at0 s.data.toList 0 < 240
  · by_cases h : 3 ≤ s.size
    · exact nextW_3 s w (by omega) c3 h
    · exact nextW_3short s w (by omega) c3 (by omega) hp
  by_cases c4 : at0 s.data.toList 0 < 245
  · by_cases h : 4 ≤ s.size
    · exact nextW_4 s w (by omega) c4 h
    · exact nextW_4short s w (by omega) c4 (by omega) hp
  · exact nextW_1 s w hp (by omega)
abbrev L (s : ByteArray) : List UInt8 := s.data.toList
theorem size_L (s : ByteArray) : s.size = (L s).length := Lib.size_eq s
theorem drop_ne {s : ByteArray} {pos : Nat} (h : pos < s.size) : (L s).drop pos ≠ [] := by
  intro e
  have := congrArg List.length e
  rw [List.length_drop, ← size_L] at this
  simp at this
  omega
theorem drop_end {s : ByteArray} {pos : Nat} (h : ¬ pos < s.size) : (L s).drop pos = [] := by
  apply List.drop_eq_nil_of_le
  rw [← size_L]
  omega
/-- One step at pos: the rune, and what is left behind it. -/
theorem step_at {s : ByteArray} {pos : Nat} (h : pos < s.size) :
    ∃ r k, Utf8.decode s pos = (r, k) ∧ dec ((L s).drop pos) = (r, k) ∧ 1 ≤ k ∧ pos + k ≤ s.size ∧ Scal r ∧ runes ((L s).drop pos) = r :: runes ((L s).drop (pos + k)) ∧
      validL ((L s).drop pos) = (!bad (r, k) && validL ((L s).drop (pos + k))) := by
  have hne := drop_ne h
  have hw := dec_width_le _ hne
  rw [List.length_drop, ← size_L] at hw
  refine ⟨(dec ((L s).drop pos)).1, (dec ((L s).drop pos)).2, decode_drop s pos, rfl, (dec_width _).1, by omega, dec_scal _, ?_, ?_⟩
  · rw [runes_cons _ hne, List.drop_drop]
  · rw [validL_cons _ hne, List.drop_drop]
/-- A rune 65533 is a bad byte's, but where its own three bytes stand. -/
theorem bad_good (l : List UInt8) (hne : l ≠ []) : bad (dec l) = (decide ((dec l).1 = 65533) && !goodB l) := by
  have hS : Scal 65533 := by unfold Scal; omega
  have hu : u8 65533 = [239, 191, 189] := by decide
  by_cases hg : goodB l = true
  · have hg' := hg
    unfold goodB at hg'
    simp only [Bool.and_eq_true, decide_eq_true_eq, beq_iff_eq] at hg'
    have hl : l = u8 65533 ++ l.drop 3 := by
      rw [hu, ← hg'.2]
      exact (List.take_append_drop 3 l).symm
    have hb : bad (dec l) = false := by
      rw [hl]
      exact bad_u8 65533 _ hS
    rw [hb, hg]
    simp
  · have hg' : goodB l = false := by simpa using hg
    rw [hg']
    by_cases hb : dec l = (65533, 1)
    · simp [bad, hb]
    · have ht := (dec_take l hne hb).1
      have h1 : (dec l).1 ≠ 65533 := by
        intro h1
        rw [h1, hu] at ht
        apply hg
        unfold goodB
        rw [ht]
        simp
      simp [bad, hb, h1]
theorem startsGood_true (s : ByteArray) (w : World) (h : goodB (L s) = true) :
    Calls Try.prog 47 #[.string s] w fun e w' => e = .returned (.bool true) ∧ w = w' := by
  have := startsGoodBad_any s w
  rwa [h] at this
theorem startsGood_false (s : ByteArray) (w : World) (h : goodB (L s) = false) :
    Calls Try.prog 47 #[.string s] w fun e w' => e = .returned (.bool false) ∧ w = w' := by
  have := startsGoodBad_any s w
  rwa [h] at this
set_option maxRecDepth 1000000 in
set_option maxHeartbeats 400000 in
theorem valid_any (s : ByteArray) (w : World) :
    Calls Try.prog 38 #[.string s] w fun e w' => e = .returned (.bool (validL (L s))) ∧ Below w.heap.size w w' := by
  go_enter Try.func38, Try.ntmps38
  go_wp2
  go_loopw [3, 4] (fun _ _ w' => ∃ pos : Nat, w' = w.iter s pos ∧ validL ((L s).drop pos) = validL (L s)) (fun _ _ w' => s.size - w'.iterPos w.heap.size)
  case atStart => exact ⟨0, rfl, by simp⟩
  case round =>
    obtain ⟨pos, rfl, hk⟩ := hrel
    have HK := Lib.hid hk
    clear hk
    by_cases hp : pos < s.size
    · obtain ⟨r, j, e1, e4, hj, hjs, _, _, e3⟩ := step_at hp
      have hnx : ∀ ty, (Instr.next (.pointer (some ⟨w.heap.size, 0, none⟩)) true ty).run Try.prog (w.iter s pos) = _ := fun ty => run_next_any w s pos ty hp
      rw [e1] at hnx
      have hbg := bad_good _ (drop_ne hp)
      rw [e4] at hbg
      have HB := Lib.hid hbg
      have E3 := Lib.hid e3
      clear e1 e3 e4 hbg
      by_cases hr : r = 65533
      · subst hr
        by_cases hg : goodB ((L s).drop pos) = true
        · have HG := fun W => Lib.hid (startsGood_true (s.extract pos s.size) W (by rw [L, Lib.extract_to_end]; exact hg))
          have hbf : bad (65533, j) = false := by rw [HB.out, hg]; rfl
          have HBF := Lib.hid hbf
          clear hg hbf
          go_wp2_with (go_at_call 47; refine (HG _).out.mono ?_; rintro e w' ⟨rfl, rfl⟩)
          go_roundw
          case rel => exact ⟨pos + j, rfl, by have a := HK.out; rw [E3.out, HBF.out] at a; simpa using a⟩
          case measure => simp; omega
        · have hg' : goodB ((L s).drop pos) = false := by simpa using hg
          have HG := fun W => Lib.hid (startsGood_false (s.extract pos s.size) W (by rw [L, Lib.extract_to_end]; exact hg'))
          have hbf : bad (65533, j) = true := by rw [HB.out, hg']; rfl
          have HBF := Lib.hid hbf
          clear hg hg' hbf
          go_wp2_with (go_at_call 47; refine (HG _).out.mono ?_; rintro e w' ⟨rfl, rfl⟩)
          go_ret
          refine ⟨ret_bool ?_, (Below.refl _ _).alloc (Nat.le_refl _) _⟩
          rw [← HK.out, E3.out, HBF.out]
          rfl
      · have hrz : ((r : Int) == 65533) = false := by rw [beq_eq_false_iff_ne]; omega
        have hbf : bad (r, j) = false := by rw [HB.out]; simp [hr]
        have HBF := Lib.hid hbf
        clear hbf
        go_wp2
        go_roundw
        case rel => exact ⟨pos + j, rfl, by have a := HK.out; rw [E3.out, HBF.out] at a; simpa using a⟩
        case measure => simp; omega
    · have hnx : ∀ ty, (Instr.next (.pointer (some ⟨w.heap.size, 0, none⟩)) true ty).run Try.prog (w.iter s pos) = _ := fun ty => run_next_end w s pos ty hp
      go_wp2
      go_ret
      refine ⟨ret_bool ?_, (Below.refl _ _).alloc (Nat.le_refl _) _⟩
      rw [← HK.out, drop_end hp]
      rfl
theorem new_cells (w : World) (cs : List Value) (t : TypeId) : ∀ j u, cs[j]? = some u → (w.alloc (.cells cs.toArray t)).cell? (({ block := w.heap.size, off := 0 } : Addr).add j) = some u := by
  intro j u h
  have e : (({ block := w.heap.size, off := 0 } : Addr).add j) = ⟨w.heap.size, j, none⟩ := by
    simp [Addr.add]
    intro hj
    exact hj.symm
  rw [e]
  have := World.cell?_alloc_mark w cs.toArray t (0, 0) j
  rw [this]
  simpa using h
theorem int_cells (k : IntKind) (l : List Int) : ∀ u ∈ l.map (Value.int k), u.oneCell' = true := by
  intro u hu
  obtain ⟨x, _, rfl⟩ := List.mem_map.1 hu
  rfl
def nameGo (k : Nat) (rs : List Nat) : Bool := decide (rs.length + k ≤ 64) && rs.all fun (r : Nat) => nameB (r : Int)
def nameL (l : List UInt8) : Bool := nameGo 0 (runes l) && decide (0 < (runes l).length) && validL l
theorem nameGo_cons (k r : Nat) (rs : List Nat) : nameGo k (r :: rs) = (nameB (r : Int) && nameGo (k + 1) rs) := by
  unfold nameGo
  rw [Bool.eq_iff_iff]
  simp only [List.length_cons, List.all_cons, Bool.and_eq_true, decide_eq_true_eq]
  constructor
  · rintro ⟨a, b, c⟩; exact ⟨b, by omega, c⟩
  · rintro ⟨a, b, c⟩; exact ⟨by omega, a, c⟩
theorem nameRune_true (r : Int) (w : World) (h : nameB r = true) : Calls Try.prog 37 #[.int .i32 r] w fun e w' => e = .returned (.bool true) ∧ w = w' := by
  have := nameRune_any r w
  rwa [h] at this
theorem nameRune_false (r : Int) (w : World) (h : nameB r = false) : Calls Try.prog 37 #[.int .i32 r] w fun e w' => e = .returned (.bool false) ∧ w = w' := by
  have := nameRune_any r w
  rwa [h] at this
set_option maxRecDepth 1000000 in
set_option maxHeartbeats 800000 in
theorem Name_any (s : ByteArray) (w : World) :
    Calls Try.prog 33 #[.string s] w fun e w' => e = .returned (.bool (nameL (L s))) ∧ Below w.heap.size w w' := by
  go_enter Try.func33, Try.ntmps33
  go_wp2
  go_loopw [3, 5] (fun n _ w' => ∃ pos k : Nat, w' = w.iter s pos ∧ n = .int .i64 k ∧ k ≤ 64 ∧ nameGo k (runes ((L s).drop pos)) = nameGo 0 (runes (L s)) ∧ k + (runes ((L s).drop pos)).length = (runes (L s)).length) (fun _ _ w' => s.size - w'.iterPos w.heap.size)
  case atStart => exact ⟨0, 0, rfl, rfl, by omega, by simp, by simp⟩
  case round =>
    obtain ⟨pos, k, rfl, rfl, hk, hgo, hcnt⟩ := hrel
    have HGO := Lib.hid hgo
    have HC := Lib.hid hcnt
    clear hgo hcnt
    by_cases hp : pos < s.size
    · obtain ⟨r, j, e1, _, hj, hjs, hsc, e2, _⟩ := step_at hp
      have hnx : ∀ ty, (Instr.next (.pointer (some ⟨w.heap.size, 0, none⟩)) true ty).run Try.prog (w.iter s pos) = _ := fun ty => run_next_any w s pos ty hp
      rw [e1] at hnx
      have E2 := Lib.hid e2
      clear e1 e2
      by_cases h64 : k = 64
      · subst h64
        have hres := Lib.hid (show nameL (L s) = false by
          unfold nameL
          rw [← HGO.out, E2.out]
          have : nameGo 64 (r :: runes ((L s).drop (pos + j))) = false := by
            unfold nameGo
            rw [decide_eq_false (by simp), Bool.false_and]
          rw [this]
          rfl)
        go_wp2
        go_ret
        exact ⟨ret_bool hres.out.symm, (Below.refl _ _).alloc (Nat.le_refl _) _⟩
      · by_cases hnb : nameB (r : Int) = true
        · have HN := fun W => Lib.hid (nameRune_true (r : Int) W hnb)
          have HNB := Lib.hid hnb
          clear hnb
          go_wp2_with (go_at_call 37; refine (HN _).out.mono ?_; rintro e w' ⟨rfl, rfl⟩)
          go_roundw
          case rel =>
            refine ⟨pos + j, k + 1, rfl, by go_num, by omega, ?_, ?_⟩
            · rw [← HGO.out, E2.out, nameGo_cons, HNB.out, Bool.true_and]
            · have := HC.out
              rw [E2.out] at this
              simp only [List.length_cons] at this
              omega
          case measure => simp; omega
        · have hnb' : nameB (r : Int) = false := by simpa using hnb
          have HN := fun W => Lib.hid (nameRune_false (r : Int) W hnb')
          have hres := Lib.hid (show nameL (L s) = false by
            unfold nameL
            rw [← HGO.out, E2.out, nameGo_cons, hnb']
            rfl)
          clear hnb hnb'
          go_wp2_with (go_at_call 37; refine (HN _).out.mono ?_; rintro e w' ⟨rfl, rfl⟩)
          go_ret
          exact ⟨ret_bool hres.out.symm, (Below.refl _ _).alloc (Nat.le_refl _) _⟩
    · have hnx : ∀ ty, (Instr.next (.pointer (some ⟨w.heap.size, 0, none⟩)) true ty).run Try.prog (w.iter s pos) = _ := fun ty => run_next_end w s pos ty hp
      have hlen : k = (runes (L s)).length := by
        have := HC.out
        rw [drop_end hp, runes_nil] at this
        simpa using this
      have hgo1 : nameGo 0 (runes (L s)) = true := by
        rw [← HGO.out, drop_end hp, runes_nil]
        unfold nameGo
        simp; omega
      have hB := (Below.refl w.heap.size w).alloc (Nat.le_refl _) (Obj.stringIter s pos)
      have hB : Below w.heap.size w (w.iter s pos) := hB
      by_cases hk0 : k = 0
      · have hres := Lib.hid (show nameL (L s) = false by
          unfold nameL
          rw [← hlen, hk0]
          simp)
        subst hk0
        clear hlen hgo1
        go_wp2
        go_ret
        exact ⟨ret_bool hres.out.symm, hB⟩
      · have hres := Lib.hid (show nameL (L s) = validL (L s) by
          unfold nameL
          rw [← hlen, hgo1, decide_eq_true (by omega), Bool.true_and, Bool.true_and])
        have HV := Lib.hid (valid_any s (w.iter s pos))
        have hws : w.heap.size ≤ (w.iter s pos).heap.size := hB.size
        clear hlen hgo1
        go_wp2_with (go_at_call 38; refine HV.out.mono ?_; rintro e w' ⟨rfl, hb2⟩)
        go_ret
        exact ⟨ret_bool hres.out.symm, hB.trans (hb2.mono hws)⟩
theorem Try.info3 : (Try.prog.info? 3).map (fun i => (i.zero, i.size, i.bytes)) = some (some (.int .i64 0), 1, 8) := by kernel_rfl
def icells (l : List Int) : List Value := l.map fun (r : Int) => .int .i64 r
theorem icells_append (a b : List Int) : icells (a ++ b) = icells a ++ icells b := by simp [icells]
def ints (l : List Nat) : List Int := l.map fun (r : Nat) => (r : Int)
theorem ints_append (a b : List Nat) : ints (a ++ b) = ints a ++ ints b := by simp [ints]
theorem ints_length (a : List Nat) : (ints a).length = a.length := by simp [ints]
def strSize : Value → Nat
  | .string s => s.size
  | _ => 0
theorem next_at (s : ByteArray) (w : World) (l : List UInt8) (r n : Nat) (hp : 0 < s.size) (hl : s.data.toList = l) (h : nextL l = (r, n)) :
    Calls Try.prog 46 #[.string s] w fun e w' => e = .returned (.tuple #[.int .i64 r, .int .i64 n]) ∧ w = w' := by
  have := next_any s w hp
  rw [hl, h] at this
  exact this
set_option maxRecDepth 1000000 in
set_option maxHeartbeats 800000 in
theorem refRunes_any (s : ByteArray) (w : World) (hs : s.size ≤ 1000000) :
    Calls Try.prog 36 #[.string s] w fun e w' => ∃ v, e = .returned (.tuple #[v, .bool (validL (L s))]) ∧ w'.ownsRow w.heap.size 3 1 v (ints (runes (L s))).length (icells (ints (runes (L s)))) ∧ Below w.heap.size w w' := by
  have hlen := runes_length_le (L s)
  rw [← size_L] at hlen
  have HLEN := Lib.hid hlen
  clear hlen
  obtain ⟨i0, hi, hz0, hz1, hz2⟩ := info_parts Try.info3
  go_enter Try.func36, Try.ntmps36
  go_wp2
  go_loopw [0, 4, 5, 6, 7] (fun x v ok _ _ wr => ∃ (t : ByteArray) (b : Bool) (done : List Nat), x = .string t ∧ ok = .bool b ∧ t.size ≤ s.size ∧ wr.ownsRow w.heap.size 3 1 v (ints done).length (icells (ints done)) ∧ done ++ runes (L t) = runes (L s) ∧ (b && validL (L t)) = validL (L s) ∧ Below w.heap.size w wr) (fun x _ _ _ _ _ => strSize x)
  case atStart => exact ⟨s, true, [], rfl, rfl, Nat.le_refl _, World.ownsRow_nil _ _ _ _, by simp, by simp, Below.refl _ _⟩
  case round =>
    obtain ⟨t, b, done, rfl, rfl, hts, hown, hrem, hval, hbel⟩ := hrel
    have HOWN := Lib.hid hown
    have HREM := Lib.hid hrem
    have HVAL := Lib.hid hval
    have hbs := hbel.size
    clear hown hrem hval
    have hdl : done.length ≤ 1000000 := by
      have a := congrArg List.length HREM.out
      have c := HLEN.out
      simp only [List.length_append] at a
      omega
    by_cases hp : 0 < t.size
    · have hne : L t ≠ [] := by
        intro e
        have : t.size = 0 := by rw [size_L, e]; rfl
        omega
      have hwl := dec_width_le _ hne
      have hw1 := (dec_width (L t)).1
      have hrc := runes_cons _ hne
      have hvc := validL_cons _ hne
      have hru := dec_rune (L t)
      obtain ⟨r, n, hd⟩ : ∃ r n, dec (L t) = (r, n) := ⟨_, _, rfl⟩
      rw [hd] at hwl hw1 hrc hvc hru
      rw [← size_L] at hwl
      simp only at hwl hw1 hrc hvc hru
      have HRC := Lib.hid hrc
      have HVC := Lib.hid hvc
      have hex : ∀ n, L (t.extract n t.size) = (L t).drop n := fun n => Lib.extract_to_end t n
      have hexs : ∀ n, (t.extract n t.size).size = t.size - n := fun n => by rw [size_L, hex, List.length_drop, ← size_L]
      have HEX := Lib.hid hex
      have HEXS := Lib.hid hexs
      clear hrc hvc hne hex hexs
      by_cases hbad : bad (r, n) = true
      · have hrn : r = 65533 ∧ n = 1 := by simpa [bad] using hbad
        obtain ⟨rfl, rfl⟩ := hrn
        have hnx : nextL (L t) = (0, 0) := by rw [nextL_of hd]; rfl
        have HN := Lib.hid (next_at t wr (L t) 0 0 hp rfl hnx)
        have HBAD := Lib.hid hbad
        clear hd hnx hbad
        go_wp2_with (first | (go_at_call 46; refine HN.out.mono ?_; rintro e w' ⟨rfl, rfl⟩) | (at_builtin; refine wpList_append_own _ rfl (.tmp 18) (.tmp 20) 60 rfl w.heap.size 3 i0 (.int .i64 0) 1 8 Try.underlying60 hi hz0 hz1 hz2 rfl (by decide) _ _ _ rfl (HOWN.out.alloc _) ⟨wr.heap.size, 0, none⟩ 1 1 [.int .i64 65533] rfl rfl ?c1 ?c2 ?c3 ?c4 ?c5 ?_))
        case c1 => exact new_cells wr [.int .i64 65533] 3
        case c2 => exact int_cells .i64 [65533]
        case c3 => rw [ints_length]; unfold maxLen; omega
        case c4 => rw [ints_length]; omega
        case c5 => simp; omega
        intro v' w1 hown' hgrow _
        have HO' := Lib.hid hown'
        have hB1 : Below w.heap.size w w1 := (hbel.alloc (by omega) _).grown hgrow (by simp; omega) (fun k hk => (HOWN.out.lt k hk).1)
        clear hown' hgrow
        go_wp2
        go_roundw
        case rel =>
          refine ⟨t.extract 1 t.size, false, done ++ [65533], rfl, rfl, by rw [HEXS.out]; omega, ?_, ?_, ?_, hB1⟩
          · have := HO'.out
            rw [ints_append, icells_append, List.length_append]
            exact this
          · rw [List.append_assoc, HEX.out, ← HREM.out, HRC.out]
            rfl
          · rw [← HVAL.out, HVC.out, HBAD.out]
            simp
        case measure => simp only [strSize]; rw [HEXS.out]; omega
      · have hbad' : bad (r, n) = false := by simpa using hbad
        have hnx : nextL (L t) = (r, n) := by
          rw [nextL_of hd, if_neg]
          intro h
          rw [h] at hbad'
          simp [bad] at hbad'
        have HN := Lib.hid (next_at t wr (L t) r n hp rfl hnx)
        have HBAD := Lib.hid hbad'
        have hn0 : ((n : Int) == 0) = false := by rw [beq_eq_false_iff_ne]; omega
        have hn4 : n ≤ 4 := by have := (dec_width (L t)).2; rw [hd] at this; exact this
        clear hd hnx hbad hbad'
        go_wp2_with (first | (go_at_call 46; refine HN.out.mono ?_; rintro e w' ⟨rfl, rfl⟩) | (at_builtin; refine wpList_append_own _ rfl (.tmp 18) (.tmp 20) 60 rfl w.heap.size 3 i0 (.int .i64 0) 1 8 Try.underlying60 hi hz0 hz1 hz2 rfl (by decide) _ _ _ rfl (HOWN.out.alloc _) ⟨wr.heap.size, 0, none⟩ 1 1 [.int .i64 r] rfl rfl ?c1 ?c2 ?c3 ?c4 ?c5 ?_))
        case c1 => exact new_cells wr [.int .i64 (r : Int)] 3
        case c2 => exact int_cells .i64 [(r : Int)]
        case c3 => rw [ints_length]; unfold maxLen; omega
        case c4 => rw [ints_length]; omega
        case c5 => simp; omega
        intro v' w1 hown' hgrow _
        have HO' := Lib.hid hown'
        have hB1 : Below w.heap.size w w1 := (hbel.alloc (by omega) _).grown hgrow (by simp; omega) (fun k hk => (HOWN.out.lt k hk).1)
        clear hown' hgrow
        go_wp2
        go_roundw
        case rel =>
          refine ⟨t.extract n t.size, b, done ++ [r], rfl, rfl, by rw [HEXS.out]; omega, ?_, ?_, ?_, hB1⟩
          · have := HO'.out
            rw [ints_append, icells_append, List.length_append]
            exact this
          · rw [List.append_assoc, HEX.out, ← HREM.out, HRC.out]
            rfl
          · rw [← HVAL.out, HVC.out, HBAD.out, HEX.out]
            simp
        case measure => simp only [strSize]; rw [HEXS.out]; omega
    · have hnil : L t = [] := List.eq_nil_of_length_eq_zero (by rw [← size_L]; omega)
      have hdone : done = runes (L s) := by
        have := HREM.out
        rw [hnil, runes_nil, List.append_nil] at this
        exact this
      have hb : b = validL (L s) := by
        have := HVAL.out
        rw [hnil, validL_nil, Bool.and_true] at this
        exact this
      have HD := Lib.hid hdone
      have HB := Lib.hid hb
      clear hnil hdone hb
      go_wp2
      go_ret2
      refine ⟨u4, ?_, ?_, hbel⟩
      · rw [← HB.out]; rfl
      · rw [← HD.out]; exact HOWN.out
/-- The slice value v reads as the ints zs. -/
def SlI (w : World) (v : Value) (zs : List Int) : Prop :=
  (v = .slice none 0 0 ∧ zs = []) ∨ ∃ b off cap, v = .slice (some ⟨b, off, none⟩) zs.length cap ∧ ∀ j, j < zs.length → w.cell? ⟨b, off + j, none⟩ = some (.int .i64 (zs.getD j 0))
theorem SlI_own {w : World} {base : Nat} {v : Value} {l : List Int} (h : w.ownsRow base 3 1 v l.length (icells l)) : SlI w v l := by
  rcases h.2 with ⟨rfl, hn⟩ | ⟨g, cap, cur, rfl, hb, hgg, rest⟩
  · exact .inl ⟨rfl, List.eq_nil_of_length_eq_zero hn⟩
  · refine .inr ⟨g, 0, cap, rfl, ?_⟩
    intro j hj
    have := h.cells (g := g) rfl j (.int .i64 l[j]) (by simp [icells, hj])
    have e : (({ block := g, off := 0 } : Addr).add j) = ⟨g, 0 + j, none⟩ := by simp [Addr.add]; intro h0; exact h0.symm
    rw [e] at this
    rw [this]
    simp [hj]
theorem refRunes_at (b : Bool) (s : ByteArray) (w : World) (hs : s.size ≤ 1000000) (h : validL (L s) = b) :
    Calls Try.prog 36 #[.string s] w fun e w' => ∃ v, e = .returned (.tuple #[v, .bool b]) ∧ w'.ownsRow w.heap.size 3 1 v (ints (runes (L s))).length (icells (ints (runes (L s)))) ∧ Below w.heap.size w w' := by
  have := refRunes_any s w hs
  rwa [h] at this
theorem take_nextN {rs : List Nat} {k r : Nat} (h : k < rs.length) (hr : rs.getD k 0 = r) : rs.take (k + 1) = rs.take k ++ [r] := by
  rw [List.take_succ_eq_append_getElem h]
  congr 2
  rw [← hr]
  simp [List.getD, h]
theorem SlI_some {w : World} {v : Value} {zs : List Int} (h : SlI w v zs) (hne : 0 < zs.length) : ∃ b off cap, v = .slice (some ⟨b, off, none⟩) zs.length cap ∧ ∀ j, j < zs.length → w.cell? ⟨b, off + j, none⟩ = some (.int .i64 (zs.getD j 0)) := by
  rcases h with ⟨_, rfl⟩ | h
  · simp at hne
  · exact h
theorem nameB_iff (r : Int) : nameB r = true ↔ 32 < r ∧ r ≠ 127 ∧ r ≠ 59 ∧ r ≠ 91 ∧ r ≠ 40 ∧ r ≠ 41 ∧ r ≠ 46 := by unfold nameB; exact decide_eq_true_iff
set_option maxRecDepth 1000000 in
set_option maxHeartbeats 1600000 in
theorem refName_any (s : ByteArray) (w : World) (hs : s.size ≤ 1000000) :
    Calls Try.prog 32 #[.string s] w fun e w' => e = .returned (.bool (nameL (L s))) ∧ Below w.heap.size w w' := by
  have hrl := runes_length_le (L s)
  rw [← size_L] at hrl
  by_cases hv : validL (L s) = true
  · have HR := Lib.hid (refRunes_at true s w hs hv)
    have HN := Lib.hid (show nameL (L s) = (nameGo 0 (runes (L s)) && decide (0 < (runes (L s)).length)) by unfold nameL; rw [hv, Bool.and_true])
    clear hv
    generalize runes (L s) = rs at *
    have hrb : rs.length ≤ 1000000 := by omega
    clear hrl
    go_enter Try.func32, Try.ntmps32
    go_wp2_with fail
    refine HR.out.mono ?_
    rintro e w1 ⟨lv, rfl, hown1, hb1⟩
    have hsl := SlI_own hown1
    clear hown1
    by_cases hpos : 0 < rs.length
    · obtain ⟨b, off, cap, rfl, hc⟩ := SlI_some hsl (by rw [ints_length]; exact hpos)
      rw [ints_length] at hc
      have HC := Lib.hid hc
      have hlen : (ints rs).length = rs.length := ints_length rs
      rw [hlen]
      clear hsl hc hlen
      by_cases h64 : rs.length ≤ 64
      · have HN2 := Lib.hid (show nameL (L s) = rs.all fun (r : Nat) => nameB (r : Int) by
          rw [HN.out, decide_eq_true hpos, Bool.and_true]
          unfold nameGo
          rw [decide_eq_true (by omega), Bool.true_and])
        have hp1 : (1 : Int) ≤ (rs.length : Int) := by omega
        have hp2 : (rs.length : Int) ≤ 64 := by omega
        go_wp2
        go_loopw [5, 6] (fun i _ wr => ∃ k : Nat, k ≤ rs.length ∧ i = .int .i64 k ∧ ((rs.take k).all fun (r : Nat) => nameB (r : Int)) = true ∧ wr = w1) (fun i _ _ => rs.length - (intOf i).toNat)
        case atStart => exact ⟨0, Nat.zero_le _, rfl, by simp, rfl⟩
        case round =>
          obtain ⟨k, hk, rfl, hall, rfl⟩ := hrel
          have HALL := Lib.hid hall
          clear hall
          by_cases hlt : k < rs.length
          · have hcell := HC.out k hlt
            obtain ⟨r, hrk⟩ : ∃ r, rs.getD k 0 = r := ⟨_, rfl⟩
            have hik : (ints rs).getD k 0 = (r : Int) := by
              rw [← hrk]
              simp [ints, List.getD, hlt]
            rw [hik] at hcell
            have HTK := Lib.hid (take_nextN hlt hrk)
            clear hrk hik
            by_cases hnb : nameB (r : Int) = true
            · obtain ⟨n1, n2, n3, n4, n5, n6, n7⟩ := (nameB_iff _).1 hnb
              have HNB := Lib.hid hnb
              have m2 : ((r : Int) == 127) = false := beq_eq_false_iff_ne.2 n2
              have m3 : ((r : Int) == 59) = false := beq_eq_false_iff_ne.2 n3
              have m4 : ((r : Int) == 91) = false := beq_eq_false_iff_ne.2 n4
              have m5 : ((r : Int) == 40) = false := beq_eq_false_iff_ne.2 n5
              have m6 : ((r : Int) == 41) = false := beq_eq_false_iff_ne.2 n6
              have m7 : ((r : Int) == 46) = false := beq_eq_false_iff_ne.2 n7
              clear n2 n3 n4 n5 n6 n7 hnb
              go_wp2
              go_roundw
              case rel =>
                refine ⟨k + 1, by omega, by go_num, ?_, trivial⟩
                rw [HTK.out, List.all_append, HALL.out]
                simp [HNB.out]
              case measure => simp [intOf]; omega
            · have hno : (rs.all fun (r : Nat) => nameB (r : Int)) = false := by
                have hm : r ∈ rs := by
                  have : r ∈ rs.take (k + 1) := by rw [HTK.out]; simp
                  exact List.mem_of_mem_take this
                rw [List.all_eq_false]
                exact ⟨r, hm, by simpa using hnb⟩
              have HF := Lib.hid (show nameL (L s) = false by rw [HN2.out, hno])
              have hbad : (r : Int) ≤ 32 ∨ (32 < (r : Int) ∧ r = 127) ∨ (32 < (r : Int) ∧ r = 59) ∨ (32 < (r : Int) ∧ r = 91) ∨ (32 < (r : Int) ∧ r = 40) ∨ (32 < (r : Int) ∧ r = 41) ∨ (32 < (r : Int) ∧ r = 46) := by
                have : ¬ (32 < (r : Int) ∧ (r : Int) ≠ 127 ∧ (r : Int) ≠ 59 ∧ (r : Int) ≠ 91 ∧ (r : Int) ≠ 40 ∧ (r : Int) ≠ 41 ∧ (r : Int) ≠ 46) := fun h => hnb ((nameB_iff (r : Int)).2 h)
                omega
              clear hnb hno
              rcases hbad with h | ⟨_, rfl⟩ | ⟨_, rfl⟩ | ⟨_, rfl⟩ | ⟨_, rfl⟩ | ⟨_, rfl⟩ | ⟨_, rfl⟩
              all_goals
                go_wp2
                go_ret
                exact ⟨ret_bool HF.out.symm, hb1⟩
          · have HT := Lib.hid (show nameL (L s) = true by
              have := HALL.out
              rw [List.take_of_length_le (by omega)] at this
              rw [HN2.out, this])
            go_wp2
            go_ret
            exact ⟨ret_bool HT.out.symm, hb1⟩
      · have HF := Lib.hid (show nameL (L s) = false by
          rw [HN.out]
          unfold nameGo
          rw [decide_eq_false (by omega), Bool.false_and, Bool.false_and])
        have hp1 : (1 : Int) ≤ (rs.length : Int) := by omega
        have hp2 : (64 : Int) < (rs.length : Int) := by omega
        go_wp2
        go_ret
        exact ⟨ret_bool HF.out.symm, hb1⟩
    · have hnil : rs = [] := List.eq_nil_of_length_eq_zero (by omega)
      subst hnil
      have HF := Lib.hid (show nameL (L s) = false by rw [HN.out]; simp)
      have hlv : lv = .slice none 0 0 ∨ ∃ a c, lv = .slice (some a) 0 c := by
        rcases hsl with ⟨h, _⟩ | ⟨b, off, cap, h, _⟩
        · exact .inl h
        · exact .inr ⟨_, cap, h⟩
      clear hsl
      rcases hlv with rfl | ⟨a, c, rfl⟩
      all_goals
        go_wp2
        go_ret
        exact ⟨ret_bool HF.out.symm, hb1⟩
  · have hv' : validL (L s) = false := by simpa using hv
    have HR := Lib.hid (refRunes_at false s w hs hv')
    have HF := Lib.hid (show nameL (L s) = false by unfold nameL; rw [hv', Bool.and_false])
    clear hv hv' hrl
    go_enter Try.func32, Try.ntmps32
    go_wp2_with fail
    refine HR.out.mono ?_
    rintro e w1 ⟨lv, rfl, hown1, hb1⟩
    clear hown1
    go_wp2
    go_ret
    exact ⟨ret_bool HF.out.symm, hb1⟩
end Go.Proofs.Ytamafgpconfipaa
