/-
  CUT and joined from the texts of this seat: W3 W9 W10
-/
import Derived.Test.YtmaknddlgppinaaGreatDoorY11
import Derived.Test.YtmaknddlgppinaaGreatDoorY12
import Derived.Deep.QuietTactic
import Derived.BigQuiet
import Derived.Lib.AppendStr
set_option linter.unusedVariables false
set_option linter.unusedSimpArgs false
namespace Go.Proofs.YtmaknddlgppinaaGreatDoor
open Go.RowKit
open Go.Lib (decodeN)
/-- 'dec', with (0, 0) where there is none. -/
def nextL (l : List UInt8) : Nat × Nat := if bad (dec l) then (0, 0) else dec l
theorem nextL_of {l : List UInt8} {p : Nat × Nat} (h : dec l = p) : nextL l = if p = (65533, 1) then (0, 0) else p := by
 unfold nextL bad
 rw [h]
 by_cases hp : p = (65533, 1)
 ·simp [hp]
 ·simp [hp]
def n2v (l : List UInt8) : Nat := (at0 l 0 - 192) * 64 + (at0 l 1 - 128)
def n3v (l : List UInt8) : Nat := ((at0 l 0 - 224) * 64 + (at0 l 1 - 128)) * 64 + (at0 l 2 - 128)
def n4v (l : List UInt8) : Nat := (((at0 l 0 - 240) * 64 + (at0 l 1 - 128)) * 64 + (at0 l 2 - 128)) * 64 + (at0 l 3 - 128)
theorem next_one {l : List UInt8} (h : at0 l 0 < 128) : nextL l = (at0 l 0, 1) := by
 have e : dec l = (at0 l 0, 1) := by unfold dec decodeN; rw [if_pos h]
 rw [nextL_of e, if_neg]
 intro hh
 have := congrArg Prod.fst hh
 simp only at this
 omega
theorem next_none {l : List UInt8} (h : (128 ≤ at0 l 0 ∧ at0 l 0 < 194) ∨ 245 ≤ at0 l 0) : nextL l = (0, 0) := by
 have h0 := at0_lt l 0
 have h1 := at0_lt l 1
 have h2 := at0_lt l 2
 have h3 := at0_lt l 3
 have e : dec l = (65533, 1) := by
  unfold dec decodeN
  rw [if_neg (by omega)]
  split
  ·rw [if_neg (by omega)]
  split
  ·rw [if_neg (by omega)]
  split
  ·rw [if_neg (by omega)]
  ·rfl
 rw [nextL_of e, if_pos rfl]
theorem next_two {l : List UInt8} (a : 194 ≤ at0 l 0) (b : at0 l 0 < 224) :
  nextL l = if 2 ≤ l.length ∧ 128 ≤ at0 l 1 ∧ at0 l 1 < 192 then (n2v l, 2) else (0, 0) := by
 have h1 := at0_lt l 1
 by_cases hc : 2 ≤ l.length ∧ 128 ≤ at0 l 1 ∧ at0 l 1 < 192
 ·have e : dec l = (n2v l, 2) := by
   unfold dec decodeN n2v
   rw [if_neg (by omega), if_pos (by omega), if_pos (by omega)]
   exact congrArg (·, 2) (by omega)
  rw [nextL_of e, if_pos hc, if_neg (by intro hh; have := congrArg Prod.snd hh; simp at this)]
 ·have e : dec l = (65533, 1) := by
   unfold dec decodeN
   rw [if_neg (by omega), if_neg (by omega), if_neg (by omega), if_neg (by omega)]
  rw [nextL_of e, if_pos rfl, if_neg hc]
theorem next_three {l : List UInt8} (a : 224 ≤ at0 l 0) (b : at0 l 0 < 240) :
  nextL l = if 3 ≤ l.length ∧ (128 ≤ at0 l 1 ∧ at0 l 1 < 192) ∧ (128 ≤ at0 l 2 ∧ at0 l 2 < 192) ∧ 2048 ≤ n3v l ∧ (n3v l < 55296 ∨ 57344 ≤ n3v l) then (n3v l, 3) else (0, 0) := by
 have h1 := at0_lt l 1
 have h2 := at0_lt l 2
 by_cases hc : 3 ≤ l.length ∧ (128 ≤ at0 l 1 ∧ at0 l 1 < 192) ∧ (128 ≤ at0 l 2 ∧ at0 l 2 < 192) ∧ 2048 ≤ n3v l ∧ (n3v l < 55296 ∨ 57344 ≤ n3v l)
 ·have e : dec l = (n3v l, 3) := by
   have hn : n3v l = at0 l 0 % 16 * 4096 + at0 l 1 % 64 * 64 + at0 l 2 % 64 := by unfold n3v; omega
   unfold dec decodeN
   rw [if_neg (by omega), if_neg (by omega), if_pos (by omega), if_pos (by omega)]
   exact congrArg (·, 3) hn.symm
  rw [nextL_of e, if_pos hc, if_neg (by intro hh; have := congrArg Prod.snd hh; simp at this)]
 ·have e : dec l = (65533, 1) := by
   unfold dec decodeN
   rw [if_neg (by omega), if_neg (by omega)]
   split
   ·rename_i hd
    have hn : n3v l = at0 l 0 % 16 * 4096 + at0 l 1 % 64 * 64 + at0 l 2 % 64 := by unfold n3v; omega
    rw [if_neg (by omega)]
   ·rw [if_neg (by omega)]
  rw [nextL_of e, if_pos rfl, if_neg hc]
theorem next_four {l : List UInt8} (a : 240 ≤ at0 l 0) (b : at0 l 0 < 245) :
  nextL l = if 4 ≤ l.length ∧ (128 ≤ at0 l 1 ∧ at0 l 1 < 192) ∧ (128 ≤ at0 l 2 ∧ at0 l 2 < 192) ∧ (128 ≤ at0 l 3 ∧ at0 l 3 < 192) ∧ 65536 ≤ n4v l ∧ n4v l ≤ 1114111 then (n4v l, 4) else (0, 0) := by
 have h1 := at0_lt l 1
 have h2 := at0_lt l 2
 have h3 := at0_lt l 3
 by_cases hc : 4 ≤ l.length ∧ (128 ≤ at0 l 1 ∧ at0 l 1 < 192) ∧ (128 ≤ at0 l 2 ∧ at0 l 2 < 192) ∧ (128 ≤ at0 l 3 ∧ at0 l 3 < 192) ∧ 65536 ≤ n4v l ∧ n4v l ≤ 1114111
 ·have e : dec l = (n4v l, 4) := by
   have hn : n4v l = at0 l 0 % 8 * 262144 + at0 l 1 % 64 * 4096 + at0 l 2 % 64 * 64 + at0 l 3 % 64 := by unfold n4v; omega
   unfold dec decodeN
   rw [if_neg (by omega), if_neg (by omega), if_neg (by omega), if_pos (by omega), if_pos (by omega)]
   exact congrArg (·, 4) hn.symm
  rw [nextL_of e, if_pos hc, if_neg (by intro hh; have := congrArg Prod.snd hh; simp at this)]
 ·have e : dec l = (65533, 1) := by
   unfold dec decodeN
   rw [if_neg (by omega), if_neg (by omega), if_neg (by omega)]
   split
   ·rename_i hd
    have hn : n4v l = at0 l 0 % 8 * 262144 + at0 l 1 % 64 * 4096 + at0 l 2 % 64 * 64 + at0 l 3 % 64 := by unfold n4v; omega
    rw [if_neg (by omega)]
   ·rfl
  rw [nextL_of e, if_pos rfl, if_neg hc]
def tupI (p : Nat × Nat) : Value := .tuple #[.int .i64 p.1, .int .i64 p.2]
theorem ret_tupI {a b : Int} {p : Nat × Nat} (h1 : a = p.1) (h2 : b = p.2) : Ending.returned (.tuple #[.int .i64 a, .int .i64 b]) = .returned (tupI p) := by rw [h1, h2]; rfl
theorem ret_tupI_of {a b : Int} {p : Nat × Nat} {x y : Nat} (h : p = (x, y)) (h1 : a = (x : Int)) (h2 : b = (y : Int)) : Ending.returned (.tuple #[.int .i64 a, .int .i64 b]) = .returned (tupI p) := by rw [h, h1, h2]; rfl
theorem ret_tupI0 {p : Nat × Nat} (h : p = (0, 0)) : Ending.returned (.tuple #[.int .i64 0, .int .i64 0]) = .returned (tupI p) := by rw [h]; rfl
set_option maxHeartbeats 800000 in
set_option maxRecDepth 100000 in
theorem nextW_1 (s : ByteArray) (w : World) (hp : 0 < s.size) (h : at0 s.data.toList 0 < 128 ∨ (128 ≤ at0 s.data.toList 0 ∧ at0 s.data.toList 0 < 194) ∨ 245 ≤ at0 s.data.toList 0) :
  Calls Tryz.prog 147 #[.string s] w fun e w' => e = .returned (tupI (nextL s.data.toList)) ∧ w = w' := by
 have b0 := Lib.hid (at0_get s 0 hp)
 have l0 := at0_lt s.data.toList 0
 have hb := at0_get s 0 hp
 have hlt : (s[0]'hp).toNat < 256 := by omega
 rw [← hb] at h
 clear hb l0
 rcases h with h | h
 ·go_enter Tryz.func147, Tryz.ntmps147
  go_wp2
  go_ret2
  have e0 := b0.out
  refine ⟨ret_tupI ?_ ?_, rfl⟩ <;> rw [next_one (by omega)] <;> simp only <;> omega
 ·rcases h with h | h
  all_goals
   go_enter Tryz.func147, Tryz.ntmps147
   go_wp2
   all_goals go_ret2
   have e0 := b0.out
   exact ⟨ret_tupI0 (next_none (by omega)), rfl⟩
set_option maxHeartbeats 800000 in
set_option maxRecDepth 100000 in
theorem nextW_2short (s : ByteArray) (w : World) (a : 194 ≤ at0 s.data.toList 0) (b : at0 s.data.toList 0 < 224) (hp : s.size < 2) (hpos : 0 < s.size) :
  Calls Tryz.prog 147 #[.string s] w fun e w' => e = .returned (tupI (nextL s.data.toList)) ∧ w = w' := by
 have hsz := Lib.hid (Lib.size_eq s)
 have hb := at0_get s 0 hpos
 have hL := next_two (l := s.data.toList) a b
 rw [← hb] at a b
 have HL := Lib.hid hL
 clear hb hL
 go_enter Tryz.func147, Tryz.ntmps147
 go_wp2
 all_goals go_ret2
 have ez := hsz.out
 exact ⟨ret_tupI0 (by rw [HL.out, if_neg (by omega)]), rfl⟩
set_option maxHeartbeats 1600000 in
set_option maxRecDepth 100000 in
theorem nextW_2 (s : ByteArray) (w : World) (a : 194 ≤ at0 s.data.toList 0) (b : at0 s.data.toList 0 < 224) (hp : 2 ≤ s.size) :
  Calls Tryz.prog 147 #[.string s] w fun e w' => e = .returned (tupI (nextL s.data.toList)) ∧ w = w' := by
 have b0 := Lib.hid (at0_get s 0 (by omega))
 have b1 := Lib.hid (at0_get s 1 (by omega))
 have hsz := Lib.hid (Lib.size_eq s)
 have hb := at0_get s 0 (by omega)
 have hL := next_two (l := s.data.toList) a b
 rw [← hb] at a b
 have HL := Lib.hid hL
 clear hb hL
 go_enter Tryz.func147, Tryz.ntmps147
 go_wp2
 refine wp_loop_rounds 2 ?_
 rw [rounds_succ]
 go_wp2
 ·(go_ret2; have e0 := b0.out; have e1 := b1.out; have ez := hsz.out; exact ⟨ret_tupI0 (by rw [HL.out, if_neg (by omega)]), rfl⟩)
 rotate_left
 ·(go_ret2; have e0 := b0.out; have e1 := b1.out; have ez := hsz.out; exact ⟨ret_tupI0 (by rw [HL.out, if_neg (by omega)]), rfl⟩)
 rw [rounds_succ]
 go_wp2
 all_goals first | (go_ret2; have e0 := b0.out; have e1 := b1.out; have ez := hsz.out; have hq : nextL s.data.toList = (n2v s.data.toList, 2) := (by rw [HL.out, if_pos (by omega)]); refine ⟨ret_tupI_of hq ?_ ?_, rfl⟩; (unfold n2v; omega); rfl) | (go_ret2; have e0 := b0.out; have e1 := b1.out; have ez := hsz.out; exact ⟨ret_tupI0 (by rw [HL.out, if_neg (by omega)]), rfl⟩)
set_option maxHeartbeats 800000 in
set_option maxRecDepth 100000 in
theorem nextW_3short (s : ByteArray) (w : World) (a : 224 ≤ at0 s.data.toList 0) (b : at0 s.data.toList 0 < 240) (hp : s.size < 3) (hpos : 0 < s.size) :
  Calls Tryz.prog 147 #[.string s] w fun e w' => e = .returned (tupI (nextL s.data.toList)) ∧ w = w' := by
 have hsz := Lib.hid (Lib.size_eq s)
 have hb := at0_get s 0 hpos
 have hL := next_three (l := s.data.toList) a b
 rw [← hb] at a b
 have HL := Lib.hid hL
 clear hb hL
 go_enter Tryz.func147, Tryz.ntmps147
 go_wp2
 all_goals go_ret2
 have ez := hsz.out
 exact ⟨ret_tupI0 (by rw [HL.out, if_neg (by omega)]), rfl⟩
set_option maxHeartbeats 1600000 in
set_option maxRecDepth 100000 in
theorem nextW_3 (s : ByteArray) (w : World) (a : 224 ≤ at0 s.data.toList 0) (b : at0 s.data.toList 0 < 240) (hp : 3 ≤ s.size) :
  Calls Tryz.prog 147 #[.string s] w fun e w' => e = .returned (tupI (nextL s.data.toList)) ∧ w = w' := by
 have b0 := Lib.hid (at0_get s 0 (by omega))
 have b1 := Lib.hid (at0_get s 1 (by omega))
 have b2 := Lib.hid (at0_get s 2 (by omega))
 have hsz := Lib.hid (Lib.size_eq s)
 have hb := at0_get s 0 (by omega)
 have hL := next_three (l := s.data.toList) a b
 rw [← hb] at a b
 have HL := Lib.hid hL
 clear hb hL
 go_enter Tryz.func147, Tryz.ntmps147
 go_wp2
 refine wp_loop_rounds 3 ?_
 rw [rounds_succ]
 go_wp2
 ·(go_ret2; have e0 := b0.out; have e1 := b1.out; have e2 := b2.out; have ez := hsz.out; exact ⟨ret_tupI0 (by rw [HL.out, if_neg (by unfold n3v; omega)]), rfl⟩)
 rotate_left
 ·(go_ret2; have e0 := b0.out; have e1 := b1.out; have e2 := b2.out; have ez := hsz.out; exact ⟨ret_tupI0 (by rw [HL.out, if_neg (by unfold n3v; omega)]), rfl⟩)
 rw [rounds_succ]
 go_wp2
 ·(go_ret2; have e0 := b0.out; have e1 := b1.out; have e2 := b2.out; have ez := hsz.out; exact ⟨ret_tupI0 (by rw [HL.out, if_neg (by unfold n3v; omega)]), rfl⟩)
 rotate_left
 ·(go_ret2; have e0 := b0.out; have e1 := b1.out; have e2 := b2.out; have ez := hsz.out; exact ⟨ret_tupI0 (by rw [HL.out, if_neg (by unfold n3v; omega)]), rfl⟩)
 rw [rounds_succ]
 go_wp2
 all_goals first | (go_ret2; have e0 := b0.out; have e1 := b1.out; have e2 := b2.out; have ez := hsz.out; have hq : nextL s.data.toList = (n3v s.data.toList, 3) := (by rw [HL.out, if_pos (by unfold n3v; omega)]); refine ⟨ret_tupI_of hq ?_ ?_, rfl⟩; (unfold n3v; omega); rfl) | (go_ret2; have e0 := b0.out; have e1 := b1.out; have e2 := b2.out; have ez := hsz.out; exact ⟨ret_tupI0 (by rw [HL.out, if_neg (by unfold n3v; omega)]), rfl⟩)
set_option maxHeartbeats 800000 in
set_option maxRecDepth 100000 in
theorem nextW_4short (s : ByteArray) (w : World) (a : 240 ≤ at0 s.data.toList 0) (b : at0 s.data.toList 0 < 245) (hp : s.size < 4) (hpos : 0 < s.size) :
  Calls Tryz.prog 147 #[.string s] w fun e w' => e = .returned (tupI (nextL s.data.toList)) ∧ w = w' := by
 have hsz := Lib.hid (Lib.size_eq s)
 have hb := at0_get s 0 hpos
 have hL := next_four (l := s.data.toList) a b
 rw [← hb] at a b
 have HL := Lib.hid hL
 clear hb hL
 go_enter Tryz.func147, Tryz.ntmps147
 go_wp2
 all_goals go_ret2
 have ez := hsz.out
 exact ⟨ret_tupI0 (by rw [HL.out, if_neg (by omega)]), rfl⟩
set_option maxHeartbeats 1600000 in
set_option maxRecDepth 100000 in
theorem nextW_4 (s : ByteArray) (w : World) (a : 240 ≤ at0 s.data.toList 0) (b : at0 s.data.toList 0 < 245) (hp : 4 ≤ s.size) :
  Calls Tryz.prog 147 #[.string s] w fun e w' => e = .returned (tupI (nextL s.data.toList)) ∧ w = w' := by
 have b0 := Lib.hid (at0_get s 0 (by omega))
 have b1 := Lib.hid (at0_get s 1 (by omega))
 have b2 := Lib.hid (at0_get s 2 (by omega))
 have b3 := Lib.hid (at0_get s 3 (by omega))
 have hsz := Lib.hid (Lib.size_eq s)
 have hb := at0_get s 0 (by omega)
 have hL := next_four (l := s.data.toList) a b
 rw [← hb] at a b
 have HL := Lib.hid hL
 clear hb hL
 go_enter Tryz.func147, Tryz.ntmps147
 go_wp2
 refine wp_loop_rounds 4 ?_
 rw [rounds_succ]
 go_wp2
 ·(go_ret2; have e0 := b0.out; have e1 := b1.out; have e2 := b2.out; have e3 := b3.out; have ez := hsz.out; exact ⟨ret_tupI0 (by rw [HL.out, if_neg (by unfold n4v; omega)]), rfl⟩)
 rotate_left
 ·(go_ret2; have e0 := b0.out; have e1 := b1.out; have e2 := b2.out; have e3 := b3.out; have ez := hsz.out; exact ⟨ret_tupI0 (by rw [HL.out, if_neg (by unfold n4v; omega)]), rfl⟩)
 rw [rounds_succ]
 go_wp2
 ·(go_ret2; have e0 := b0.out; have e1 := b1.out; have e2 := b2.out; have e3 := b3.out; have ez := hsz.out; exact ⟨ret_tupI0 (by rw [HL.out, if_neg (by unfold n4v; omega)]), rfl⟩)
 rotate_left
 ·(go_ret2; have e0 := b0.out; have e1 := b1.out; have e2 := b2.out; have e3 := b3.out; have ez := hsz.out; exact ⟨ret_tupI0 (by rw [HL.out, if_neg (by unfold n4v; omega)]), rfl⟩)
 rw [rounds_succ]
 go_wp2
 ·(go_ret2; have e0 := b0.out; have e1 := b1.out; have e2 := b2.out; have e3 := b3.out; have ez := hsz.out; exact ⟨ret_tupI0 (by rw [HL.out, if_neg (by unfold n4v; omega)]), rfl⟩)
 rotate_left
 ·(go_ret2; have e0 := b0.out; have e1 := b1.out; have e2 := b2.out; have e3 := b3.out; have ez := hsz.out; exact ⟨ret_tupI0 (by rw [HL.out, if_neg (by unfold n4v; omega)]), rfl⟩)
 rw [rounds_succ]
 go_wp2
 all_goals first | (go_ret2; have e0 := b0.out; have e1 := b1.out; have e2 := b2.out; have e3 := b3.out; have ez := hsz.out; have hq : nextL s.data.toList = (n4v s.data.toList, 4) := (by rw [HL.out, if_pos (by unfold n4v; omega)]); refine ⟨ret_tupI_of hq ?_ ?_, rfl⟩; (unfold n4v; omega); rfl) | (go_ret2; have e0 := b0.out; have e1 := b1.out; have e2 := b2.out; have e3 := b3.out; have ez := hsz.out; exact ⟨ret_tupI0 (by rw [HL.out, if_neg (by unfold n4v; omega)]), rfl⟩)
theorem next_any (s : ByteArray) (w : World) (hp : 0 < s.size) :
  Calls Tryz.prog 147 #[.string s] w fun e w' => e = .returned (tupI (nextL s.data.toList)) ∧ w = w' := by
 by_cases c1 : at0 s.data.toList 0 < 194
 ·exact nextW_1 s w hp (by omega)
 by_cases c2 : at0 s.data.toList 0 < 224
 ·by_cases h : 2 ≤ s.size
  ·exact nextW_2 s w (by omega) c2 h
  ·exact nextW_2short s w (by omega) c2 (by omega) hp
 by_cases c3 : at0 s.data.toList 0 < 240
 ·by_cases h : 3 ≤ s.size
  ·exact nextW_3 s w (by omega) c3 h
  ·exact nextW_3short s w (by omega) c3 (by omega) hp
 by_cases c4 : at0 s.data.toList 0 < 245
 ·by_cases h : 4 ≤ s.size
  ·exact nextW_4 s w (by omega) c4 h
  ·exact nextW_4short s w (by omega) c4 (by omega) hp
 ·exact nextW_1 s w hp (by omega)
end Go.Proofs.YtmaknddlgppinaaGreatDoor
namespace Go.Proofs.YtmaknddlgppinaaGreatDoor
open Go.RowKit
/-- 'string' of a new slice of bytes that are written out. -/
theorem bytes_new (w : World) (n : Nat) (vs : List Value) (l : List UInt8) (hv : vs = bcells l) (hn : n = l.length) :
  (convert 166 9 (.slice (some ⟨w.heap.size, 0, none⟩) n n)).run Tryz.prog (w.alloc (.cells vs.toArray 5)) = .ok (strV l) (w.alloc (.cells vs.toArray 5)) := by
 subst hn hv
 refine run_convert_bytes_back (w.alloc (.cells (bcells l).toArray 5)) 166 9 5 ⟨w.heap.size, 0, none⟩ l.length l Tryz.underlying166 Tryz.underlying5 Tryz.underlying9 ?_
 intro j hj
 exact new_cells w (bcells l) 5 j _ (by simp [bcells, hj])
theorem byte_cell {x : Nat} {z : Int} (h : z = (x : Int)) (hx : x < 256) : Value.int .u8 z = .int .u8 ((UInt8.ofNat x).toNat : Int) := by
 subst h
 congr 1
 simp
 omega
theorem cells_1 {x : Nat} {z : Int} (h : z = (x : Int)) (hx : x < 256) : [Value.int .u8 z] = bcells (bs [x]) := by
 rw [byte_cell h hx]; rfl
theorem cells_2 {x y : Nat} {z u : Int} (h : z = (x : Int)) (hx : x < 256) (h2 : u = (y : Int)) (hy : y < 256) : [Value.int .u8 z, .int .u8 u] = bcells (bs [x, y]) := by
 rw [byte_cell h hx, byte_cell h2 hy]; rfl
theorem cells_3 {x y t : Nat} {z u v : Int} (h : z = (x : Int)) (hx : x < 256) (h2 : u = (y : Int)) (hy : y < 256) (h3 : v = (t : Int)) (ht : t < 256) : [Value.int .u8 z, .int .u8 u, .int .u8 v] = bcells (bs [x, y, t]) := by
 rw [byte_cell h hx, byte_cell h2 hy, byte_cell h3 ht]; rfl
/-- Sixteen bits in three bytes. -/
def th (r : Nat) : List UInt8 := bs [224 + r / 4096, 128 + r / 64 % 64, 128 + r % 64]
set_option maxRecDepth 1000000 in
set_option maxHeartbeats 400000 in
theorem three_any (z : Int) (h0 : 0 ≤ z) (h1 : z < 65536) (w : World) :
  Calls Tryz.prog 172 #[.int .i64 z] w fun e w' => e = .returned (strV (th z.toNat)) ∧ Below w.heap.size w w' := by
 have hcv := bytes_new w 3 [.int .u8 (224 + z / 4096), .int .u8 (128 + z / 64 % 64), .int .u8 (128 + z % 64)] (th z.toNat) (cells_3 (by omega) (by omega) (by omega) (by omega) (by omega) (by omega)) rfl
 generalize th z.toNat = l at *
 go_enter Tryz.func172, Tryz.ntmps172
 go_wp2
 go_ret
 exact ⟨rfl, (Below.refl _ _).alloc (Nat.le_refl _) _⟩
theorem un_th {r : Nat} (h : 2048 ≤ r) : un r = th r := by unfold un unN th; rw [if_neg (by omega), if_neg (by omega)]
theorem add_str (w : World) (a b : List UInt8) (h : a.length + b.length ≤ 1000000) : (binOp .add 9 (strV a) (strV b)).run Tryz.prog w = .ok (strV (a ++ b)) w := by
 have := run_string_add_lists (P := Tryz.prog) w a b (by omega) (by omega)
 simp only [binOp, strV]
 rw [this]
set_option maxRecDepth 1000000 in
set_option maxHeartbeats 400000 in
theorem Bytes_any (z : Int) (hz : 0 ≤ z) (hz2 : z ≤ 1114111) (w : World) :
  Calls Tryz.prog 146 #[.int .i64 z] w fun e w' => e = .returned (strV (mb z.toNat)) ∧ Below w.heap.size w w' := by
 by_cases h1 : 1 ≤ z ∧ z < 128
 ·obtain ⟨h1a, h1b⟩ := h1
  have hcv := bytes_new w 1 [.int .u8 z] (bs [z.toNat]) (cells_1 (by omega) (by omega)) rfl
  have e : mb z.toNat = bs [z.toNat] := by unfold mb un unN; rw [if_pos (by omega), if_pos (by omega)]
  rw [e]
  clear e
  generalize bs [z.toNat] = l at *
  go_enter Tryz.func146, Tryz.ntmps146
  go_wp2
  go_ret
  exact ⟨rfl, (Below.refl _ _).alloc (Nat.le_refl _) _⟩
 by_cases h2 : z < 2048
 ·have hcv := bytes_new w 2 [.int .u8 (192 + z / 64), .int .u8 (128 + z % 64)] (bs [192 + z.toNat / 64, 128 + z.toNat % 64]) (cells_2 (by omega) (by omega) (by omega) (by omega)) rfl
  have e : mb z.toNat = bs [192 + z.toNat / 64, 128 + z.toNat % 64] := by unfold mb un unN; rw [if_pos (by omega), if_neg (by omega), if_pos (by omega)]
  rw [e]
  clear e
  by_cases h0 : z = 0
  ·subst h0
   have hcv : (convert 166 9 (.slice (some ⟨w.heap.size, 0, none⟩) 2 2)).run Tryz.prog (w.alloc (.cells #[.int .u8 192, .int .u8 128] 5)) = .ok (strV (bs [192 + (0 : Int).toNat / 64, 128 + (0 : Int).toNat % 64])) (w.alloc (.cells #[.int .u8 192, .int .u8 128] 5)) := hcv
   generalize bs [192 + (0 : Int).toNat / 64, 128 + (0 : Int).toNat % 64] = l at *
   clear h1
   go_enter Tryz.func146, Tryz.ntmps146
   go_wp2
   go_ret
   exact ⟨rfl, (Below.refl _ _).alloc (Nat.le_refl _) _⟩
  ·have h128 : 128 ≤ z := by omega
   generalize bs [192 + z.toNat / 64, 128 + z.toNat % 64] = l at *
   clear h1 h0
   go_enter Tryz.func146, Tryz.ntmps146
   go_wp2
   go_ret
   exact ⟨rfl, (Below.refl _ _).alloc (Nat.le_refl _) _⟩
 by_cases h3 : z < 65536
 ·have e : mb z.toNat = th z.toNat := by unfold mb; rw [if_pos (by omega), un_th (by omega)]
  rw [e]
  have HT := Lib.hid (three_any z hz h3 w)
  have h128 : 2048 ≤ z := by omega
  clear e h1 h2
  go_enter Tryz.func146, Tryz.ntmps146
  go_wp2_with (go_at_call 172; refine HT.out.mono ?_; rintro e w' ⟨rfl, hb⟩)
  go_ret
  exact ⟨rfl, hb⟩
 ·have e : mb z.toNat = th (55296 + (z - 65536) / 1024).toNat ++ th (56320 + (z - 65536) % 1024).toNat := by
   unfold mb
   have e1 : 55296 + (z.toNat - 65536) / 1024 = (55296 + (z - 65536) / 1024).toNat := by omega
   have e2 : 56320 + (z.toNat - 65536) % 1024 = (56320 + (z - 65536) % 1024).toNat := by omega
   rw [if_neg (by omega), un_th (by omega), un_th (by omega), e1, e2]
  rw [e]
  have H1 := fun W => Lib.hid (three_any (55296 + (z - 65536) / 1024) (by omega) (by omega) W)
  have H2 := fun W => Lib.hid (three_any (56320 + (z - 65536) % 1024) (by omega) (by omega) W)
  have hadd := fun W => add_str W (th (55296 + (z - 65536) / 1024).toNat) (th (56320 + (z - 65536) % 1024).toNat) (by simp [th, bs])
  have h128 : 65536 ≤ z := by omega
  clear e h1 h2 h3
  generalize th (55296 + (z - 65536) / 1024).toNat = la at *
  generalize th (56320 + (z - 65536) % 1024).toNat = lb at *
  go_enter Tryz.func146, Tryz.ntmps146
  go_wp2_with fail
  refine (H1 _).out.mono ?_
  rintro e w1 ⟨rfl, hb1⟩
  go_wp2_with fail
  refine (H2 _).out.mono ?_
  rintro e w2 ⟨rfl, hb2⟩
  have hb := hb1.trans (hb2.mono hb1.size)
  clear hb1 hb2
  go_wp2
  go_ret
  exact ⟨rfl, hb⟩
theorem Tryz.info3 : (Tryz.prog.info? 3).map (fun i => (i.zero, i.size, i.bytes)) = some (some (.int .i64 0), 1, 8) := by kernel_rfl
def icells (l : List Int) : List Value := l.map fun (r : Int) => .int .i64 r
theorem icells_append (a b : List Int) : icells (a ++ b) = icells a ++ icells b := by simp [icells]
def ints (l : List Nat) : List Int := l.map fun (r : Nat) => (r : Int)
theorem ints_append (a b : List Nat) : ints (a ++ b) = ints a ++ ints b := by simp [ints]
theorem ints_length (a : List Nat) : (ints a).length = a.length := by simp [ints]
def strSize : Value → Nat
 | .string s => s.size
 | _ => 0
theorem next_at (s : ByteArray) (w : World) (l : List UInt8) (r n : Nat) (hp : 0 < s.size) (hl : s.data.toList = l) (h : nextL l = (r, n)) :
  Calls Tryz.prog 147 #[.string s] w fun e w' => e = .returned (.tuple #[.int .i64 r, .int .i64 n]) ∧ w = w' := by
 have := next_any s w hp
 rw [hl, h] at this
 exact this
set_option maxRecDepth 1000000 in
set_option maxHeartbeats 800000 in
theorem refRunes_any (s : ByteArray) (w : World) (hs : s.size ≤ 1000000) :
  Calls Tryz.prog 133 #[.string s] w fun e w' => ∃ v, e = .returned (.tuple #[v, .bool (validL (L s))]) ∧ w'.ownsRow w.heap.size 3 1 v (ints (runes (L s))).length (icells (ints (runes (L s)))) ∧ Below w.heap.size w w' := by
 have hlen := runes_length_le (L s)
 rw [← size_L] at hlen
 have HLEN := Lib.hid hlen
 clear hlen
 obtain ⟨i0, hi, hz0, hz1, hz2⟩ := info_parts Tryz.info3
 go_enter Tryz.func133, Tryz.ntmps133
 go_wp2
 go_loopw [0, 4, 5, 6, 7] (fun x v ok _ _ wr => ∃ (t : ByteArray) (b : Bool) (done : List Nat), x = .string t ∧ ok = .bool b ∧ t.size ≤ s.size ∧ wr.ownsRow w.heap.size 3 1 v (ints done).length (icells (ints done)) ∧ done ++ runes (L t) = runes (L s) ∧ (b && validL (L t)) = validL (L s) ∧ Below w.heap.size w wr) (fun x _ _ _ _ _ => strSize x)
 case atStart => exact ⟨s, true, [], rfl, rfl, Nat.le_refl _, World.ownsRow_nil _ _ _ _, by simp, by simp, Below.refl _ _⟩
 case round =>
  obtain ⟨t, b, done, rfl, rfl, hts, hown, hrem, hval, hbel⟩ := hrel
  have HOWN := Lib.hid hown
  have HREM := Lib.hid hrem
  have HVAL := Lib.hid hval
  have hbs := hbel.size
  clear hown hrem hval
  have hdl : done.length ≤ 1000000 := by
   have a := congrArg List.length HREM.out
   have c := HLEN.out
   simp only [List.length_append] at a
   omega
  by_cases hp : 0 < t.size
  ·have hne : L t ≠ [] := by
    intro e
    have : t.size = 0 := by rw [size_L, e]; rfl
    omega
   have hwl := dec_width_le _ hne
   have hw1 := (dec_width (L t)).1
   have hrc := runes_cons _ hne
   have hvc := validL_cons _ hne
   have hru := dec_rune (L t)
   obtain ⟨r, n, hd⟩ : ∃ r n, dec (L t) = (r, n) := ⟨_, _, rfl⟩
   rw [hd] at hwl hw1 hrc hvc hru
   rw [← size_L] at hwl
   simp only at hwl hw1 hrc hvc hru
   have HRC := Lib.hid hrc
   have HVC := Lib.hid hvc
   have hex : ∀ n, L (t.extract n t.size) = (L t).drop n := fun n => Lib.extract_to_end t n
   have hexs : ∀ n, (t.extract n t.size).size = t.size - n := fun n => by rw [size_L, hex, List.length_drop, ← size_L]
   have HEX := Lib.hid hex
   have HEXS := Lib.hid hexs
   clear hrc hvc hne hex hexs
   by_cases hbad : bad (r, n) = true
   ·have hrn : r = 65533 ∧ n = 1 := by simpa [bad] using hbad
    obtain ⟨rfl, rfl⟩ := hrn
    have hnx : nextL (L t) = (0, 0) := by rw [nextL_of hd]; rfl
    have HN := Lib.hid (next_at t wr (L t) 0 0 hp rfl hnx)
    have HBAD := Lib.hid hbad
    clear hd hnx hbad
    go_wp2_with (first | (go_at_call 147; refine HN.out.mono ?_; rintro e w' ⟨rfl, rfl⟩) | (at_builtin; refine wpList_append_own _ rfl (.tmp 18) (.tmp 20) 29 rfl w.heap.size 3 i0 (.int .i64 0) 1 8 Tryz.underlying29 hi hz0 hz1 hz2 rfl (by decide) _ _ _ rfl (HOWN.out.alloc _) ⟨wr.heap.size, 0, none⟩ 1 1 [.int .i64 65533] rfl rfl ?c1 ?c2 ?c3 ?c4 ?c5 ?_))
    case c1 => exact new_cells wr [.int .i64 65533] 3
    case c2 => exact int_cells .i64 [65533]
    case c3 => rw [ints_length]; unfold maxLen; omega
    case c4 => rw [ints_length]; omega
    case c5 => simp; omega
    intro v' w1 hown' hgrow _
    have HO' := Lib.hid hown'
    have hB1 : Below w.heap.size w w1 := (hbel.alloc (by omega) _).grown hgrow (by simp; omega) (fun k hk => (HOWN.out.lt k hk).1)
    clear hown' hgrow
    go_wp2
    go_roundw
    case rel =>
     refine ⟨t.extract 1 t.size, false, done ++ [65533], rfl, rfl, by rw [HEXS.out]; omega, ?_, ?_, ?_, hB1⟩
     ·have := HO'.out
      rw [ints_append, icells_append, List.length_append]
      exact this
     ·rw [List.append_assoc, HEX.out, ← HREM.out, HRC.out]
      rfl
     ·rw [← HVAL.out, HVC.out, HBAD.out]
      simp
    case measure => simp only [strSize]; rw [HEXS.out]; omega
   ·have hbad' : bad (r, n) = false := by simpa using hbad
    have hnx : nextL (L t) = (r, n) := by
     rw [nextL_of hd, if_neg]
     intro h
     rw [h] at hbad'
     simp [bad] at hbad'
    have HN := Lib.hid (next_at t wr (L t) r n hp rfl hnx)
    have HBAD := Lib.hid hbad'
    have hn0 : ((n : Int) == 0) = false := by rw [beq_eq_false_iff_ne]; omega
    have hn4 : n ≤ 4 := by have := (dec_width (L t)).2; rw [hd] at this; exact this
    clear hd hnx hbad hbad'
    go_wp2_with (first | (go_at_call 147; refine HN.out.mono ?_; rintro e w' ⟨rfl, rfl⟩) | (at_builtin; refine wpList_append_own _ rfl (.tmp 18) (.tmp 20) 29 rfl w.heap.size 3 i0 (.int .i64 0) 1 8 Tryz.underlying29 hi hz0 hz1 hz2 rfl (by decide) _ _ _ rfl (HOWN.out.alloc _) ⟨wr.heap.size, 0, none⟩ 1 1 [.int .i64 r] rfl rfl ?c1 ?c2 ?c3 ?c4 ?c5 ?_))
    case c1 => exact new_cells wr [.int .i64 (r : Int)] 3
    case c2 => exact int_cells .i64 [(r : Int)]
    case c3 => rw [ints_length]; unfold maxLen; omega
    case c4 => rw [ints_length]; omega
    case c5 => simp; omega
    intro v' w1 hown' hgrow _
    have HO' := Lib.hid hown'
    have hB1 : Below w.heap.size w w1 := (hbel.alloc (by omega) _).grown hgrow (by simp; omega) (fun k hk => (HOWN.out.lt k hk).1)
    clear hown' hgrow
    go_wp2
    go_roundw
    case rel =>
     refine ⟨t.extract n t.size, b, done ++ [r], rfl, rfl, by rw [HEXS.out]; omega, ?_, ?_, ?_, hB1⟩
     ·have := HO'.out
      rw [ints_append, icells_append, List.length_append]
      exact this
     ·rw [List.append_assoc, HEX.out, ← HREM.out, HRC.out]
      rfl
     ·rw [← HVAL.out, HVC.out, HBAD.out, HEX.out]
      simp
    case measure => simp only [strSize]; rw [HEXS.out]; omega
  ·have hnil : L t = [] := List.eq_nil_of_length_eq_zero (by rw [← size_L]; omega)
   have hdone : done = runes (L s) := by
    have := HREM.out
    rw [hnil, runes_nil, List.append_nil] at this
    exact this
   have hb : b = validL (L s) := by
    have := HVAL.out
    rw [hnil, validL_nil, Bool.and_true] at this
    exact this
   have HD := Lib.hid hdone
   have HB := Lib.hid hb
   clear hnil hdone hb
   go_wp2
   go_ret2
   refine ⟨u4, ?_, ?_, hbel⟩
   ·rw [← HB.out]; rfl
   ·rw [← HD.out]; exact HOWN.out
/-- The slice value v reads as the ints zs. -/
def SlI (w : World) (v : Value) (zs : List Int) : Prop :=
 (v = .slice none 0 0 ∧ zs = []) ∨ ∃ b off cap, v = .slice (some ⟨b, off, none⟩) zs.length cap ∧ ∀ j, j < zs.length → w.cell? ⟨b, off + j, none⟩ = some (.int .i64 (zs.getD j 0))
theorem SlI_own {w : World} {base : Nat} {v : Value} {l : List Int} (h : w.ownsRow base 3 1 v l.length (icells l)) : SlI w v l := by
 rcases h.2 with ⟨rfl, hn⟩ | ⟨g, cap, cur, rfl, hb, hgg, rest⟩
 ·exact .inl ⟨rfl, List.eq_nil_of_length_eq_zero hn⟩
 ·refine .inr ⟨g, 0, cap, rfl, ?_⟩
  intro j hj
  have := h.cells (g := g) rfl j (.int .i64 l[j]) (by simp [icells, hj])
  have e : (({ block := g, off := 0 } : Addr).add j) = ⟨g, 0 + j, none⟩ := by simp [Addr.add]; intro h0; exact h0.symm
  rw [e] at this
  rw [this]
  simp [hj]
theorem SlI.keep {w w' : World} {v : Value} {zs : List Int} (h : SlI w v zs) (hb : Below w.heap.size w w') : SlI w' v zs := by
 rcases h with h | ⟨b, off, cap, rfl, hc⟩
 ·exact .inl h
 ·exact .inr ⟨b, off, cap, rfl, fun j hj => by
   have e := hc j hj
   have hlt := World.block_lt_of_cell? w _ e
   rw [← e]
   exact hb.cell (p := ⟨b, off + j, none⟩) hlt⟩
theorem strV_size (l : List UInt8) : (⟨l.toArray⟩ : ByteArray).size = l.length := by simp [ByteArray.size]
end Go.Proofs.YtmaknddlgppinaaGreatDoor
