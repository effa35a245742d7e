/-
  PRUNED by wip/tools/prunem.py: what these texts need of an earlier stage's.
-/
import Derived.Test.YtcgloepfnnfioaaW2
set_option linter.unusedVariables false
set_option linter.unusedSimpArgs false
namespace Go.Proofs.Ytcgloepfnnfioaa
open Go.RowKit
open Go.Lib (decodeN)

/-- 'dec', with (0, 0) where there is none. -/
def nextL (l : List UInt8) : Nat × Nat := if bad (dec l) then (0, 0) else dec l
theorem nextL_of {l : List UInt8} {p : Nat × Nat} (h : dec l = p) : nextL l = if p = (65533, 1) then (0, 0) else p := by
  unfold nextL bad
  rw [h]
  by_cases hp : p = (65533, 1)
  · simp [hp]
  · simp [hp]
def n2v (l : List UInt8) : Nat := (at0 l 0 - 192) * 64 + (at0 l 1 - 128)
def n3v (l : List UInt8) : Nat := ((at0 l 0 - 224) * 64 + (at0 l 1 - 128)) * 64 + (at0 l 2 - 128)
def n4v (l : List UInt8) : Nat := (((at0 l 0 - 240) * 64 + (at0 l 1 - 128)) * 64 + (at0 l 2 - 128)) * 64 + (at0 l 3 - 128)
theorem next_one {l : List UInt8} (h : at0 l 0 < 128) : nextL l = (at0 l 0, 1) := by
  have e : dec l = (at0 l 0, 1) := by unfold dec decodeN; rw [if_pos h]
  rw [nextL_of e, if_neg]
  intro hh
  have := congrArg Prod.fst hh
  simp only at this
  omega
theorem next_none {l : List UInt8} (h : (128 ≤ at0 l 0 ∧ at0 l 0 < 194) ∨ 245 ≤ at0 l 0) : nextL l = (0, 0) := by
  have h0 := at0_lt l 0
  have h1 := at0_lt l 1
  have h2 := at0_lt l 2
  have h3 := at0_lt l 3
  have e : dec l = (65533, 1) := by
    unfold dec decodeN
    rw [if_neg (by omega)]
    split
    · rw [if_neg (by omega)]
    split
    · rw [if_neg (by omega)]
    split
    · rw [if_neg (by omega)]
    · rfl
  rw [nextL_of e, if_pos rfl]
theorem next_two {l : List UInt8} (a : 194 ≤ at0 l 0) (b : at0 l 0 < 224) :
    nextL l = if 2 ≤ l.length ∧ 128 ≤ at0 l 1 ∧ at0 l 1 < 192 then (n2v l, 2) else (0, 0) := by
  have h1 := at0_lt l 1
  by_cases hc : 2 ≤ l.length ∧ 128 ≤ at0 l 1 ∧ at0 l 1 < 192
  · have e : dec l = (n2v l, 2) := by
      unfold dec decodeN n2v
      rw [if_neg (by omega), if_pos (by omega), if_pos (by omega)]
      exact congrArg (·, 2) (by omega)
    rw [nextL_of e, if_pos hc, if_neg (by intro hh; have := congrArg Prod.snd hh; simp at this)]
  · have e : dec l = (65533, 1) := by
      unfold dec decodeN
      rw [if_neg (by omega), if_neg (by omega), if_neg (by omega), if_neg (by omega)]
    rw [nextL_of e, if_pos rfl, if_neg hc]
theorem next_three {l : List UInt8} (a : 224 ≤ at0 l 0) (b : at0 l 0 < 240) :
    nextL l = if 3 ≤ l.length ∧ (128 ≤ at0 l 1 ∧ at0 l 1 < 192) ∧ (128 ≤ at0 l 2 ∧ at0 l 2 < 192) ∧ 2048 ≤ n3v l ∧ (n3v l < 55296 ∨ 57344 ≤ n3v l) then (n3v l, 3) else (0, 0) := by
  have h1 := at0_lt l 1
  have h2 := at0_lt l 2
  by_cases hc : 3 ≤ l.length ∧ (128 ≤ at0 l 1 ∧ at0 l 1 < 192) ∧ (128 ≤ at0 l 2 ∧ at0 l 2 < 192) ∧ 2048 ≤ n3v l ∧ (n3v l < 55296 ∨ 57344 ≤ n3v l)
  · have e : dec l = (n3v l, 3) := by
      have hn : n3v l = at0 l 0 % 16 * 4096 + at0 l 1 % 64 * 64 + at0 l 2 % 64 := by unfold n3v; omega
      unfold dec decodeN
      rw [if_neg (by omega), if_neg (by omega), if_pos (by omega), if_pos (by omega)]
      exact congrArg (·, 3) hn.symm
    rw [nextL_of e, if_pos hc, if_neg (by intro hh; have := congrArg Prod.snd hh; simp at this)]
  · have e : dec l = (65533, 1) := by
      unfold dec decodeN
      rw [if_neg (by omega), if_neg (by omega)]
      split
      · rename_i hd
        have hn : n3v l = at0 l 0 % 16 * 4096 + at0 l 1 % 64 * 64 + at0 l 2 % 64 := by unfold n3v; omega
        rw [if_neg (by omega)]
      · rw [if_neg (by omega)]
    rw [nextL_of e, if_pos rfl, if_neg hc]
theorem next_four {l : List UInt8} (a : 240 ≤ at0 l 0) (b : at0 l 0 < 245) :
    nextL l = if 4 ≤ l.length ∧ (128 ≤ at0 l 1 ∧ at0 l 1 < 192) ∧ (128 ≤ at0 l 2 ∧ at0 l 2 < 192) ∧ (128 ≤ at0 l 3 ∧ at0 l 3 < 192) ∧ 65536 ≤ n4v l ∧ n4v l ≤ 1114111 then (n4v l, 4) else (0, 0) := by
  have h1 := at0_lt l 1
  have h2 := at0_lt l 2
  have h3 := at0_lt l 3
  by_cases hc : 4 ≤ l.length ∧ (128 ≤ at0 l 1 ∧ at0 l 1 < 192) ∧ (128 ≤ at0 l 2 ∧ at0 l 2 < 192) ∧ (128 ≤ at0 l 3 ∧ at0 l 3 < 192) ∧ 65536 ≤ n4v l ∧ n4v l ≤ 1114111
  · have e : dec l = (n4v l, 4) := by
      have hn : n4v l = at0 l 0 % 8 * 262144 + at0 l 1 % 64 * 4096 + at0 l 2 % 64 * 64 + at0 l 3 % 64 := by unfold n4v; omega
      unfold dec decodeN
      rw [if_neg (by omega), if_neg (by omega), if_neg (by omega), if_pos (by omega), if_pos (by omega)]
      exact congrArg (·, 4) hn.symm
    rw [nextL_of e, if_pos hc, if_neg (by intro hh; have := congrArg Prod.snd hh; simp at this)]
  · have e : dec l = (65533, 1) := by
      unfold dec decodeN
      rw [if_neg (by omega), if_neg (by omega), if_neg (by omega)]
      split
      · rename_i hd
        have hn : n4v l = at0 l 0 % 8 * 262144 + at0 l 1 % 64 * 4096 + at0 l 2 % 64 * 64 + at0 l 3 % 64 := by unfold n4v; omega
        rw [if_neg (by omega)]
      · rfl
    rw [nextL_of e, if_pos rfl, if_neg hc]
def tupI (p : Nat × Nat) : Value := .tuple #[.int .i64 p.1, .int .i64 p.2]
theorem ret_tupI {a b : Int} {p : Nat × Nat} (h1 : a = p.1) (h2 : b = p.2) : Ending.returned (.tuple #[.int .i64 a, .int .i64 b]) = .returned (tupI p) := by rw [h1, h2]; rfl
theorem ret_tupI_of {a b : Int} {p : Nat × Nat} {x y : Nat} (h : p = (x, y)) (h1 : a = (x : Int)) (h2 : b = (y : Int)) : Ending.returned (.tuple #[.int .i64 a, .int .i64 b]) = .returned (tupI p) := by rw [h, h1, h2]; rfl
theorem ret_tupI0 {p : Nat × Nat} (h : p = (0, 0)) : Ending.returned (.tuple #[.int .i64 0, .int .i64 0]) = .returned (tupI p) := by rw [h]; rfl
set_option maxHeartbeats 800000 in
set_option maxRecDepth 100000 in
theorem nextW_1 (s : ByteArray) (w : World) (hp : 0 < s.size) (h : at0 s.data.toList 0 < 128 ∨ (128 ≤ at0 s.data.toList 0 ∧ at0 s.data.toList 0 < 194) ∨ 245 ≤ at0 s.data.toList 0) :
    Calls Try.prog 110 #[.string s] w fun e w' => e = .returned (tupI (nextL s.data.toList)) ∧ w = w' := by
  have b0 := Lib.hid (at0_get s 0 hp)
  have l0 := at0_lt s.data.toList 0
  have hb := at0_get s 0 hp
  have hlt : (s[0]'hp).toNat < 256 := by omega
  rw [← hb] at h
  clear hb l0
  rcases h with h | h
  · go_enter Try.func110, Try.ntmps110
    go_wp2
    go_ret2
    have e0 := b0.out
    refine ⟨ret_tupI ?_ ?_, rfl⟩ <;> rw [next_one (by omega)] <;> simp only <;> omega
  · rcases h with h | h
    all_goals
      go_enter Try.func110, Try.ntmps110
      go_wp2
      all_goals go_ret2
      have e0 := b0.out
      exact ⟨ret_tupI0 (next_none (by omega)), rfl⟩
set_option maxHeartbeats 800000 in
set_option maxRecDepth 100000 in
theorem nextW_2short (s : ByteArray) (w : World) (a : 194 ≤ at0 s.data.toList 0) (b : at0 s.data.toList 0 < 224) (hp : s.size < 2) (hpos : 0 < s.size) :
    Calls Try.prog 110 #[.string s] w fun e w' => e = .returned (tupI (nextL s.data.toList)) ∧ w = w' := by
  have hsz := Lib.hid (Lib.size_eq s)
  have hb := at0_get s 0 hpos
  have hL := next_two (l := s.data.toList) a b
  rw [← hb] at a b
  have HL := Lib.hid hL
  clear hb hL
  go_enter Try.func110, Try.ntmps110
  go_wp2
  all_goals go_ret2
  have ez := hsz.out
  exact ⟨ret_tupI0 (by rw [HL.out, if_neg (by omega)]), rfl⟩
set_option maxHeartbeats 1600000 in
set_option maxRecDepth 100000 in
theorem nextW_2 (s : ByteArray) (w : World) (a : 194 ≤ at0 s.data.toList 0) (b : at0 s.data.toList 0 < 224) (hp : 2 ≤ s.size) :
    Calls Try.prog 110 #[.string s] w fun e w' => e = .returned (tupI (nextL s.data.toList)) ∧ w = w' := by
  have b0 := Lib.hid (at0_get s 0 (by omega))
  have b1 := Lib.hid (at0_get s 1 (by omega))
  have hsz := Lib.hid (Lib.size_eq s)
  have hb := at0_get s 0 (by omega)
  have hL := next_two (l := s.data.toList) a b
  rw [← hb] at a b
  have HL := Lib.hid hL
  clear hb hL
  go_enter Try.func110, Try.ntmps110
  go_wp2
  refine wp_loop_rounds 2 ?_
  rw [rounds_succ]
  go_wp2
  · (go_ret2; have e0 := b0.out; have e1 := b1.out; have ez := hsz.out; exact ⟨ret_tupI0 (by rw [HL.out, if_neg (by omega)]), rfl⟩)
  rotate_left
  · (go_ret2; have e0 := b0.out; have e1 := b1.out; have ez := hsz.out; exact ⟨ret_tupI0 (by rw [HL.out, if_neg (by omega)]), rfl⟩)
  rw [rounds_succ]
  go_wp2
  all_goals first | (go_ret2; have e0 := b0.out; have e1 := b1.out; have ez := hsz.out; have hq : nextL s.data.toList = (n2v s.data.toList, 2) := (by rw [HL.out, if_pos (by omega)]); refine ⟨ret_tupI_of hq ?_ ?_, rfl⟩; (unfold n2v; omega); rfl) | (go_ret2; have e0 := b0.out; have e1 := b1.out; have ez := hsz.out; exact ⟨ret_tupI0 (by rw [HL.out, if_neg (by omega)]), rfl⟩)
set_option maxHeartbeats 800000 in
set_option maxRecDepth 100000 in
theorem nextW_3short (s : ByteArray) (w : World) (a : 224 ≤ at0 s.data.toList 0) (b : at0 s.data.toList 0 < 240) (hp : s.size < 3) (hpos : 0 < s.size) :
    Calls Try.prog 110 #[.string s] w fun e w' => e = .returned (tupI (nextL s.data.toList)) ∧ w = w' := by
  have hsz := Lib.hid (Lib.size_eq s)
  have hb := at0_get s 0 hpos
  have hL := next_three (l := s.data.toList) a b
  rw [← hb] at a b
  have HL := Lib.hid hL
  clear hb hL
  go_enter Try.func110, Try.ntmps110
  go_wp2
  all_goals go_ret2
  have ez := hsz.out
  exact ⟨ret_tupI0 (by rw [HL.out, if_neg (by omega)]), rfl⟩
set_option maxHeartbeats 1600000 in
set_option maxRecDepth 100000 in
theorem nextW_3 (s : ByteArray) (w : World) (a : 224 ≤ at0 s.data.toList 0) (b : at0 s.data.toList 0 < 240) (hp : 3 ≤ s.size) :
    Calls Try.prog 110 #[.string s] w fun e w' => e = .returned (tupI (nextL s.data.toList)) ∧ w = w' := by
  have b0 := Lib.hid (at0_get s 0 (by omega))
  have b1 := Lib.hid (at0_get s 1 (by omega))
  have b2 := Lib.hid (at0_get s 2 (by omega))
  have hsz := Lib.hid (Lib.size_eq s)
  have hb := at0_get s 0 (by omega)
  have hL := next_three (l := s.data.toList) a b
  rw [← hb] at a b
  have HL := Lib.hid hL
  clear hb hL
  go_enter Try.func110, Try.ntmps110
  go_wp2
  refine wp_loop_rounds 3 ?_
  rw [rounds_succ]
  go_wp2
  · (go_ret2; have e0 := b0.out; have e1 := b1.out; have e2 := b2.out; have ez := hsz.out; exact ⟨ret_tupI0 (by rw [HL.out, if_neg (by unfold n3v; omega)]), rfl⟩)
  rotate_left
  · (go_ret2; have e0 := b0.out; have e1 := b1.out; have e2 := b2.out; have ez := hsz.out; exact ⟨ret_tupI0 (by rw [HL.out, if_neg (by unfold n3v; omega)]), rfl⟩)
  rw [rounds_succ]
  go_wp2
  · (go_ret2; have e0 := b0.out; have e1 := b1.out; have e2 := b2.out; have ez := hsz.out; exact ⟨ret_tupI0 (by rw [HL.out, if_neg (by unfold n3v; omega)]), rfl⟩)
  rotate_left
  · (go_ret2; have e0 := b0.out; have e1 := b1.out; have e2 := b2.out; have ez := hsz.out; exact ⟨ret_tupI0 (by rw [HL.out, if_neg (by unfold n3v; omega)]), rfl⟩)
  rw [rounds_succ]
  go_wp2
  all_goals first | (go_ret2; have e0 := b0.out; have e1 := b1.out; have e2 := b2.out; have ez := hsz.out; have hq : nextL s.data.toList = (n3v s.data.toList, 3) := (by rw [HL.out, if_pos (by unfold n3v; omega)]); refine ⟨ret_tupI_of hq ?_ ?_, rfl⟩; (unfold n3v; omega); rfl) | (go_ret2; have e0 := b0.out; have e1 := b1.out; have e2 := b2.out; have ez := hsz.out; exact ⟨ret_tupI0 (by rw [HL.out, if_neg (by unfold n3v; omega)]), rfl⟩)
set_option maxHeartbeats 800000 in
set_option maxRecDepth 100000 in
theorem nextW_4short (s : ByteArray) (w : World) (a : 240 ≤ at0 s.data.toList 0) (b : at0 s.data.toList 0 < 245) (hp : s.size < 4) (hpos : 0 < s.size) :
    Calls Try.prog 110 #[.string s] w fun e w' => e = .returned (tupI (nextL s.data.toList)) ∧ w = w' := by
  have hsz := Lib.hid (Lib.size_eq s)
  have hb := at0_get s 0 hpos
  have hL := next_four (l := s.data.toList) a b
  rw [← hb] at a b
  have HL := Lib.hid hL
  clear hb hL
  go_enter Try.func110, Try.ntmps110
  go_wp2
  all_goals go_ret2
  have ez := hsz.out
  exact ⟨ret_tupI0 (by rw [HL.out, if_neg (by omega)]), rfl⟩
set_option maxHeartbeats 1600000 in
set_option maxRecDepth 100000 in
theorem nextW_4 (s : ByteArray) (w : World) (a : 240 ≤ at0 s.data.toList 0) (b : at0 s.data.toList 0 < 245) (hp : 4 ≤ s.size) :
    Calls Try.prog 110 #[.string s] w fun e w' => e = .returned (tupI (nextL s.data.toList)) ∧ w = w' := by
  have b0 := Lib.hid (at0_get s 0 (by omega))
  have b1 := Lib.hid (at0_get s 1 (by omega))
  have b2 := Lib.hid (at0_get s 2 (by omega))
  have b3 := Lib.hid (at0_get s 3 (by omega))
  have hsz := Lib.hid (Lib.size_eq s)
  have hb := at0_get s 0 (by omega)
  have hL := next_four (l := s.data.toList) a b
  rw [← hb] at a b
  have HL := Lib.hid hL
  clear hb hL
  go_enter Try.func110, Try.ntmps110
  go_wp2
  refine wp_loop_rounds 4 ?_
  rw [rounds_succ]
  go_wp2
  · (go_ret2; have e0 := b0.out; have e1 := b1.out; have e2 := b2.out; have e3 := b3.out; have ez := hsz.out; exact ⟨ret_tupI0 (by rw [HL.out, if_neg (by unfold n4v; omega)]), rfl⟩)
  rotate_left
  · (go_ret2; have e0 := b0.out; have e1 := b1.out; have e2 := b2.out; have e3 := b3.out; have ez := hsz.out; exact ⟨ret_tupI0 (by rw [HL.out, if_neg (by unfold n4v; omega)]), rfl⟩)
  rw [rounds_succ]
  go_wp2
  · (go_ret2; have e0 := b0.out; have e1 := b1.out; have e2 := b2.out; have e3 := b3.out; have ez := hsz.out; exact ⟨ret_tupI0 (by rw [HL.out, if_neg (by unfold n4v; omega)]), rfl⟩)
  rotate_left
  · (go_ret2; have e0 := b0.out; have e1 := b1.out; have e2 := b2.out; have e3 := b3.out; have ez := hsz.out; exact ⟨ret_tupI0 (by rw [HL.out, if_neg (by unfold n4v; omega)]), rfl⟩)
  rw [rounds_succ]
  go_wp2
  · (go_ret2; have e0 := b0.out; have e1 := b1.out; have e2 := b2.out; have e3 := b3.out; have ez := hsz.out; exact ⟨ret_tupI0 (by rw [HL.out, if_neg (by unfold n4v; omega)]), rfl⟩)
  rotate_left
  · (go_ret2; have e0 := b0.out; have e1 := b1.out; have e2 := b2.out; have e3 := b3.out; have ez := hsz.out; exact ⟨ret_tupI0 (by rw [HL.out, if_neg (by unfold n4v; omega)]), rfl⟩)
  rw [rounds_succ]
  go_wp2
  all_goals first | (go_ret2; have e0 := b0.out; have e1 := b1.out; have e2 := b2.out; have e3 := b3.out; have ez := hsz.out; have hq : nextL s.data.toList = (n4v s.data.toList, 4) := (by rw [HL.out, if_pos (by unfold n4v; omega)]); refine ⟨ret_tupI_of hq ?_ ?_, rfl⟩; (unfold n4v; omega); rfl) | (go_ret2; have e0 := b0.out; have e1 := b1.out; have e2 := b2.out; have e3 := b3.out; have ez := hsz.out; exact ⟨ret_tupI0 (by rw [HL.out, if_neg (by unfold n4v; omega)]), rfl⟩)
theorem next_any (s : ByteArray) (w : World) (hp : 0 < s.size) :
    Calls Try.prog 110 #[.string s] w fun e w' => e = .returned (tupI (nextL s.data.toList)) ∧ w = w' := by
  by_cases c1 : at0 s.data.toList 0 < 194
  · exact nextW_1 s w hp (by omega)
  by_cases c2 : at0 s.data.toList 0 < 224
  · by_cases h : 2 ≤ s.size
    · exact nextW_2 s w (by omega) c2 h
    · exact nextW_2short s w (by omega) c2 (by omega) hp
  by_cases c3 : at0 s.data.toList 0 < 240
  · by_cases h : 3 ≤ s.size
    · exact nextW_3 s w (by omega) c3 h
    · exact nextW_3short s w (by omega) c3 (by omega) hp
  by_cases c4 : at0 s.data.toList 0 < 245
  · by_cases h : 4 ≤ s.size
    · exact nextW_4 s w (by omega) c4 h
    · exact nextW_4short s w (by omega) c4 (by omega) hp
  · exact nextW_1 s w hp (by omega)
end Go.Proofs.Ytcgloepfnnfioaa
