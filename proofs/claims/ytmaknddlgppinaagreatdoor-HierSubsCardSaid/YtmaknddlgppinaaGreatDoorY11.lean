/-
  CUT and joined from the texts of this seat: W1 W4 W5
-/
import Derived.Test.YtmaknddlgppinaaGreatDoorRows
import Derived.Test.YtmaknddlgppinaaGreatDoorY10
import Derived.WalkKit
import Derived.WalkSpells
import Derived.WalkLawsBesides
import Derived.BigQuiet
import Derived.Lib.Hide
import Derived.Lib.IndexBytes
import Derived.LoopN
import Derived.Deep.QuietTactic
import Derived.Laws.RangeAny
set_option linter.unusedVariables false
set_option linter.unusedSimpArgs false
namespace Go.Proofs.YtmaknddlgppinaaGreatDoor
open Go.RowKit
theorem ret_int {k : IntKind} {a b : Int} (h : a = b) : Ending.returned (.int k a) = .returned (.int k b) := by rw [h]
theorem ret_bool {a b : Bool} (h : a = b) : Ending.returned (.bool a) = .returned (.bool b) := by rw [h]
def nameB (r : Int) : Bool := decide (32 < r ∧ r ≠ 127 ∧ r ≠ 59 ∧ r ≠ 91 ∧ r ≠ 40 ∧ r ≠ 41 ∧ r ≠ 46)
set_option maxHeartbeats 400000 in
theorem nameRune_any (r : Int) (w : World) :
  Calls Tryz.prog 138 #[.int .i32 r] w fun e w' => e = .returned (.bool (nameB r)) ∧ w = w' := by
 go_enter Tryz.func138, Tryz.ntmps138
 go_wp2
 all_goals (go_ret; refine ⟨ret_bool ?_, rfl⟩; rw [Bool.eq_iff_iff]; simp_all [nameB])
def rlen (r : Int) : Int := if 1 ≤ r ∧ r ≤ 127 then 1 else if r ≤ 2047 then 2 else if r < 65536 then 3 else 6
theorem rlen_1 {r : Int} (h : 1 ≤ r ∧ r ≤ 127) : rlen r = 1 := by unfold rlen; rw [if_pos h]
theorem rlen_2 {r : Int} (h : ¬ (1 ≤ r ∧ r ≤ 127)) (h2 : r ≤ 2047) : rlen r = 2 := by unfold rlen; rw [if_neg h, if_pos h2]
theorem rlen_3 {r : Int} (h : 2047 < r) (h2 : r < 65536) : rlen r = 3 := by unfold rlen; rw [if_neg (by omega), if_neg (by omega), if_pos h2]
theorem rlen_6 {r : Int} (h : 65536 ≤ r) : rlen r = 6 := by unfold rlen; rw [if_neg (by omega), if_neg (by omega), if_neg (by omega)]
set_option maxHeartbeats 400000 in
theorem runeLen_any (r : Int) (w : World) :
  Calls Tryz.prog 200 #[.int .i32 r] w fun e w' => e = .returned (.int .i64 (rlen r)) ∧ w = w' := by
 go_enter Tryz.func200, Tryz.ntmps200
 go_wp2
 all_goals (go_ret; refine ⟨ret_int ?_, rfl⟩; first | exact (rlen_1 (by omega)).symm | exact (rlen_2 (by omega) (by omega)).symm | exact (rlen_3 (by omega) (by omega)).symm | exact (rlen_6 (by omega)).symm)
theorem at0_get (s : ByteArray) (i : Nat) (h : i < s.size) : (s[i]'h).toNat = at0 s.data.toList i := by
 unfold at0
 congr 1
 have h' : i < s.data.toList.length := by simpa using h
 simp only [List.getD, List.getElem?_eq_getElem h', Option.getD_some]
 rfl
def goodB (l : List UInt8) : Bool := decide (3 ≤ l.length) && (l.take 3 == [239, 191, 189])
set_option maxHeartbeats 400000 in
theorem startsGoodBad_any (s : ByteArray) (w : World) :
  Calls Tryz.prog 170 #[.string s] w fun e w' => e = .returned (.bool (goodB s.data.toList)) ∧ w = w' := by
 have e1 := Lib.extract_toList s 0 3
 have e2 := Lib.size_eq s
 have E : Hid _ := e1
 have E2 := Lib.hid e2
 clear e1 e2
 go_enter Tryz.func170, Tryz.ntmps170
 go_wp2
 ·go_ret
  refine ⟨ret_bool ?_, rfl⟩
  rw [E.out]
  have := E2.out
  simp only [goodB, List.drop_zero]
  rw [decide_eq_true (by omega), Bool.true_and]
 ·go_ret
  refine ⟨ret_bool ?_, rfl⟩
  have := E2.out
  simp only [goodB]
  rw [decide_eq_false (by omega), Bool.false_and]
theorem ofInt_i32 (a : Nat) (ha : a < 2147483648) : (BitVec.ofInt 32 (a : Int)).toNat = a := by
 rw [BitVec.ofInt_natCast, BitVec.toNat_ofNat]; exact Nat.mod_eq_of_lt (by omega)
abbrev L (s : ByteArray) : List UInt8 := s.data.toList
theorem size_L (s : ByteArray) : s.size = (L s).length := Lib.size_eq s
theorem drop_ne {s : ByteArray} {pos : Nat} (h : pos < s.size) : (L s).drop pos ≠ [] := by
 intro e
 have := congrArg List.length e
 rw [List.length_drop, ← size_L] at this
 simp at this
 omega
theorem drop_end {s : ByteArray} {pos : Nat} (h : ¬ pos < s.size) : (L s).drop pos = [] := by
 apply List.drop_eq_nil_of_le
 rw [← size_L]
 omega
/-- One step at pos: the rune, and what is left behind it. -/
theorem step_at {s : ByteArray} {pos : Nat} (h : pos < s.size) :
  ∃ r k, Utf8.decode s pos = (r, k) ∧ dec ((L s).drop pos) = (r, k) ∧ 1 ≤ k ∧ pos + k ≤ s.size ∧ Scal r ∧ runes ((L s).drop pos) = r :: runes ((L s).drop (pos + k)) ∧
   validL ((L s).drop pos) = (!bad (r, k) && validL ((L s).drop (pos + k))) := by
 have hne := drop_ne h
 have hw := dec_width_le _ hne
 rw [List.length_drop, ← size_L] at hw
 refine ⟨(dec ((L s).drop pos)).1, (dec ((L s).drop pos)).2, decode_drop s pos, rfl, (dec_width _).1, by omega, dec_scal _, ?_, ?_⟩
 ·rw [runes_cons _ hne, List.drop_drop]
 ·rw [validL_cons _ hne, List.drop_drop]
set_option maxRecDepth 1000000 in
set_option maxHeartbeats 400000 in
theorem Len_any (s : ByteArray) (w : World) (hs : s.size ≤ maxLen) :
  Calls Tryz.prog 197 #[.string s] w fun e w' => e = .returned (.int .i64 (runes (L s)).length) ∧ ∃ pos, w' = w.iter s pos := by
 unfold maxLen at hs
 have hlen := Lib.hid (runes_length_le (L s))
 have hsz := Lib.hid (size_L s)
 go_enter Tryz.func197, Tryz.ntmps197
 go_wp2
 go_loopw [3] (fun n w' => ∃ pos k : Nat, w' = w.iter s pos ∧ n = .int .i64 k ∧ k + (runes ((L s).drop pos)).length = (runes (L s)).length) (fun _ w' => s.size - w'.iterPos w.heap.size)
 case atStart => exact ⟨0, 0, rfl, rfl, by simp⟩
 case round =>
  obtain ⟨pos, k, rfl, rfl, hk⟩ := hrel
  have HK := Lib.hid hk
  clear hk
  by_cases hp : pos < s.size
  ·obtain ⟨r, j, e1, _, hj, hjs, _, e2, _⟩ := step_at hp
   have hnx : ∀ ty, (Instr.next (.pointer (some ⟨w.heap.size, 0, none⟩)) true ty).run Tryz.prog (w.iter s pos) = _ := fun ty => run_next_any w s pos ty hp
   rw [e1] at hnx
   have hkb : k + 1 ≤ 9223372036854775807 := by
    have a := HK.out
    have b := hlen.out
    have c := hsz.out
    rw [e2] at a
    simp at a
    omega
   have E2 := Lib.hid e2
   clear e1 e2
   go_wp2
   go_roundw
   case rel => exact ⟨pos + j, k + 1, rfl, by go_num, by have a := HK.out; rw [E2.out] at a; simp only [List.length_cons] at a; omega⟩
   case measure => simp; omega
  ·have hnx : ∀ ty, (Instr.next (.pointer (some ⟨w.heap.size, 0, none⟩)) true ty).run Tryz.prog (w.iter s pos) = _ := fun ty => run_next_end w s pos ty hp
   go_wp2
   go_ret
   refine ⟨ret_int ?_, pos, rfl⟩
   have a := HK.out
   rw [drop_end hp, runes_nil] at a
   simp at a
   omega
/-- A rune 65533 is a bad byte's, but where its own three bytes stand. -/
theorem bad_good (l : List UInt8) (hne : l ≠ []) : bad (dec l) = (decide ((dec l).1 = 65533) && !goodB l) := by
 have hS : Scal 65533 := by unfold Scal; omega
 have hu : u8 65533 = [239, 191, 189] := by decide
 by_cases hg : goodB l = true
 ·have hg' := hg
  unfold goodB at hg'
  simp only [Bool.and_eq_true, decide_eq_true_eq, beq_iff_eq] at hg'
  have hl : l = u8 65533 ++ l.drop 3 := by
   rw [hu, ← hg'.2]
   exact (List.take_append_drop 3 l).symm
  have hb : bad (dec l) = false := by
   rw [hl]
   exact bad_u8 65533 _ hS
  rw [hb, hg]
  simp
 ·have hg' : goodB l = false := by simpa using hg
  rw [hg']
  by_cases hb : dec l = (65533, 1)
  ·simp [bad, hb]
  ·have ht := (dec_take l hne hb).1
   have h1 : (dec l).1 ≠ 65533 := by
    intro h1
    rw [h1, hu] at ht
    apply hg
    unfold goodB
    rw [ht]
    simp
   simp [bad, hb, h1]
theorem startsGood_true (s : ByteArray) (w : World) (h : goodB (L s) = true) :
  Calls Tryz.prog 170 #[.string s] w fun e w' => e = .returned (.bool true) ∧ w = w' := by
 have := startsGoodBad_any s w
 rwa [h] at this
theorem startsGood_false (s : ByteArray) (w : World) (h : goodB (L s) = false) :
  Calls Tryz.prog 170 #[.string s] w fun e w' => e = .returned (.bool false) ∧ w = w' := by
 have := startsGoodBad_any s w
 rwa [h] at this
set_option maxRecDepth 1000000 in
set_option maxHeartbeats 400000 in
theorem valid_any (s : ByteArray) (w : World) :
  Calls Tryz.prog 139 #[.string s] w fun e w' => e = .returned (.bool (validL (L s))) ∧ Below w.heap.size w w' := by
 go_enter Tryz.func139, Tryz.ntmps139
 go_wp2
 go_loopw [3, 4] (fun _ _ w' => ∃ pos : Nat, w' = w.iter s pos ∧ validL ((L s).drop pos) = validL (L s)) (fun _ _ w' => s.size - w'.iterPos w.heap.size)
 case atStart => exact ⟨0, rfl, by simp⟩
 case round =>
  obtain ⟨pos, rfl, hk⟩ := hrel
  have HK := Lib.hid hk
  clear hk
  by_cases hp : pos < s.size
  ·obtain ⟨r, j, e1, e4, hj, hjs, _, _, e3⟩ := step_at hp
   have hnx : ∀ ty, (Instr.next (.pointer (some ⟨w.heap.size, 0, none⟩)) true ty).run Tryz.prog (w.iter s pos) = _ := fun ty => run_next_any w s pos ty hp
   rw [e1] at hnx
   have hbg := bad_good _ (drop_ne hp)
   rw [e4] at hbg
   have HB := Lib.hid hbg
   have E3 := Lib.hid e3
   clear e1 e3 e4 hbg
   by_cases hr : r = 65533
   ·subst hr
    by_cases hg : goodB ((L s).drop pos) = true
    ·have HG := fun W => Lib.hid (startsGood_true (s.extract pos s.size) W (by rw [L, Lib.extract_to_end]; exact hg))
     have hbf : bad (65533, j) = false := by rw [HB.out, hg]; rfl
     have HBF := Lib.hid hbf
     clear hg hbf
     go_wp2_with (go_at_call 170; refine (HG _).out.mono ?_; rintro e w' ⟨rfl, rfl⟩)
     go_roundw
     case rel => exact ⟨pos + j, rfl, by have a := HK.out; rw [E3.out, HBF.out] at a; simpa using a⟩
     case measure => simp; omega
    ·have hg' : goodB ((L s).drop pos) = false := by simpa using hg
     have HG := fun W => Lib.hid (startsGood_false (s.extract pos s.size) W (by rw [L, Lib.extract_to_end]; exact hg'))
     have hbf : bad (65533, j) = true := by rw [HB.out, hg']; rfl
     have HBF := Lib.hid hbf
     clear hg hg' hbf
     go_wp2_with (go_at_call 170; refine (HG _).out.mono ?_; rintro e w' ⟨rfl, rfl⟩)
     go_ret
     refine ⟨ret_bool ?_, (Below.refl _ _).alloc (Nat.le_refl _) _⟩
     rw [← HK.out, E3.out, HBF.out]
     rfl
   ·have hrz : ((r : Int) == 65533) = false := by rw [beq_eq_false_iff_ne]; omega
    have hbf : bad (r, j) = false := by rw [HB.out]; simp [hr]
    have HBF := Lib.hid hbf
    clear hbf
    go_wp2
    go_roundw
    case rel => exact ⟨pos + j, rfl, by have a := HK.out; rw [E3.out, HBF.out] at a; simpa using a⟩
    case measure => simp; omega
  ·have hnx : ∀ ty, (Instr.next (.pointer (some ⟨w.heap.size, 0, none⟩)) true ty).run Tryz.prog (w.iter s pos) = _ := fun ty => run_next_end w s pos ty hp
   go_wp2
   go_ret
   refine ⟨ret_bool ?_, (Below.refl _ _).alloc (Nat.le_refl _) _⟩
   rw [← HK.out, drop_end hp]
   rfl
theorem rlen_mb (r : Nat) (_h : Scal r) : rlen (r : Int) = ((mb r).length : Int) := by
 have key : ∀ x : Nat, (un x).length = if 1 ≤ x ∧ x < 128 then 1 else if x < 2048 then 2 else 3 := by
  intro x
  unfold un unN
  rw [bs_length]
  repeat' split
  all_goals rfl
 unfold mb
 by_cases c1 : 1 ≤ r ∧ r ≤ 127
 ·rw [rlen_1 (by omega), if_pos (by omega), key, if_pos (by omega)]; rfl
 by_cases c2 : r ≤ 2047
 ·rw [rlen_2 (by omega) (by omega), if_pos (by omega), key, if_neg (by omega), if_pos (by omega)]; rfl
 by_cases c3 : r < 65536
 ·rw [rlen_3 (by omega) (by omega), if_pos (by omega), key, if_neg (by omega), if_neg (by omega)]; rfl
 ·rw [rlen_6 (by omega), if_neg (by omega), List.length_append, key, key, if_neg (by omega), if_neg (by omega), if_neg (by omega), if_neg (by omega)]; rfl
theorem enc_le6 (l : List UInt8) : (encL l).length ≤ 6 * (runes l).length := by
 unfold encL
 generalize runes l = rs
 induction rs with
 | nil => simp
 | cons r rs ih =>
  have := (mb_length r).2
  simp only [List.flatMap_cons, List.length_append, List.length_cons]
  omega
set_option maxRecDepth 1000000 in
set_option maxHeartbeats 400000 in
theorem encodedLen_any (s : ByteArray) (w : World) (hs : s.size ≤ 1000000000000000000) :
  Calls Tryz.prog 195 #[.string s] w fun e w' => e = .returned (.int .i64 (encL (L s)).length) ∧ Below w.heap.size w w' := by
 have hlen := runes_length_le (L s)
 have h6 := enc_le6 (L s)
 rw [← size_L] at hlen
 have HT := Lib.hid (show (encL (L s)).length ≤ 6000000000000000000 by omega)
 clear hlen h6
 go_enter Tryz.func195, Tryz.ntmps195
 go_wp2
 go_loopw [3, 5] (fun n _ w' => ∃ pos k : Nat, w' = w.iter s pos ∧ n = .int .i64 k ∧ k + (encL ((L s).drop pos)).length = (encL (L s)).length) (fun _ _ w' => s.size - w'.iterPos w.heap.size)
 case atStart => exact ⟨0, 0, rfl, rfl, by simp⟩
 case round =>
  obtain ⟨pos, k, rfl, rfl, hk⟩ := hrel
  have HK := Lib.hid hk
  clear hk
  by_cases hp : pos < s.size
  ·obtain ⟨r, j, e1, _, hj, hjs, hsc, e2, _⟩ := step_at hp
   have hnx : ∀ ty, (Instr.next (.pointer (some ⟨w.heap.size, 0, none⟩)) true ty).run Tryz.prog (w.iter s pos) = _ := fun ty => run_next_any w s pos ty hp
   rw [e1] at hnx
   have e5 : encL ((L s).drop pos) = mb r ++ encL ((L s).drop (pos + j)) := by unfold encL; rw [e2]; rfl
   have hrl := fun W => runeLen_any (r : Int) W
   rw [rlen_mb r hsc] at hrl
   have HRL := Lib.hid hrl
   have hm6 := (mb_length r).2
   generalize hm : (mb r).length = m at *
   have hkb : k ≤ 6000000000000000000 := by
    have a := HK.out
    have b := HT.out
    omega
   have HM := Lib.hid hm
   have E5 := Lib.hid e5
   clear e1 e2 e5 hm hrl
   go_wp2_with (go_at_call 200; refine (HRL.out _).mono ?_; rintro e w' ⟨rfl, rfl⟩)
   go_roundw
   case rel => exact ⟨pos + j, k + m, rfl, by go_num, by have a := HK.out; rw [E5.out, List.length_append, HM.out] at a; omega⟩
   case measure => simp; omega
  ·have hnx : ∀ ty, (Instr.next (.pointer (some ⟨w.heap.size, 0, none⟩)) true ty).run Tryz.prog (w.iter s pos) = _ := fun ty => run_next_end w s pos ty hp
   go_wp2
   go_ret
   refine ⟨ret_int ?_, (Below.refl _ _).alloc (Nat.le_refl _) _⟩
   have a := HK.out
   rw [drop_end hp] at a
   have z : (encL []).length = 0 := rfl
   omega
theorem Tryz.info5 : (Tryz.prog.info? 5).map (fun i => (i.zero, i.size, i.bytes)) = some (some (.int .u8 0), 1, 1) := by kernel_rfl
def bcells (l : List UInt8) : List Value := l.map fun b => .int .u8 (b.toNat : Int)
theorem bcells_append (a b : List UInt8) : bcells (a ++ b) = bcells a ++ bcells b := by simp [bcells]
theorem new_cells (w : World) (cs : List Value) (t : TypeId) : ∀ j u, cs[j]? = some u → (w.alloc (.cells cs.toArray t)).cell? (({ block := w.heap.size, off := 0 } : Addr).add j) = some u := by
 intro j u h
 have e : (({ block := w.heap.size, off := 0 } : Addr).add j) = ⟨w.heap.size, j, none⟩ := by
  simp [Addr.add]
  intro hj
  exact hj.symm
 rw [e]
 have := World.cell?_alloc_mark w cs.toArray t (0, 0) j
 rw [this]
 simpa using h
theorem i32_and_mask (a k : Nat) (ha : a < 2147483648) (hk : k ≤ 30) : bits .and .i32 (a : Int) ((2 ^ k - 1 : Nat) : Int) = ((a % 2 ^ k : Nat) : Int) := by
 have hp : 2 ^ k ≤ 2 ^ 30 := Nat.pow_le_pow_right (by omega) hk
 have hp0 : 0 < 2 ^ k := Nat.two_pow_pos k
 have hm : a % 2 ^ k < 2 ^ k := Nat.mod_lt _ hp0
 show IntKind.i32.wrap ((BitVec.ofInt 32 (a : Int) &&& BitVec.ofInt 32 ((2 ^ k - 1 : Nat) : Int)).toNat : Int) = _
 rw [BitVec.toNat_and, ofInt_i32 a ha, ofInt_i32 _ (by omega), Nat.and_two_pow_sub_one_eq_mod, IntKind.wrap_i32]
 omega
theorem and63_i32 (a : Nat) (ha : a < 2147483648) : bits .and .i32 (a : Int) 63 = ((a % 64 : Nat) : Int) := i32_and_mask a 6 ha (by omega)
theorem and1023_i32 (a : Nat) (ha : a < 2147483648) : bits .and .i32 (a : Int) 1023 = ((a % 1024 : Nat) : Int) := i32_and_mask a 10 ha (by omega)
theorem low_byte (a : Nat) (ha : a < 2147483648) : wrap32 (128 + bits .and .i32 (a : Int) 63) % 256 = ((128 + a % 64 : Nat) : Int) := by
 rw [and63_i32 a ha]
 unfold wrap32
 omega
theorem mid_byte (a : Nat) (ha : a < 2147483648) : wrap32 (128 + bits .and .i32 ((a : Int) / 64) 63) % 256 = ((128 + a / 64 % 64 : Nat) : Int) := by
 have : ((a : Int) / 64) = ((a / 64 : Nat) : Int) := by omega
 rw [this]
 exact low_byte (a / 64) (by omega)
theorem int_cells (k : IntKind) (l : List Int) : ∀ u ∈ l.map (Value.int k), u.oneCell' = true := by
 intro u hu
 obtain ⟨x, _, rfl⟩ := List.mem_map.1 hu
 rfl
set_option maxRecDepth 1000000 in
set_option maxHeartbeats 400000 in
theorem appendUnit_1 (u : Nat) (hu : 1 ≤ u ∧ u < 128) (v : Value) (n : Nat) (xs : List Value) (base : Nat) (w : World) (hown : w.ownsRow base 5 1 v n xs) (hn : n ≤ 1000000000) (hb : base ≤ w.heap.size) :
  Calls Tryz.prog 201 #[v, .int .i32 u] w fun e w' => ∃ v', e = .returned v' ∧ w'.ownsRow base 5 1 v' (n + (un u).length) (xs ++ bcells (un u)) ∧ w.grownBy w' v.ownBlock := by
 obtain ⟨i0, hi, hz0, hz1, hz2⟩ := info_parts Tryz.info5
 have hrl := fun W => runeLen_any (u : Int) W
 rw [rlen_1 (by omega)] at hrl
 have HRL := Lib.hid hrl
 clear hrl
 have hun : un u = [UInt8.ofNat u] := by simp [un, unN, bs, hu]
 have hbc : bcells (un u) = [.int .u8 (u : Int)] := by rw [hun]; simp [bcells]; omega
 have HU := Lib.hid hun
 have HB := Lib.hid hbc
 clear hun hbc
 go_enter Tryz.func201, Tryz.ntmps201
 go_wp2_with (first | (go_at_call 200; refine (HRL.out _).mono ?_; rintro e w' ⟨rfl, rfl⟩) | (at_builtin; refine wpList_append_own _ rfl (.tmp 9) (.tmp 12) 166 rfl base 5 i0 (.int .u8 0) 1 1 Tryz.underlying166 hi hz0 hz1 hz2 rfl (by decide) _ _ _ rfl (hown.alloc _) ⟨w.heap.size, 0, none⟩ 1 1 [.int .u8 u] rfl rfl ?c1 ?c2 ?c3 ?c4 ?c5 ?_))
 case c1 => exact new_cells w [.int .u8 (u : Int)] 5
 case c2 => exact int_cells .u8 [(u : Int)]
 case c3 => unfold maxLen; omega
 case c4 => omega
 case c5 => simp; omega
 intro v' w1 hown' hgrow _
 clear hown
 have HO := Lib.hid hown'
 clear hown'
 go_wp2
 go_ret
 refine ⟨v', rfl, ?_, ?_⟩
 ·have := HO.out
  rw [HB.out, HU.out]
  exact this
 ·exact ⟨hgrow.os, hgrow.tape, hgrow.output, Nat.le_trans (by simp) hgrow.size, fun k hk hne => (hgrow.block k (by simp; omega) hne).trans (Below.heap_alloc w _ k hk)⟩
set_option maxRecDepth 1000000 in
set_option maxHeartbeats 400000 in
theorem appendUnit_2 (u : Nat) (hu : ¬ (1 ≤ u ∧ u < 128)) (hu2 : u < 2048) (v : Value) (n : Nat) (xs : List Value) (base : Nat) (w : World) (hown : w.ownsRow base 5 1 v n xs) (hn : n ≤ 1000000000) (hb : base ≤ w.heap.size) :
  Calls Tryz.prog 201 #[v, .int .i32 u] w fun e w' => ∃ v', e = .returned v' ∧ w'.ownsRow base 5 1 v' (n + (un u).length) (xs ++ bcells (un u)) ∧ w.grownBy w' v.ownBlock := by
 obtain ⟨i0, hi, hz0, hz1, hz2⟩ := info_parts Tryz.info5
 have hrl := fun W => runeLen_any (u : Int) W
 rw [rlen_2 (by omega) (by omega)] at hrl
 have HRL := Lib.hid hrl
 clear hrl
 have hun : un u = bs [192 + u / 64, 128 + u % 64] := by simp only [un, unN, if_neg hu, if_pos hu2]
 have hbc : bcells (un u) = [192 + (u : Int) / 64, wrap32 (128 + bits BinOp.and IntKind.i32 (u : Int) 63) % 256].map (Value.int .u8) := by
  have m1 := low_byte u (by omega)
  rw [hun]
  simp only [m1, bs, bcells, List.map_cons, List.map_nil, UInt8.toNat_ofNat']
  congr 1 <;> first | (congr 1; omega) | (congr 1 <;> first | (congr 1; omega) | (congr 1; congr 1; omega))
 have hl : (un u).length = 2 := by rw [hun]; rfl
 have HU := Lib.hid hl
 have HB := Lib.hid hbc
 clear hun hbc hl
 go_enter Tryz.func201, Tryz.ntmps201
 go_wp2_with (first | (go_at_call 200; refine (HRL.out _).mono ?_; rintro e w' ⟨rfl, rfl⟩) | (at_builtin; refine wpList_append_own _ rfl (.tmp 16) (.tmp 25) 166 rfl base 5 i0 (.int .u8 0) 1 1 Tryz.underlying166 hi hz0 hz1 hz2 rfl (by decide) _ _ _ rfl (hown.alloc _) ⟨w.heap.size, 0, none⟩ 2 2 [.int .u8 (192 + (u : Int) / 64), .int .u8 (wrap32 (128 + bits BinOp.and IntKind.i32 (u : Int) 63) % 256)] rfl rfl ?c1 ?c2 ?c3 ?c4 ?c5 ?_))
 case c1 => exact new_cells w [.int .u8 (192 + (u : Int) / 64), .int .u8 (wrap32 (128 + bits BinOp.and IntKind.i32 (u : Int) 63) % 256)] 5
 case c2 => exact int_cells .u8 [192 + (u : Int) / 64, wrap32 (128 + bits BinOp.and IntKind.i32 (u : Int) 63) % 256]
 case c3 => unfold maxLen; omega
 case c4 => omega
 case c5 => simp; omega
 intro v' w1 hown' hgrow _
 clear hown
 have HO := Lib.hid hown'
 clear hown'
 go_wp2
 go_ret
 refine ⟨v', rfl, ?_, ?_⟩
 ·have := HO.out
  rw [HB.out, HU.out]
  exact this
 ·exact ⟨hgrow.os, hgrow.tape, hgrow.output, Nat.le_trans (by simp) hgrow.size, fun k hk hne => (hgrow.block k (by simp; omega) hne).trans (Below.heap_alloc w _ k hk)⟩
set_option maxRecDepth 1000000 in
set_option maxHeartbeats 400000 in
theorem appendUnit_3 (u : Nat) (hu : 2048 ≤ u) (hu2 : u < 65536) (v : Value) (n : Nat) (xs : List Value) (base : Nat) (w : World) (hown : w.ownsRow base 5 1 v n xs) (hn : n ≤ 1000000000) (hb : base ≤ w.heap.size) :
  Calls Tryz.prog 201 #[v, .int .i32 u] w fun e w' => ∃ v', e = .returned v' ∧ w'.ownsRow base 5 1 v' (n + (un u).length) (xs ++ bcells (un u)) ∧ w.grownBy w' v.ownBlock := by
 obtain ⟨i0, hi, hz0, hz1, hz2⟩ := info_parts Tryz.info5
 have hrl := fun W => runeLen_any (u : Int) W
 rw [rlen_3 (by omega) (by omega)] at hrl
 have HRL := Lib.hid hrl
 clear hrl
 have hun : un u = bs [224 + u / 4096, 128 + u / 64 % 64, 128 + u % 64] := by simp only [un, unN, if_neg (show ¬ (1 ≤ u ∧ u < 128) by omega), if_neg (show ¬ u < 2048 by omega)]
 have hbc : bcells (un u) = [224 + (u : Int) / 4096, wrap32 (128 + bits BinOp.and IntKind.i32 ((u : Int) / 64) 63) % 256, wrap32 (128 + bits BinOp.and IntKind.i32 (u : Int) 63) % 256].map (Value.int .u8) := by
  have m1 := low_byte u (by omega)
  have m2 := mid_byte u (by omega)
  rw [hun]
  simp only [m1, m2, bs, bcells, List.map_cons, List.map_nil, UInt8.toNat_ofNat']
  congr 1 <;> first | (congr 1; omega) | (congr 1 <;> first | (congr 1; omega) | (congr 1; congr 1; omega))
 have hl : (un u).length = 3 := by rw [hun]; rfl
 have HU := Lib.hid hl
 have HB := Lib.hid hbc
 clear hun hbc hl
 go_enter Tryz.func201, Tryz.ntmps201
 go_wp2_with (first | (go_at_call 200; refine (HRL.out _).mono ?_; rintro e w' ⟨rfl, rfl⟩) | (at_builtin; refine wpList_append_own _ rfl (.tmp 27) (.tmp 41) 166 rfl base 5 i0 (.int .u8 0) 1 1 Tryz.underlying166 hi hz0 hz1 hz2 rfl (by decide) _ _ _ rfl (hown.alloc _) ⟨w.heap.size, 0, none⟩ 3 3 [.int .u8 (224 + (u : Int) / 4096), .int .u8 (wrap32 (128 + bits BinOp.and IntKind.i32 ((u : Int) / 64) 63) % 256), .int .u8 (wrap32 (128 + bits BinOp.and IntKind.i32 (u : Int) 63) % 256)] rfl rfl ?c1 ?c2 ?c3 ?c4 ?c5 ?_))
 case c1 => exact new_cells w [.int .u8 (224 + (u : Int) / 4096), .int .u8 (wrap32 (128 + bits BinOp.and IntKind.i32 ((u : Int) / 64) 63) % 256), .int .u8 (wrap32 (128 + bits BinOp.and IntKind.i32 (u : Int) 63) % 256)] 5
 case c2 => exact int_cells .u8 [224 + (u : Int) / 4096, wrap32 (128 + bits BinOp.and IntKind.i32 ((u : Int) / 64) 63) % 256, wrap32 (128 + bits BinOp.and IntKind.i32 (u : Int) 63) % 256]
 case c3 => unfold maxLen; omega
 case c4 => omega
 case c5 => simp; omega
 intro v' w1 hown' hgrow _
 clear hown
 have HO := Lib.hid hown'
 clear hown'
 go_wp2
 go_ret
 refine ⟨v', rfl, ?_, ?_⟩
 ·have := HO.out
  rw [HB.out, HU.out]
  exact this
 ·exact ⟨hgrow.os, hgrow.tape, hgrow.output, Nat.le_trans (by simp) hgrow.size, fun k hk hne => (hgrow.block k (by simp; omega) hne).trans (Below.heap_alloc w _ k hk)⟩
theorem appendUnit_any (u : Nat) (hu : u < 65536) (v : Value) (n : Nat) (xs : List Value) (base : Nat) (w : World) (hown : w.ownsRow base 5 1 v n xs) (hn : n ≤ 1000000000) (hb : base ≤ w.heap.size) :
  Calls Tryz.prog 201 #[v, .int .i32 u] w fun e w' => ∃ v', e = .returned v' ∧ w'.ownsRow base 5 1 v' (n + (un u).length) (xs ++ bcells (un u)) ∧ w.grownBy w' v.ownBlock := by
 by_cases h1 : 1 ≤ u ∧ u < 128
 ·exact appendUnit_1 u h1 v n xs base w hown hn hb
 by_cases h2 : u < 2048
 ·exact appendUnit_2 u h1 h2 v n xs base w hown hn hb
 ·exact appendUnit_3 u (by omega) hu v n xs base w hown hn hb
end Go.Proofs.YtmaknddlgppinaaGreatDoor
