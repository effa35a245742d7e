/-
  PRUNED by wip/tools/prunem.py: what these texts need of an earlier stage's.
-/
import Derived.Test.YtcgloepfnnfioaaW2
import Derived.Laws.RangeAny
set_option linter.unusedVariables false
set_option linter.unusedSimpArgs false
namespace Go.Proofs.Ytcgloepfnnfioaa
open Go.RowKit

abbrev L (s : ByteArray) : List UInt8 := s.data.toList
theorem size_L (s : ByteArray) : s.size = (L s).length := Lib.size_eq s
theorem drop_ne {s : ByteArray} {pos : Nat} (h : pos < s.size) : (L s).drop pos ≠ [] := by
  intro e
  have := congrArg List.length e
  rw [List.length_drop, ← size_L] at this
  simp at this
  omega
theorem drop_end {s : ByteArray} {pos : Nat} (h : ¬ pos < s.size) : (L s).drop pos = [] := by
  apply List.drop_eq_nil_of_le
  rw [← size_L]
  omega
/-- One step at pos: the rune, and what is left behind it. -/
theorem step_at {s : ByteArray} {pos : Nat} (h : pos < s.size) :
    ∃ r k, Utf8.decode s pos = (r, k) ∧ dec ((L s).drop pos) = (r, k) ∧ 1 ≤ k ∧ pos + k ≤ s.size ∧ Scal r ∧ runes ((L s).drop pos) = r :: runes ((L s).drop (pos + k)) ∧
      validL ((L s).drop pos) = (!bad (r, k) && validL ((L s).drop (pos + k))) := by
  have hne := drop_ne h
  have hw := dec_width_le _ hne
  rw [List.length_drop, ← size_L] at hw
  refine ⟨(dec ((L s).drop pos)).1, (dec ((L s).drop pos)).2, decode_drop s pos, rfl, (dec_width _).1, by omega, dec_scal _, ?_, ?_⟩
  · rw [runes_cons _ hne, List.drop_drop]
  · rw [validL_cons _ hne, List.drop_drop]
set_option maxRecDepth 1000000 in
set_option maxHeartbeats 400000 in
theorem Len_any (s : ByteArray) (w : World) (hs : s.size ≤ maxLen) :
    Calls Try.prog 115 #[.string s] w fun e w' => e = .returned (.int .i64 (runes (L s)).length) ∧ ∃ pos, w' = w.iter s pos := by
  unfold maxLen at hs
  have hlen := Lib.hid (runes_length_le (L s))
  have hsz := Lib.hid (size_L s)
  go_enter Try.func115, Try.ntmps115
  go_wp2
  go_loopw [3] (fun n w' => ∃ pos k : Nat, w' = w.iter s pos ∧ n = .int .i64 k ∧ k + (runes ((L s).drop pos)).length = (runes (L s)).length) (fun _ w' => s.size - w'.iterPos w.heap.size)
  case atStart => exact ⟨0, 0, rfl, rfl, by simp⟩
  case round =>
    obtain ⟨pos, k, rfl, rfl, hk⟩ := hrel
    have HK := Lib.hid hk
    clear hk
    by_cases hp : pos < s.size
    · obtain ⟨r, j, e1, _, hj, hjs, _, e2, _⟩ := step_at hp
      have hnx : ∀ ty, (Instr.next (.pointer (some ⟨w.heap.size, 0, none⟩)) true ty).run Try.prog (w.iter s pos) = _ := fun ty => run_next_any w s pos ty hp
      rw [e1] at hnx
      have hkb : k + 1 ≤ 9223372036854775807 := by
        have a := HK.out
        have b := hlen.out
        have c := hsz.out
        rw [e2] at a
        simp at a
        omega
      have E2 := Lib.hid e2
      clear e1 e2
      go_wp2
      go_roundw
      case rel => exact ⟨pos + j, k + 1, rfl, by go_num, by have a := HK.out; rw [E2.out] at a; simp only [List.length_cons] at a; omega⟩
      case measure => simp; omega
    · have hnx : ∀ ty, (Instr.next (.pointer (some ⟨w.heap.size, 0, none⟩)) true ty).run Try.prog (w.iter s pos) = _ := fun ty => run_next_end w s pos ty hp
      go_wp2
      go_ret
      refine ⟨ret_int ?_, pos, rfl⟩
      have a := HK.out
      rw [drop_end hp, runes_nil] at a
      simp at a
      omega
/-- A rune 65533 is a bad byte's, but where its own three bytes stand. -/
theorem bad_good (l : List UInt8) (hne : l ≠ []) : bad (dec l) = (decide ((dec l).1 = 65533) && !goodB l) := by
  have hS : Scal 65533 := by unfold Scal; omega
  have hu : u8 65533 = [239, 191, 189] := by decide
  by_cases hg : goodB l = true
  · have hg' := hg
    unfold goodB at hg'
    simp only [Bool.and_eq_true, decide_eq_true_eq, beq_iff_eq] at hg'
    have hl : l = u8 65533 ++ l.drop 3 := by
      rw [hu, ← hg'.2]
      exact (List.take_append_drop 3 l).symm
    have hb : bad (dec l) = false := by
      rw [hl]
      exact bad_u8 65533 _ hS
    rw [hb, hg]
    simp
  · have hg' : goodB l = false := by simpa using hg
    rw [hg']
    by_cases hb : dec l = (65533, 1)
    · simp [bad, hb]
    · have ht := (dec_take l hne hb).1
      have h1 : (dec l).1 ≠ 65533 := by
        intro h1
        rw [h1, hu] at ht
        apply hg
        unfold goodB
        rw [ht]
        simp
      simp [bad, hb, h1]
theorem startsGood_true (s : ByteArray) (w : World) (h : goodB (L s) = true) :
    Calls Try.prog 119 #[.string s] w fun e w' => e = .returned (.bool true) ∧ w = w' := by
  have := startsGoodBad_any s w
  rwa [h] at this
theorem startsGood_false (s : ByteArray) (w : World) (h : goodB (L s) = false) :
    Calls Try.prog 119 #[.string s] w fun e w' => e = .returned (.bool false) ∧ w = w' := by
  have := startsGoodBad_any s w
  rwa [h] at this
set_option maxRecDepth 1000000 in
set_option maxHeartbeats 400000 in
theorem valid_any (s : ByteArray) (w : World) :
    Calls Try.prog 107 #[.string s] w fun e w' => e = .returned (.bool (validL (L s))) ∧ Below w.heap.size w w' := by
  go_enter Try.func107, Try.ntmps107
  go_wp2
  go_loopw [3, 4] (fun _ _ w' => ∃ pos : Nat, w' = w.iter s pos ∧ validL ((L s).drop pos) = validL (L s)) (fun _ _ w' => s.size - w'.iterPos w.heap.size)
  case atStart => exact ⟨0, rfl, by simp⟩
  case round =>
    obtain ⟨pos, rfl, hk⟩ := hrel
    have HK := Lib.hid hk
    clear hk
    by_cases hp : pos < s.size
    · obtain ⟨r, j, e1, e4, hj, hjs, _, _, e3⟩ := step_at hp
      have hnx : ∀ ty, (Instr.next (.pointer (some ⟨w.heap.size, 0, none⟩)) true ty).run Try.prog (w.iter s pos) = _ := fun ty => run_next_any w s pos ty hp
      rw [e1] at hnx
      have hbg := bad_good _ (drop_ne hp)
      rw [e4] at hbg
      have HB := Lib.hid hbg
      have E3 := Lib.hid e3
      clear e1 e3 e4 hbg
      by_cases hr : r = 65533
      · subst hr
        by_cases hg : goodB ((L s).drop pos) = true
        · have HG := fun W => Lib.hid (startsGood_true (s.extract pos s.size) W (by rw [L, Lib.extract_to_end]; exact hg))
          have hbf : bad (65533, j) = false := by rw [HB.out, hg]; rfl
          have HBF := Lib.hid hbf
          clear hg hbf
          go_wp2_with (go_at_call 119; refine (HG _).out.mono ?_; rintro e w' ⟨rfl, rfl⟩)
          go_roundw
          case rel => exact ⟨pos + j, rfl, by have a := HK.out; rw [E3.out, HBF.out] at a; simpa using a⟩
          case measure => simp; omega
        · have hg' : goodB ((L s).drop pos) = false := by simpa using hg
          have HG := fun W => Lib.hid (startsGood_false (s.extract pos s.size) W (by rw [L, Lib.extract_to_end]; exact hg'))
          have hbf : bad (65533, j) = true := by rw [HB.out, hg']; rfl
          have HBF := Lib.hid hbf
          clear hg hg' hbf
          go_wp2_with (go_at_call 119; refine (HG _).out.mono ?_; rintro e w' ⟨rfl, rfl⟩)
          go_ret
          refine ⟨ret_bool ?_, (Below.refl _ _).alloc (Nat.le_refl _) _⟩
          rw [← HK.out, E3.out, HBF.out]
          rfl
      · have hrz : ((r : Int) == 65533) = false := by rw [beq_eq_false_iff_ne]; omega
        have hbf : bad (r, j) = false := by rw [HB.out]; simp [hr]
        have HBF := Lib.hid hbf
        clear hbf
        go_wp2
        go_roundw
        case rel => exact ⟨pos + j, rfl, by have a := HK.out; rw [E3.out, HBF.out] at a; simpa using a⟩
        case measure => simp; omega
    · have hnx : ∀ ty, (Instr.next (.pointer (some ⟨w.heap.size, 0, none⟩)) true ty).run Try.prog (w.iter s pos) = _ := fun ty => run_next_end w s pos ty hp
      go_wp2
      go_ret
      refine ⟨ret_bool ?_, (Below.refl _ _).alloc (Nat.le_refl _) _⟩
      rw [← HK.out, drop_end hp]
      rfl
theorem rlen_mb (r : Nat) (_h : Scal r) : rlen (r : Int) = ((mb r).length : Int) := by
  have key : ∀ x : Nat, (un x).length = if 1 ≤ x ∧ x < 128 then 1 else if x < 2048 then 2 else 3 := by
    intro x
    unfold un unN
    rw [bs_length]
    repeat' split
    all_goals rfl
  unfold mb
  by_cases c1 : 1 ≤ r ∧ r ≤ 127
  · rw [rlen_1 (by omega), if_pos (by omega), key, if_pos (by omega)]; rfl
  by_cases c2 : r ≤ 2047
  · rw [rlen_2 (by omega) (by omega), if_pos (by omega), key, if_neg (by omega), if_pos (by omega)]; rfl
  by_cases c3 : r < 65536
  · rw [rlen_3 (by omega) (by omega), if_pos (by omega), key, if_neg (by omega), if_neg (by omega)]; rfl
  · rw [rlen_6 (by omega), if_neg (by omega), List.length_append, key, key, if_neg (by omega), if_neg (by omega), if_neg (by omega), if_neg (by omega)]; rfl
theorem enc_le6 (l : List UInt8) : (encL l).length ≤ 6 * (runes l).length := by
  unfold encL
  generalize runes l = rs
  induction rs with
  | nil => simp
  | cons r rs ih =>
    have := (mb_length r).2
    simp only [List.flatMap_cons, List.length_append, List.length_cons]
    omega
set_option maxRecDepth 1000000 in
set_option maxHeartbeats 400000 in
theorem encodedLen_any (s : ByteArray) (w : World) (hs : s.size ≤ 1000000000000000000) :
    Calls Try.prog 108 #[.string s] w fun e w' => e = .returned (.int .i64 (encL (L s)).length) ∧ Below w.heap.size w w' := by
  have hlen := runes_length_le (L s)
  have h6 := enc_le6 (L s)
  rw [← size_L] at hlen
  have HT := Lib.hid (show (encL (L s)).length ≤ 6000000000000000000 by omega)
  clear hlen h6
  go_enter Try.func108, Try.ntmps108
  go_wp2
  go_loopw [3, 5] (fun n _ w' => ∃ pos k : Nat, w' = w.iter s pos ∧ n = .int .i64 k ∧ k + (encL ((L s).drop pos)).length = (encL (L s)).length) (fun _ _ w' => s.size - w'.iterPos w.heap.size)
  case atStart => exact ⟨0, 0, rfl, rfl, by simp⟩
  case round =>
    obtain ⟨pos, k, rfl, rfl, hk⟩ := hrel
    have HK := Lib.hid hk
    clear hk
    by_cases hp : pos < s.size
    · obtain ⟨r, j, e1, _, hj, hjs, hsc, e2, _⟩ := step_at hp
      have hnx : ∀ ty, (Instr.next (.pointer (some ⟨w.heap.size, 0, none⟩)) true ty).run Try.prog (w.iter s pos) = _ := fun ty => run_next_any w s pos ty hp
      rw [e1] at hnx
      have e5 : encL ((L s).drop pos) = mb r ++ encL ((L s).drop (pos + j)) := by unfold encL; rw [e2]; rfl
      have hrl := fun W => runeLen_any (r : Int) W
      rw [rlen_mb r hsc] at hrl
      have HRL := Lib.hid hrl
      have hm6 := (mb_length r).2
      generalize hm : (mb r).length = m at *
      have hkb : k ≤ 6000000000000000000 := by
        have a := HK.out
        have b := HT.out
        omega
      have HM := Lib.hid hm
      have E5 := Lib.hid e5
      clear e1 e2 e5 hm hrl
      go_wp2_with (go_at_call 120; refine (HRL.out _).mono ?_; rintro e w' ⟨rfl, rfl⟩)
      go_roundw
      case rel => exact ⟨pos + j, k + m, rfl, by go_num, by have a := HK.out; rw [E5.out, List.length_append, HM.out] at a; omega⟩
      case measure => simp; omega
    · have hnx : ∀ ty, (Instr.next (.pointer (some ⟨w.heap.size, 0, none⟩)) true ty).run Try.prog (w.iter s pos) = _ := fun ty => run_next_end w s pos ty hp
      go_wp2
      go_ret
      refine ⟨ret_int ?_, (Below.refl _ _).alloc (Nat.le_refl _) _⟩
      have a := HK.out
      rw [drop_end hp] at a
      have z : (encL []).length = 0 := rfl
      omega
end Go.Proofs.Ytcgloepfnnfioaa
