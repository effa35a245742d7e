/-
  WALKS of 'firstRune' and of the document's own 'unit' and 'next': what each answers.
-/
import Derived.Test.YtkbnhjmpojpfhaaW1
import Derived.Deep.QuietTactic
import Derived.BigQuiet
namespace Go.Proofs.Ytkbnhjmpojpfhaa
open Go.RowKit

theorem scalar_true (r : Int) (w : World) (h : scalB r = true) :
    Calls Try.prog 34 #[.int .i32 r] w fun e w' => e = .returned (.bool true) ∧ w = w' := by
  have := scalar_any r w
  rwa [h] at this
theorem scalar_false (r : Int) (w : World) (h : scalB r = false) :
    Calls Try.prog 34 #[.int .i32 r] w fun e w' => e = .returned (.bool false) ∧ w = w' := by
  have := scalar_any r w
  rwa [h] at this
theorem scalB_scal (r : Nat) : scalB (r : Int) = decide (Scal r) := by
  unfold scalB Scal
  exact decide_eq_decide.2 ⟨fun h => by omega, fun h => by omega⟩
theorem unitL_at {l : List UInt8} {u n : Nat} (h : unitL l = (u, n)) (hn : n ≠ 0) : n ≤ l.length ∧ n ≤ 3 ∧ u < 65536 := by
  have ht := unitL_take l (by rw [h]; exact hn)
  rw [h] at ht
  obtain ⟨a, b, c⟩ : l = un u ++ l.drop n ∧ (un u).length = n ∧ u < 65536 := ht
  have h1 := congrArg List.length a
  have h2 := un_length u
  simp only [List.length_append] at h1
  exact ⟨by omega, by omega, c⟩
theorem firstUnit_at (s : ByteArray) (w : World) (u n : Nat) (h : unitL s.data.toList = (u, n)) :
    Calls Try.prog 41 #[.string s] w fun e w' => e = .returned (.tuple #[.int .i32 u, .int .i64 n]) ∧ w = w' := by
  have := firstUnit_any s w
  rw [h] at this
  exact this

set_option maxHeartbeats 400000 in
set_option maxRecDepth 100000 in
theorem firstRune_any (s : ByteArray) (w : World) :
    Calls Try.prog 31 #[.string s] w fun e w' => e = .returned (tup (mdec s.data.toList)) ∧ w = w' := by
  obtain ⟨u, n, hu⟩ : ∃ u n, unitL s.data.toList = (u, n) := ⟨_, _, rfl⟩
  have HU := Lib.hid (firstUnit_at s w u n hu)
  by_cases hn : n = 0
  · have hL : mdec s.data.toList = (0, 0) := by unfold mdec; rw [hu]; exact if_pos hn
    have hu0 := unitL_zero s.data.toList (by rw [hu]; exact hn)
    rw [hu] at hu0
    have hu1 : u = 0 := congrArg Prod.fst hu0
    have HL := Lib.hid hL
    clear hL hu hu0
    subst hn hu1
    go_enter Try.func31, Try.ntmps31
    go_wp2_with (go_at_call 41; refine (HU.out).mono ?_; rintro e w' ⟨rfl, rfl⟩)
    go_ret2
    exact ⟨ret_tup0 HL.out, rfl⟩
  obtain ⟨hnl, hn3, hu16⟩ := unitL_at hu hn
  rw [← Lib.size_eq] at hnl
  have hn0 : (((n : Nat) : Int) == 0) = false := by rw [beq_eq_false_iff_ne]; omega
  by_cases hsc : Scal u
  · have hL : mdec s.data.toList = (u, n) := by unfold mdec; rw [hu, if_neg hn, if_pos hsc]
    have HS := Lib.hid (scalar_true u w (by rw [scalB_scal]; exact decide_eq_true hsc))
    have HL := Lib.hid hL
    clear hL hu hsc
    go_enter Try.func31, Try.ntmps31
    go_wp2_with (first | (go_at_call 41; refine (HU.out).mono ?_; rintro e w' ⟨rfl, rfl⟩) | (go_at_call 34; refine (HS.out).mono ?_; rintro e w' ⟨rfl, rfl⟩))
    go_ret2
    exact ⟨ret_tup (by rw [HL.out]) (by rw [HL.out]), rfl⟩
  · have HS := Lib.hid (scalar_false u w (by rw [scalB_scal]; exact decide_eq_false hsc))
    obtain ⟨v, m, hv⟩ : ∃ v m, unitL (s.data.toList.drop n) = (v, m) := ⟨_, _, rfl⟩
    have HV := Lib.hid (firstUnit_at (s.extract n s.size) w v m (by rw [Lib.extract_to_end]; exact hv))
    have hL : mdec s.data.toList = if u ≤ 56319 ∧ 56320 ≤ v ∧ v ≤ 57343 then (65536 + (u - 55296) * 1024 + (v - 56320), n + m) else (0, 0) := by
      unfold mdec; rw [hu, if_neg hn, if_neg hsc]; simp only [hv]
    have hm3 : m ≤ 3 := by
      by_cases hm : m = 0
      · omega
      · exact (unitL_at hv hm).2.1
    have hu55 : 55296 ≤ u := by unfold Scal at hsc; omega
    have HL := Lib.hid hL
    clear hL hu hv hsc
    go_enter Try.func31, Try.ntmps31
    go_wp2_with fail
    refine (HU.out).mono ?_
    rintro e w' ⟨rfl, rfl⟩
    go_wp2_with fail
    refine (HS.out).mono ?_
    rintro e w' ⟨rfl, rfl⟩
    go_wp2_with fail
    refine (HV.out).mono ?_
    rintro e w' ⟨rfl, rfl⟩
    go_wp2
    all_goals go_ret2
    all_goals first
      | (refine ⟨ret_tup0 ?_, rfl⟩; rw [HL.out, if_neg]; omega)
      | (refine ⟨ret_tup ?_ ?_, rfl⟩ <;> rw [HL.out, if_pos (by omega)] <;> simp only <;> omega)

/-- The document's 'unit': sixteen bits in three bytes, or -1. -/
def unitR (l : List UInt8) : Int := if (unitL l).2 = 3 then (unitL l).1 else -1
theorem unitR_neg {l : List UInt8} (h : l.length < 3 ∨ at0 l 0 < 224 ∨ 240 ≤ at0 l 0 ∨ at0 l 1 < 128 ∨ 192 ≤ at0 l 1 ∨ at0 l 2 < 128 ∨ 192 ≤ at0 l 2 ∨ (at0 l 0 - 224) * 4096 + (at0 l 1 - 128) * 64 + (at0 l 2 - 128) < 2048) : unitR l = -1 := by
  unfold unitR
  rw [if_neg]
  intro hk
  have h0 := at0_lt l 0
  have h1 := at0_lt l 1
  have h2 := at0_lt l 2
  unfold unitL unitN at hk
  split at hk
  · simp at hk
  split at hk
  · split at hk <;> simp at hk
  split at hk
  · split at hk <;> simp at hk
  split at hk
  · split at hk
    · omega
    · simp at hk
  · simp at hk
theorem unitR_pos {l : List UInt8} (h3 : 3 ≤ l.length) (a1 : 224 ≤ at0 l 0) (a2 : at0 l 0 < 240) (b1 : 128 ≤ at0 l 1) (b2 : at0 l 1 < 192) (c1 : 128 ≤ at0 l 2) (c2 : at0 l 2 < 192)
    (hr : 2048 ≤ (at0 l 0 - 224) * 4096 + (at0 l 1 - 128) * 64 + (at0 l 2 - 128)) : unitR l = (((at0 l 0 - 224) * 4096 + (at0 l 1 - 128) * 64 + (at0 l 2 - 128) : Nat) : Int) := by
  have e : unitL l = ((at0 l 0 - 224) * 4096 + (at0 l 1 - 128) * 64 + (at0 l 2 - 128), 3) := by
    unfold unitL unitN
    rw [if_neg (by omega), if_neg (by omega), if_neg (by omega), if_pos (by omega), if_pos (by omega)]
    apply Prod.ext
    · simp only; omega
    · rfl
  unfold unitR
  rw [e]
  rfl
set_option maxHeartbeats 800000 in
set_option maxRecDepth 100000 in
theorem unit_any (s : ByteArray) (w : World) :
    Calls Try.prog 32 #[.string s] w fun e w' => e = .returned (.int .i64 (unitR s.data.toList)) ∧ ∃ n, w' = w.drewN n := by
  have hsz := Lib.hid (Lib.size_eq s)
  by_cases h3 : s.size < 3
  · have hL : unitR s.data.toList = -1 := unitR_neg (by rw [← hsz.out]; omega)
    have HL := Lib.hid hL
    clear hL
    go_enter Try.func32, Try.ntmps32
    go_wp2
    go_ret
    exact ⟨ret_int HL.out.symm, 0, rfl⟩
  · have b0 := Lib.hid (at0_get s 0 (by omega))
    have b1 := Lib.hid (at0_get s 1 (by omega))
    have b2 := Lib.hid (at0_get s 2 (by omega))
    go_enter Try.func32, Try.ntmps32
    go_wp2
    all_goals first | go_ret | (go_quiet (fail); go_wp2)
    all_goals try go_ret
    all_goals
      have e0 := b0.out
      have e1 := b1.out
      have e2 := b2.out
      have ez := hsz.out
      first
      | (refine ⟨ret_int (unitR_neg ?_).symm, 0, rfl⟩; omega)
      | (refine ⟨ret_int (unitR_neg ?_).symm, _, rfl⟩; omega)
      | (refine ⟨ret_int ?_, _, rfl⟩; rw [unitR_pos] <;> omega)
end Go.Proofs.Ytkbnhjmpojpfhaa
