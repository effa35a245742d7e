/-
  PRUNED by wip/tools/prunem.py: what these texts need of an earlier stage's.
-/
import Derived.Test.YtcgloepfnnfioaaW1
import Derived.Deep.QuietTactic
import Derived.BigQuiet
set_option linter.unusedVariables false
set_option linter.unusedSimpArgs false
namespace Go.Proofs.Ytcgloepfnnfioaa
open Go.RowKit

theorem scalar_true (r : Int) (w : World) (h : scalB r = true) :
    Calls Try.prog 126 #[.int .i32 r] w fun e w' => e = .returned (.bool true) ∧ w = w' := by
  have := scalar_any r w
  rwa [h] at this
theorem scalar_false (r : Int) (w : World) (h : scalB r = false) :
    Calls Try.prog 126 #[.int .i32 r] w fun e w' => e = .returned (.bool false) ∧ w = w' := by
  have := scalar_any r w
  rwa [h] at this
theorem scalB_scal (r : Nat) : scalB (r : Int) = decide (Scal r) := by
  unfold scalB Scal
  exact decide_eq_decide.2 ⟨fun h => by omega, fun h => by omega⟩
theorem unitL_at {l : List UInt8} {u n : Nat} (h : unitL l = (u, n)) (hn : n ≠ 0) : n ≤ l.length ∧ n ≤ 3 ∧ u < 65536 := by
  have ht := unitL_take l (by rw [h]; exact hn)
  rw [h] at ht
  obtain ⟨a, b, c⟩ : l = un u ++ l.drop n ∧ (un u).length = n ∧ u < 65536 := ht
  have h1 := congrArg List.length a
  have h2 := un_length u
  simp only [List.length_append] at h1
  exact ⟨by omega, by omega, c⟩
theorem firstUnit_at (s : ByteArray) (w : World) (u n : Nat) (h : unitL s.data.toList = (u, n)) :
    Calls Try.prog 125 #[.string s] w fun e w' => e = .returned (.tuple #[.int .i32 u, .int .i64 n]) ∧ w = w' := by
  have := firstUnit_any s w
  rw [h] at this
  exact this
set_option maxHeartbeats 400000 in
set_option maxRecDepth 100000 in
theorem firstRune_any (s : ByteArray) (w : World) :
    Calls Try.prog 122 #[.string s] w fun e w' => e = .returned (tup (mdec s.data.toList)) ∧ w = w' := by
  obtain ⟨u, n, hu⟩ : ∃ u n, unitL s.data.toList = (u, n) := ⟨_, _, rfl⟩
  have HU := Lib.hid (firstUnit_at s w u n hu)
  by_cases hn : n = 0
  · have hL : mdec s.data.toList = (0, 0) := by unfold mdec; rw [hu]; exact if_pos hn
    have hu0 := unitL_zero s.data.toList (by rw [hu]; exact hn)
    rw [hu] at hu0
    have hu1 : u = 0 := congrArg Prod.fst hu0
    have HL := Lib.hid hL
    clear hL hu hu0
    subst hn hu1
    go_enter Try.func122, Try.ntmps122
    go_wp2_with (go_at_call 125; refine (HU.out).mono ?_; rintro e w' ⟨rfl, rfl⟩)
    go_ret2
    exact ⟨ret_tup0 HL.out, rfl⟩
  obtain ⟨hnl, hn3, hu16⟩ := unitL_at hu hn
  rw [← Lib.size_eq] at hnl
  have hn0 : (((n : Nat) : Int) == 0) = false := by rw [beq_eq_false_iff_ne]; omega
  by_cases hsc : Scal u
  · have hL : mdec s.data.toList = (u, n) := by unfold mdec; rw [hu, if_neg hn, if_pos hsc]
    have HS := Lib.hid (scalar_true u w (by rw [scalB_scal]; exact decide_eq_true hsc))
    have HL := Lib.hid hL
    clear hL hu hsc
    go_enter Try.func122, Try.ntmps122
    go_wp2_with (first | (go_at_call 125; refine (HU.out).mono ?_; rintro e w' ⟨rfl, rfl⟩) | (go_at_call 126; refine (HS.out).mono ?_; rintro e w' ⟨rfl, rfl⟩))
    go_ret2
    exact ⟨ret_tup (by rw [HL.out]) (by rw [HL.out]), rfl⟩
  · have HS := Lib.hid (scalar_false u w (by rw [scalB_scal]; exact decide_eq_false hsc))
    obtain ⟨v, m, hv⟩ : ∃ v m, unitL (s.data.toList.drop n) = (v, m) := ⟨_, _, rfl⟩
    have HV := Lib.hid (firstUnit_at (s.extract n s.size) w v m (by rw [Lib.extract_to_end]; exact hv))
    have hL : mdec s.data.toList = if u ≤ 56319 ∧ 56320 ≤ v ∧ v ≤ 57343 then (65536 + (u - 55296) * 1024 + (v - 56320), n + m) else (0, 0) := by
      unfold mdec; rw [hu, if_neg hn, if_neg hsc]; simp only [hv]
    have hm3 : m ≤ 3 := by
      by_cases hm : m = 0
      · omega
      · exact (unitL_at hv hm).2.1
    have hu55 : 55296 ≤ u := by unfold Scal at hsc; omega
    have HL := Lib.hid hL
    clear hL hu hv hsc
    go_enter Try.func122, Try.ntmps122
    go_wp2_with fail
    refine (HU.out).mono ?_
    rintro e w' ⟨rfl, rfl⟩
    go_wp2_with fail
    refine (HS.out).mono ?_
    rintro e w' ⟨rfl, rfl⟩
    go_wp2_with fail
    refine (HV.out).mono ?_
    rintro e w' ⟨rfl, rfl⟩
    go_wp2
    all_goals go_ret2
    all_goals first
      | (refine ⟨ret_tup0 ?_, rfl⟩; rw [HL.out, if_neg]; omega)
      | (refine ⟨ret_tup ?_ ?_, rfl⟩ <;> rw [HL.out, if_pos (by omega)] <;> simp only <;> omega)
end Go.Proofs.Ytcgloepfnnfioaa
