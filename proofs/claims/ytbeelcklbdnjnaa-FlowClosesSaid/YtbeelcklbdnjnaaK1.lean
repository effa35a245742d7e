/-
  CUT by wip/tools/rawprune.py: what is needed of an earlier stage's text.
-/
import Derived.Test.YtbeelcklbdnjnaaRw
set_option linter.unusedVariables false
set_option linter.unusedSimpArgs false
namespace Go.Proofs.Ytbeelcklbdnjnaa
open Go.RowKit

theorem ends_any (op : Int) (w : World) :
    Calls Try.prog 28 #[.int .i64 op] w fun e w' => e = .returned (.bool (endsP op)) ∧ w = w' := by
  go_enter Try.func28, Try.ntmps28
  go_wp2
  all_goals (go_ret; refine ⟨ret_b ?_, rfl⟩; unfold endsP; (try simp only [beq_iff_eq, beq_eq_false_iff_ne, ne_eq, decide_eq_true_eq, decide_eq_false_iff_not] at *); first | (rw [Bool.eq_iff_iff]; simp; omega) | (simp; omega))
theorem refEnds_any (op : Int) (w : World) :
    Calls Try.prog 23 #[.int .i64 op] w fun e w' => e = .returned (.bool (endsP op)) ∧ w = w' := by
  go_enter Try.func23, Try.ntmps23
  go_wp2
  all_goals (go_ret; refine ⟨ret_b ?_, rfl⟩; unfold endsP; (try simp only [beq_iff_eq, beq_eq_false_iff_ne, ne_eq, decide_eq_true_eq, decide_eq_false_iff_not] at *); first | (rw [Bool.eq_iff_iff]; simp; omega) | (simp; omega))
set_option maxHeartbeats 1600000 in
theorem refForm_any (op : Int) (w : World) :
    Calls Try.prog 33 #[.int .i64 op] w fun e w' => e = .returned (.int .u8 (formP op)) ∧ w = w' := by
  go_enter Try.func33, Try.ntmps33
  go_wp2
  all_goals (go_ret; refine ⟨ret_i ?_, rfl⟩; (try simp only [beq_iff_eq, beq_eq_false_iff_ne, ne_eq, decide_eq_true_eq, decide_eq_false_iff_not] at *); unfold formP; (repeat' split) <;> first | rfl | omega)
/-- The place of the first instruction that stands there. -/
theorem idx_step {l : List In} {pc : Int} {k : Nat} {x : In} (h : l[k]? = some x) (hn : ∀ (j : Nat) (y : In), j < k → l[j]? = some y → y.pc ≠ pc) (hx : x.pc = pc) : idxP l pc = k := by
  have hk : k < l.length := (List.getElem?_eq_some_iff.1 h).1
  unfold idxP
  have : l.findIdx? (fun x => x.pc == pc) = some k := by
    rw [List.findIdx?_eq_some_iff_getElem]
    refine ⟨hk, ?_, fun j hj => ?_⟩
    · rw [List.getElem?_eq_getElem hk] at h
      simp only [Option.some.injEq] at h
      rw [h]; simpa using hx
    · have := hn j _ hj (List.getElem?_eq_getElem (by omega))
      simpa using this
  rw [this]
theorem idx_none {l : List In} {pc : Int} (hn : ∀ (j : Nat) (y : In), l[j]? = some y → y.pc ≠ pc) : idxP l pc = -1 := by
  unfold idxP
  have : l.findIdx? (fun x => x.pc == pc) = none := by
    rw [List.findIdx?_eq_none_iff]
    intro x hx
    obtain ⟨j, hj⟩ := List.mem_iff_getElem?.1 hx
    simpa using hn j x hj
  rw [this]
set_option maxHeartbeats 1600000 in
theorem refIndex_any (B : Nat) (l : List In) (v : Value) (pc : Int) (w : World) (hr : NRow B w v l) (hB : B ≤ w.heap.size) :
    Calls Try.prog 30 #[v, .int .i64 pc] w fun e w' => e = .returned (.int .i64 (idxP l pc)) ∧ Below w.heap.size w w' := by
  obtain ⟨A, c, rfl, hc, hm⟩ := hr.form
  have HR := Lib.hid hr
  unfold maxLen at hm
  clear hr
  go_enter Try.func30, Try.ntmps30
  go_wp2
  go_loopw [5] (fun i wr => ∃ k : Nat, k ≤ l.length ∧ i = .int .i64 k ∧ (∀ (j : Nat) (y : In), j < k → l[j]? = some y → y.pc ≠ pc) ∧ Below w.heap.size w wr) (fun i _ => l.length - (intOf i).toNat)
  case atStart => exact ⟨0, Nat.zero_le _, rfl, fun j y hj => by omega, Below.refl _ _⟩
  case round =>
    obtain ⟨k, hk, rfl, hne, hb⟩ := hrel
    have HNE := Lib.hid hne
    have HBE := Lib.hid hb
    have hsz := hb.size
    clear hne hb
    by_cases hlt : k < l.length
    · have hx := List.getElem?_eq_getElem hlt
      generalize l[k] = x at hx
      obtain ⟨b, o, Ak, ck, At, ct, rfl, hbB, _, _, c0, c1, c2, c3, c4⟩ := (HR.out.below HBE.out hB).at_ hx
      have HX := Lib.hid hx
      clear hx
      by_cases hp : x.pc = pc
      · have e1 : (x.pc == pc) = true := by simpa using hp
        have HP := Lib.hid hp
        clear hp
        go_wp2
        go_ret
        exact ⟨ret_i (idx_step HX.out HNE.out HP.out).symm, HBE.out⟩
      · have e1 : (x.pc == pc) = false := by simpa using hp
        have HP := Lib.hid hp
        clear hp
        go_wp2
        go_roundw
        case rel =>
          refine ⟨k + 1, by omega, by go_num, fun j y hj hy => ?_, ?_⟩
          · rcases Nat.lt_or_eq_of_le (Nat.le_of_lt_succ hj) with h | rfl
            · exact HNE.out j y h hy
            · rw [HX.out] at hy; cases hy; exact HP.out
          · exact HBE.out
        case measure => simp [intOf]; omega
    · go_wp2
      go_ret
      refine ⟨ret_i (idx_none fun j y hy => HNE.out j y (by have := (List.getElem?_eq_some_iff.1 hy).1; omega) hy).symm, HBE.out⟩
end Go.Proofs.Ytbeelcklbdnjnaa
