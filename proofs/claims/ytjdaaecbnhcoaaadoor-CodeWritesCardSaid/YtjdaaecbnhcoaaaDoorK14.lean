/-
  PLAIN and WALKS: whether an instruction may be written, and in how many bytes.
-/
import Derived.Test.YtjdaaecbnhcoaaaDoorK13
import Derived.Deep.RegionWith
import Derived.Deep.RegionHeld3
set_option linter.unusedVariables false
set_option linter.unusedSimpArgs false
namespace Go.Proofs.YtjdaaecbnhcoaaaDoor
open Go.RowKit

def maxP (f : Int) : Int := if f = 98 then 255 else if f = 110 then 65535 else 0
def jmpP (x : In) : Nat := if formP x.op = 106 then 1 else if formP x.op = 115 then x.keys.length + 1 else 0
def keyB (f : Int) (ks : List Int) : Bool := if f = 115 then decide (ks.length ≤ 1022) && ks.all (fun k => decide (0 ≤ k ∧ k ≤ 65535)) else decide (ks.length = 0)
def goodB (x : In) (pc : Int) : Bool := decide (0 ≤ x.n) && decide (x.n ≤ maxP (formP x.op)) && decide (x.pc = pc) && decide (x.to.length = jmpP x) && keyB (formP x.op) x.keys
def errP (x : In) (pc : Int) : Int := if formP x.op = 0 then 11 else if goodB x pc = true then 0 else 1
/-- The cells of an instruction that is handed in by value. -/
def aggI (x : In) (kv tv : Value) : Value := .agg #[.int .i64 x.pc, .int .i64 x.op, .int .i64 x.n, kv, tv]
theorem maxNumber_any (f : Int) (w : World) : Calls Tryd.prog 46 #[.int .u8 f] w fun e w' => e = .returned (.int .i64 (maxP f)) ∧ w = w' := by
  go_enter Tryd.func46, Tryd.ntmps46
  go_wp2
  all_goals (go_ret; refine ⟨ret_i ?_, rfl⟩; (try simp only [beq_iff_eq, beq_eq_false_iff_ne, ne_eq, decide_eq_true_eq, decide_eq_false_iff_not] at *); unfold maxP; (repeat' split) <;> first | rfl | omega)
set_option maxHeartbeats 1600000 in
theorem jumpsOf_any (x : In) (Ak At : Option Addr) (ck ct : Nat) (w : World) (hk : x.keys.length ≤ 1000000000000000) :
    Calls Tryd.prog 47 #[.agg #[.int .i64 x.pc, .int .i64 x.op, .int .i64 x.n, .slice Ak x.keys.length ck, .slice At x.to.length ct]] w fun e w' => e = .returned (.int .i64 (jmpP x)) ∧ Below w.heap.size w w' := by
  obtain ⟨f, hf⟩ : ∃ f, formP x.op = f := ⟨_, rfl⟩
  have HFO := fun W => Lib.hid (Form_any x.op W)
  rw [hf] at HFO
  have hfi := formP_in x.op
  rw [hf] at hfi
  have HF := Lib.hid hf
  clear hf
  have B0 := Lib.hid ((Below.refl w.heap.size w).alloc (Nat.le_refl _) (.cells #[.int .i64 x.pc, .int .i64 x.op, .int .i64 x.n, .slice Ak x.keys.length ck, .slice At x.to.length ct] 43))
  go_enter Tryd.func47, Tryd.ntmps47
  go_wp2_with fail
  refine (HFO _).out.mono ?_
  rintro e w3 ⟨rfl, rfl⟩
  rcases hfi with rfl | rfl | rfl | rfl | rfl | rfl
  all_goals
    go_wp2
    go_ret
    exact ⟨ret_i (by unfold jmpP; rw [HF.out]; first | rfl | (simp; done) | (simp; omega)), B0.out⟩
set_option maxHeartbeats 1600000 in
theorem sizeOf_any (x : In) (Ak At : Option Addr) (ck ct : Nat) (w : World) (hk : x.keys.length ≤ 1000000000000000) :
    Calls Tryd.prog 37 #[.agg #[.int .i64 x.pc, .int .i64 x.op, .int .i64 x.n, .slice Ak x.keys.length ck, .slice At x.to.length ct]] w fun e w' => e = .returned (.int .i64 (widP x)) ∧ Below w.heap.size w w' := by
  obtain ⟨f, hf⟩ : ∃ f, formP x.op = f := ⟨_, rfl⟩
  have HFO := fun W => Lib.hid (Form_any x.op W)
  rw [hf] at HFO
  have hfi := formP_in x.op
  rw [hf] at hfi
  have HF := Lib.hid hf
  clear hf
  have B0 := Lib.hid ((Below.refl w.heap.size w).alloc (Nat.le_refl _) (.cells #[.int .i64 x.pc, .int .i64 x.op, .int .i64 x.n, .slice Ak x.keys.length ck, .slice At x.to.length ct] 43))
  go_enter Tryd.func37, Tryd.ntmps37
  go_wp2_with fail
  refine (HFO _).out.mono ?_
  rintro e w3 ⟨rfl, rfl⟩
  rcases hfi with rfl | rfl | rfl | rfl | rfl | rfl
  all_goals
    go_wp2
    go_ret
    exact ⟨ret_i (by unfold widP; rw [HF.out]; first | rfl | (simp; done) | (simp; omega)), B0.out⟩
set_option maxHeartbeats 1600000 in
theorem rightKeys_any (B : Nat) (f : Int) (ks : List Int) (v : Value) (w : World) (hr : IRow B w v ks) (hB : B ≤ w.heap.size) :
    Calls Tryd.prog 48 #[.int .u8 f, v] w fun e w' => e = .returned (.bool (keyB f ks)) ∧ w = w' := by
  obtain ⟨A, c, rfl, hc, hm⟩ := hr.form
  have HR := Lib.hid hr
  unfold maxLen at hm
  clear hr
  by_cases hf : f = 115
  · subst hf
    by_cases hl : ks.length ≤ 1022
    · have hl' : (ks.length : Int) ≤ 1022 := by omega
      go_enter Tryd.func48, Tryd.ntmps48
      go_wp2
      go_loop [17] (fun i => ∃ k : Nat, k ≤ ks.length ∧ i = .int .i64 k ∧ ∀ (j : Nat) (t : Int), j < k → ks[j]? = some t → 0 ≤ t ∧ t ≤ 65535) (fun i => ks.length - (intOf i).toNat)
      case atStart => exact ⟨0, Nat.zero_le _, rfl, fun j t hj => by omega⟩
      case round =>
        obtain ⟨k, hk, rfl, hok⟩ := hrel
        have HOK := Lib.hid hok
        clear hok
        by_cases hlt : k < ks.length
        · have hx := List.getElem?_eq_getElem hlt
          generalize ks[k] = x at hx
          obtain ⟨b, o, rfl, hbB, c0⟩ := HR.out.at_ hx
          have HX := Lib.hid hx
          clear hx
          have hno : ¬ (0 ≤ x ∧ x ≤ 65535) → keyB 115 ks = false := fun h => by
            unfold keyB
            rw [if_pos rfl, Bool.and_eq_false_iff]
            right
            rw [List.all_eq_false]
            exact ⟨x, List.mem_of_getElem? HX.out, by simpa using h⟩
          have HNO := Lib.hid hno
          clear hno
          by_cases h0 : x < 0
          · go_wp2
            go_ret
            exact ⟨ret_b (HNO.out (by omega)).symm, rfl⟩
          · have h0' : 0 ≤ x := by omega
            by_cases h1 : 65535 < x
            · clear h0
              go_wp2
              go_ret
              exact ⟨ret_b (HNO.out (by omega)).symm, rfl⟩
            · have h1' : x ≤ 65535 := by omega
              clear h0 h1
              go_wp2
              go_round
              case rel =>
                refine ⟨k + 1, by omega, by go_num, fun j t hj ht => ?_⟩
                rcases Nat.lt_or_eq_of_le (Nat.le_of_lt_succ hj) with h | rfl
                · exact HOK.out j t h ht
                · rw [HX.out] at ht; cases ht; exact ⟨h0', h1'⟩
              case measure => simp [intOf]; omega
        · go_wp2
          go_ret
          refine ⟨ret_b ?_, rfl⟩
          unfold keyB
          rw [if_pos rfl, eq_comm, Bool.and_eq_true]
          refine ⟨by simpa using hl, ?_⟩
          rw [List.all_eq_true]
          intro t ht
          obtain ⟨j, hj⟩ := List.mem_iff_getElem?.1 ht
          simpa using HOK.out j t (by have := (List.getElem?_eq_some_iff.1 hj).1; omega) hj
    · have hl' : (1022 : Int) < (ks.length : Int) := by omega
      have HN : keyB 115 ks = false := by unfold keyB; rw [if_pos rfl]; simp [hl]
      rw [HN]
      clear HN hl
      go_enter Tryd.func48, Tryd.ntmps48
      go_wp2
      go_ret
      exact ⟨rfl, rfl⟩
  · have e1 : (f == 115) = false := by simpa using hf
    have e2 : (f != 115) = true := by simpa using hf
    have HN : keyB f ks = decide (ks.length = 0) := by unfold keyB; rw [if_neg hf]
    rw [HN]
    clear HN hf
    by_cases h0 : ks.length = 0
    · have HZ := Lib.hid h0
      have hl0 : (ks.length : Int) < 1 := by omega
      have e3 : ((ks.length : Int) == 0) = true := by rw [HZ.out]; rfl
      clear h0
      go_enter Tryd.func48, Tryd.ntmps48
      go_wp2
      go_ret
      exact ⟨ret_b (by simp [HZ.out]), rfl⟩
    · have HZ := Lib.hid h0
      have e3 : ((ks.length : Int) == 0) = false := by simpa using h0
      clear h0
      go_enter Tryd.func48, Tryd.ntmps48
      go_wp2
      go_ret
      exact ⟨ret_b (by simp [HZ.out]), rfl⟩
end Go.Proofs.YtjdaaecbnhcoaaaDoor
