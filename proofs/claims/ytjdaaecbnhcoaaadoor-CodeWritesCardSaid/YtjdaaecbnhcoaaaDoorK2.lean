/-
  WALKS of the names of ops.
-/
import Derived.Test.YtjdaaecbnhcoaaaDoorK1
import Derived.Deep.MidRow
set_option linter.unusedVariables false
set_option linter.unusedSimpArgs false
namespace Go.Proofs.YtjdaaecbnhcoaaaDoor
open Go.RowKit

theorem nmL_len : nmL.length = 64 := rfl
def nmV : List Value := nmL.map Value.string
def nmA : Array Value := nmV.toArray
theorem nm_at (k : Nat) (h : k < 64) : nmL[k]? = some (nm k) := by
  unfold nm
  have : k < nmL.length := h
  rw [List.getElem?_eq_getElem this]
  simp [this]
theorem nmA_at (k : Nat) (h : k < 64) : nmA[k]? = some (.string (nm k)) := by
  unfold nmA nmV
  simp only [List.getElem?_toArray, List.getElem?_map, nm_at k h, Option.map_some]
theorem nmA_size : nmA.size = 64 := rfl
theorem Names.range {w : World} (h : Names w) : w.rangeAt 0 0 nmV := by
  intro j v hv
  unfold nmV at hv
  have hj : j < 64 := by
    have := (List.getElem?_eq_some_iff.1 hv).1
    simpa [nmL_len] using this
  rw [List.getElem?_map, nm_at j hj] at hv
  simp only [Option.map_some, Option.some.injEq] at hv
  rw [Nat.zero_add, h j hj, hv]
theorem nm_info : (Tryd.prog.info? 50).map (·.size) = some nmV.length := by kernel_rfl
theorem nm_load {ops : Array Oper} {rest : List Oper} {op : Oper} {a : Act} {w : World} {Q : Exit → Act → World → Prop} (hgd : op.guard = none) (ho : op.op = .load 50 (.global 0)) (hx : a.eval (.global 0) = .pointer (some ⟨0, 0, none⟩)) (hN : Names w)
    (h : wpList Tryd.prog ops Q rest (a.put op.dst (.agg nmA)) w) : wpList Tryd.prog ops Q (op :: rest) a w :=
  wpList_load_mid hgd 50 _ ho 0 0 hx nmV (.array 64 9) hN.range Tryd.underlying50 rfl nm_info h
theorem run_idx (w : World) (k : Nat) (hk : k < 64) : (Instr.index 50 (.agg nmA) (.int .i64 k)).run Tryd.prog w = .ok (.string (nm k)) w := by
  have h := nmA_at k hk
  simp [Instr.index, go_sem, h, hk]
def opN (s : ByteArray) : Option Nat := nmL.findIdx? (fun x => decide (x = s))
def opK (s : ByteArray) : Int := ((opN s).getD 0 : Nat)
def opB (s : ByteArray) : Bool := (opN s).isSome
theorem op_found {s : ByteArray} {k : Nat} (hk : k < 64) (h : nm k = s) (hn : ∀ j, j < k → nm j ≠ s) : opN s = some k := by
  unfold opN
  rw [List.findIdx?_eq_some_iff_getElem]
  have e : ∀ j (hj : j < nmL.length), nmL[j] = nm j := fun j hj => by
    have := nm_at j (by rw [nmL_len] at hj; exact hj)
    rw [List.getElem?_eq_getElem hj] at this
    simpa using this
  refine ⟨hk, by rw [e k hk]; simpa using h, fun j hj => ?_⟩
  rw [e j (by rw [nmL_len]; omega)]
  simpa using hn j hj
theorem op_none {s : ByteArray} (hn : ∀ j, j < 64 → nm j ≠ s) : opN s = none := by
  unfold opN
  rw [List.findIdx?_eq_none_iff]
  intro x hx
  obtain ⟨j, hj⟩ := List.mem_iff_getElem?.1 hx
  have h64 : j < 64 := by
    have := (List.getElem?_eq_some_iff.1 hj).1
    simpa [nmL_len] using this
  rw [nm_at j h64] at hj
  simp only [Option.some.injEq] at hj
  rw [← hj]
  simpa using hn j h64
theorem str_beq (s t : ByteArray) : (s.toList == t.toList) = decide (s = t) := by
  rw [Bool.eq_iff_iff, toList_data, toList_data]
  simp only [beq_iff_eq, decide_eq_true_eq]
  exact ⟨fun h => by cases s; cases t; simp_all [L], fun h => by rw [h]⟩
set_option maxRecDepth 1000000 in
set_option maxHeartbeats 1600000 in
theorem Op_any (s : ByteArray) (w : World) (h : Names w) :
    Calls Tryd.prog 13 #[.string s] w fun e w' => e = .returned (.tuple #[.int .i64 (opK s), .bool (opB s)]) ∧ w = w' := by
  have HL := Lib.hid h
  clear h
  go_enter Tryd.func13, Tryd.ntmps13
  go_wp2_with (refine nm_load rfl rfl rfl HL.out ?_)
  go_loop [7] (fun i => ∃ k : Nat, k ≤ 64 ∧ i = .int .i64 k ∧ ∀ j, j < k → nm j ≠ s) (fun i => 64 - (intOf i).toNat)
  case atStart => exact ⟨0, by omega, rfl, fun j hj => by omega⟩
  case round =>
    obtain ⟨k, hk, rfl, hne⟩ := hrel
    have HNE := Lib.hid hne
    clear hne
    by_cases hlt : k < 64
    · have hx := run_idx w k hlt
      by_cases he : nm k = s
      · have e1 : ((nm k).toList == s.toList) = true := by rw [str_beq]; simpa using he
        have HE := Lib.hid he
        clear he
        go_wp2
        go_ret2
        have := op_found hlt HE.out HNE.out
        exact ⟨by simp [opK, opB, this], rfl⟩
      · have e1 : ((nm k).toList == s.toList) = false := by rw [str_beq]; simpa using he
        have HE := Lib.hid he
        clear he
        go_wp2
        go_round
        case rel =>
          refine ⟨k + 1, by omega, by go_num, fun j hj => ?_⟩
          rcases Nat.lt_or_eq_of_le (Nat.le_of_lt_succ hj) with h | rfl
          · exact HNE.out j h
          · exact HE.out
        case measure => simp [intOf]; omega
    · go_wp2
      go_ret2
      have := op_none (s := s) (fun j hj => HNE.out j (by omega))
      exact ⟨by simp [opK, opB, this], rfl⟩
def namT (op : Int) : ByteArray := if isOpP op then nm op.toNat else ⟨#[]⟩
set_option maxHeartbeats 1600000 in
theorem Name_any (op : Int) (w : World) (h : Names w) :
    Calls Tryd.prog 11 #[.int .i64 op] w fun e w' => e = .returned (.tuple #[.string (namT op), .bool (isOpP op)]) ∧ w = w' := by
  by_cases hp : isOpP op = true
  · have HI := fun W => Lib.hid (isOp_at W hp)
    have h0 : 0 ≤ op ∧ op ≤ 63 := by simpa [isOpP] using hp
    obtain ⟨k, rfl⟩ : ∃ k : Nat, op = k := ⟨op.toNat, by omega⟩
    have hk : k < 64 := by omega
    have e1 : namT k = nm k := by unfold namT; rw [if_pos hp]; rfl
    rw [e1, hp]
    have hc := h k hk
    clear h hp e1
    go_enter Tryd.func11, Tryd.ntmps11
    go_wp2_with (first | (go_at_call 29; refine (HI _).out.mono ?_; rintro e w' ⟨rfl, rfl⟩))
    go_ret2
    exact ⟨rfl, rfl⟩
  · have hp : isOpP op = false := by simpa using hp
    have HI := fun W => Lib.hid (isOp_at W hp)
    have e1 : namT op = ⟨#[]⟩ := by unfold namT; rw [hp]; rfl
    rw [e1, hp]
    clear h hp e1
    go_enter Tryd.func11, Tryd.ntmps11
    go_wp2_with (first | (go_at_call 29; refine (HI _).out.mono ?_; rintro e w' ⟨rfl, rfl⟩))
    go_ret2
    exact ⟨rfl, rfl⟩
set_option maxRecDepth 1000000 in
set_option maxHeartbeats 1600000 in
theorem names_any (w : World) :
    Calls Tryd.prog 30 #[] w fun e w' => e = .returned (.slice (some ⟨w.heap.size, 0, none⟩) 64 64) ∧ w' = w.alloc (.cells nmA 9) := by
  go_enter Tryd.func30, Tryd.ntmps30
  go_wp2
  go_ret
  exact ⟨rfl, rfl⟩
theorem names_row (w : World) (k : Nat) (hk : k < 64) : (w.alloc (.cells nmA 9)).cell? ⟨w.heap.size, k, none⟩ = some (.string (nm k)) := by
  have := new_cells w nmV 9 k (.string (nm k)) (by have := nmA_at k hk; simpa [nmA] using this)
  rwa [plain_add, Nat.zero_add] at this
set_option maxHeartbeats 1600000 in
theorem refName_any (op : Int) (w : World) :
    Calls Tryd.prog 12 #[.int .i64 op] w fun e w' => e = .returned (.tuple #[.string (namT op), .bool (isOpP op)]) ∧ Below w.heap.size w w' := by
  have HN := fun W => Lib.hid (names_any W)
  by_cases h0 : 0 ≤ op ∧ op ≤ 63
  · obtain ⟨h0, h1⟩ := h0
    obtain ⟨k, rfl⟩ : ∃ k : Nat, op = k := ⟨op.toNat, by omega⟩
    have hk : k < 64 := by omega
    have hp : isOpP k = true := by simp [isOpP]; omega
    have e1 : namT k = nm k := by unfold namT; rw [if_pos hp]; rfl
    rw [e1, hp]
    have hc := names_row w k hk
    clear hp e1
    go_enter Tryd.func12, Tryd.ntmps12
    go_wp2_with (first | (go_at_call 30; refine (HN _).out.mono ?_; rintro e w' ⟨rfl, rfl⟩))
    go_ret2
    exact ⟨rfl, (Below.refl _ _).alloc (Nat.le_refl _) _⟩
  · have hp : isOpP op = false := by simpa [isOpP] using h0
    have e1 : namT op = ⟨#[]⟩ := by unfold namT; rw [hp]; rfl
    rw [e1, hp]
    have h0' : op < 0 ∨ 63 < op := by omega
    clear hp e1 h0
    rcases h0' with h0 | h0
    all_goals
      go_enter Tryd.func12, Tryd.ntmps12
      go_wp2_with (first | (go_at_call 30; refine (HN _).out.mono ?_; rintro e w' ⟨rfl, rfl⟩))
      go_ret2
      exact ⟨rfl, Below.refl _ _⟩
set_option maxRecDepth 1000000 in
set_option maxHeartbeats 1600000 in
theorem refOp_any (s : ByteArray) (w : World) :
    Calls Tryd.prog 14 #[.string s] w fun e w' => e = .returned (.tuple #[.int .i64 (opK s), .bool (opB s)]) ∧ Below w.heap.size w w' := by
  have HN := fun W => Lib.hid (names_any W)
  have HR := Lib.hid (fun k hk => names_row w k hk)
  have HB := Lib.hid ((Below.refl w.heap.size w).alloc (Nat.le_refl _) (.cells nmA 9))
  go_enter Tryd.func14, Tryd.ntmps14
  go_wp2_with (first | (go_at_call 30; refine (HN _).out.mono ?_; rintro e w' ⟨rfl, rfl⟩))
  go_loop [5] (fun i => ∃ k : Nat, k ≤ 64 ∧ i = .int .i64 k ∧ ∀ j, j < k → nm j ≠ s) (fun i => 64 - (intOf i).toNat)
  case atStart => exact ⟨0, by omega, rfl, fun j hj => by omega⟩
  case round =>
    obtain ⟨k, hk, rfl, hne⟩ := hrel
    have HNE := Lib.hid hne
    clear hne
    by_cases hlt : k < 64
    · have hv := HR.out k hlt
      by_cases he : nm k = s
      · have e1 : ((nm k).toList == s.toList) = true := by rw [str_beq]; simpa using he
        have HE := Lib.hid he
        clear he
        go_wp2
        go_ret2
        have := op_found hlt HE.out HNE.out
        exact ⟨by simp [opK, opB, this], HB.out⟩
      · have e1 : ((nm k).toList == s.toList) = false := by rw [str_beq]; simpa using he
        have HE := Lib.hid he
        clear he
        go_wp2
        go_round
        case rel =>
          refine ⟨k + 1, by omega, by go_num, fun j hj => ?_⟩
          rcases Nat.lt_or_eq_of_le (Nat.le_of_lt_succ hj) with h | rfl
          · exact HNE.out j h
          · exact HE.out
        case measure => simp [intOf]; omega
    · go_wp2
      go_ret2
      have := op_none (s := s) (fun j hj => HNE.out j (by omega))
      exact ⟨by simp [opK, opB, this], HB.out⟩
end Go.Proofs.YtjdaaecbnhcoaaaDoor
