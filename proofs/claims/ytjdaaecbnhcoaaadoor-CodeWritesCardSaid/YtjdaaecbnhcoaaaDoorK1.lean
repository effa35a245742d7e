/-
  WALKS of the small functions: forms, names, ends, numbers, the place of an instruction.
-/
import Derived.Test.YtjdaaecbnhcoaaaDoorRw
set_option linter.unusedVariables false
set_option linter.unusedSimpArgs false
namespace Go.Proofs.YtjdaaecbnhcoaaaDoor
open Go.RowKit

/-- The names by the ops. -/
def nmL : List ByteArray := [⟨#[110, 111, 112]⟩, ⟨#[105, 110, 116]⟩, ⟨#[116, 101, 120, 116]⟩, ⟨#[110, 117, 108, 108]⟩, ⟨#[108, 111, 97, 100]⟩, ⟨#[115, 116, 111, 114, 101]⟩, ⟨#[112, 111, 112]⟩, ⟨#[100, 117, 112]⟩, ⟨#[115, 119, 97, 112]⟩, ⟨#[97, 100, 100]⟩, ⟨#[115, 117, 98]⟩, ⟨#[109, 117, 108]⟩, ⟨#[100, 105, 118]⟩, ⟨#[114, 101, 109]⟩, ⟨#[110, 101, 103]⟩, ⟨#[97, 110, 100]⟩, ⟨#[111, 114]⟩, ⟨#[120, 111, 114]⟩, ⟨#[115, 104, 108]⟩, ⟨#[115, 104, 114]⟩, ⟨#[103, 111, 116, 111]⟩, ⟨#[105, 102, 101, 113]⟩, ⟨#[105, 102, 110, 101]⟩, ⟨#[105, 102, 108, 116]⟩, ⟨#[105, 102, 103, 101]⟩, ⟨#[99, 109, 112, 101, 113]⟩, ⟨#[99, 109, 112, 108, 116]⟩, ⟨#[105, 102, 110, 117, 108, 108]⟩, ⟨#[105, 102, 115, 111, 109, 101]⟩, ⟨#[115, 97, 109, 101]⟩, ⟨#[115, 119, 105, 116, 99, 104]⟩, ⟨#[110, 101, 119]⟩, ⟨#[97, 114, 114, 97, 121]⟩, ⟨#[108, 101, 110]⟩, ⟨#[97, 103, 101, 116]⟩, ⟨#[97, 112, 117, 116]⟩, ⟨#[103, 101, 116]⟩, ⟨#[112, 117, 116]⟩, ⟨#[115, 103, 101, 116]⟩, ⟨#[115, 112, 117, 116]⟩, ⟨#[118, 105, 114, 116]⟩, ⟨#[105, 102, 97, 99, 101]⟩, ⟨#[115, 116, 97, 116]⟩, ⟨#[115, 112, 101, 99]⟩, ⟨#[114, 101, 116]⟩, ⟨#[118, 114, 101, 116]⟩, ⟨#[116, 104, 114, 111, 119]⟩, ⟨#[99, 97, 115, 116]⟩, ⟨#[105, 115]⟩, ⟨#[101, 110, 116, 101, 114]⟩, ⟨#[101, 120, 105, 116]⟩, ⟨#[115, 112, 97, 119, 110]⟩, ⟨#[106, 111, 105, 110]⟩, ⟨#[121, 105, 101, 108, 100]⟩, ⟨#[112, 114, 105, 110, 116]⟩, ⟨#[112, 114, 105, 110, 116, 115]⟩, ⟨#[119, 101, 97, 107]⟩, ⟨#[100, 101, 114, 101, 102]⟩, ⟨#[115, 108, 101, 110]⟩, ⟨#[115, 99, 104, 97, 114]⟩, ⟨#[115, 99, 97, 116]⟩, ⟨#[105, 110, 116, 101, 114, 110]⟩, ⟨#[108, 111, 97, 100, 101, 114]⟩, ⟨#[109, 97, 107, 101]⟩]
def nm (k : Nat) : ByteArray := nmL.getD k ⟨#[]⟩
/-- The table of the program's names. -/
def Names (w : World) : Prop := ∀ k : Nat, k < 64 → w.cell? ⟨0, k, none⟩ = some (.string (nm k))
theorem Names.lt {w : World} (h : Names w) : 0 < w.heap.size := by
  have := h 0 (by omega)
  apply Classical.byContradiction
  intro hn
  have h0 : w.heap.size = 0 := by omega
  have : w.heap[0]? = none := by simp [h0]
  simp [World.cell?, this] at *
theorem Names.below {w w' : World} (h : Names w) (hb : Below w.heap.size w w') : Names w' := fun k hk => (hb.cell (p := ⟨0, k, none⟩) h.lt).trans (h k hk)

def isOpP (op : Int) : Bool := decide (0 ≤ op ∧ op ≤ 63)
theorem isOp_any (op : Int) (w : World) :
    Calls Tryd.prog 29 #[.int .i64 op] w fun e w' => e = .returned (.bool (isOpP op)) ∧ w = w' := by
  go_enter Tryd.func29, Tryd.ntmps29
  go_wp2
  all_goals (go_ret; refine ⟨ret_b ?_, rfl⟩; simp only [isOpP]; first | (rw [Bool.eq_iff_iff]; simp; omega) | (simp; omega))
theorem isOp_at {op : Int} {b : Bool} (w : World) (h : isOpP op = b) :
    Calls Tryd.prog 29 #[.int .i64 op] w fun e w' => e = .returned (.bool b) ∧ w = w' := by
  have := isOp_any op w
  rwa [h] at this
theorem ends_any (op : Int) (w : World) :
    Calls Tryd.prog 17 #[.int .i64 op] w fun e w' => e = .returned (.bool (endsP op)) ∧ w = w' := by
  go_enter Tryd.func17, Tryd.ntmps17
  go_wp2
  all_goals (go_ret; refine ⟨ret_b ?_, rfl⟩; unfold endsP; (try simp only [beq_iff_eq, beq_eq_false_iff_ne, ne_eq, decide_eq_true_eq, decide_eq_false_iff_not] at *); first | (rw [Bool.eq_iff_iff]; simp; omega) | (simp; omega))
theorem refEnds_any (op : Int) (w : World) :
    Calls Tryd.prog 18 #[.int .i64 op] w fun e w' => e = .returned (.bool (endsP op)) ∧ w = w' := by
  go_enter Tryd.func18, Tryd.ntmps18
  go_wp2
  all_goals (go_ret; refine ⟨ret_b ?_, rfl⟩; unfold endsP; (try simp only [beq_iff_eq, beq_eq_false_iff_ne, ne_eq, decide_eq_true_eq, decide_eq_false_iff_not] at *); first | (rw [Bool.eq_iff_iff]; simp; omega) | (simp; omega))
set_option maxHeartbeats 1600000 in
theorem refForm_any (op : Int) (w : World) :
    Calls Tryd.prog 16 #[.int .i64 op] w fun e w' => e = .returned (.int .u8 (formP op)) ∧ w = w' := by
  go_enter Tryd.func16, Tryd.ntmps16
  go_wp2
  all_goals (go_ret; refine ⟨ret_i ?_, rfl⟩; (try simp only [beq_iff_eq, beq_eq_false_iff_ne, ne_eq, decide_eq_true_eq, decide_eq_false_iff_not] at *); unfold formP; (repeat' split) <;> first | rfl | omega)
set_option maxHeartbeats 1600000 in
theorem Form_any (op : Int) (w : World) :
    Calls Tryd.prog 15 #[.int .i64 op] w fun e w' => e = .returned (.int .u8 (formP op)) ∧ w = w' := by
  by_cases h : isOpP op = true
  all_goals
    have HI := fun W => Lib.hid (isOp_at W (by first | exact h | exact (Bool.not_eq_true _ ▸ h)) : Calls Tryd.prog 29 #[.int .i64 op] W _)
    have H := Lib.hid h
    clear h
    go_enter Tryd.func15, Tryd.ntmps15
    go_wp2_with (first | (go_at_call 29; refine (HI _).out.mono ?_; rintro e w' ⟨rfl, rfl⟩))
    all_goals (go_ret; refine ⟨ret_i ?_, rfl⟩; have h := H.out; simp only [isOpP, decide_eq_true_eq] at h; (try simp only [beq_iff_eq, beq_eq_false_iff_ne, ne_eq, decide_eq_true_eq, decide_eq_false_iff_not] at *); unfold formP; (repeat' split) <;> first | rfl | omega)
theorem lenErr_any (n : Nat) (w : World) (hn : n ≤ 140737488355328) :
    Calls Tryd.prog 31 #[.int .i64 n] w fun e w' => e = .returned (.int .i64 (lenP n)) ∧ w = w' := by
  go_enter Tryd.func31, Tryd.ntmps31
  go_wp2
  all_goals (go_ret; refine ⟨ret_i ?_, rfl⟩; (try simp only [beq_iff_eq, beq_eq_false_iff_ne, ne_eq, decide_eq_true_eq, decide_eq_false_iff_not] at *); unfold lenP; (repeat' split) <;> first | rfl | omega)
theorem wrap_i16' (n : Int) : IntKind.i16.wrap n = (n + 32768) % 65536 - 32768 := by
  simp only [IntKind.wrap, IntKind.bits, IntKind.signed]
  simp
  omega
theorem wrap_s16 {j : Int} (h : 0 ≤ j ∧ j < 65536) : IntKind.i16.wrap j = s16 j := by
  rw [wrap_i16']
  unfold s16
  split <;> omega
theorem target_any (pc j : Int) (w : World) (hp : 0 ≤ pc ∧ pc ≤ 140737488355328) (hj : 0 ≤ j ∧ j < 65536) :
    Calls Tryd.prog 42 #[.int .i64 pc, .int .i64 j] w fun e w' => e = .returned (.int .i64 (pc + s16 j)) ∧ w = w' := by
  go_enter Tryd.func42, Tryd.ntmps42
  go_wp2
  go_ret
  refine ⟨ret_i ?_, rfl⟩
  rw [wrap_s16 hj]
  have := s16_bd hj
  unfold wrap64
  omega
theorem within_any (n m : Int) (w : World) :
    Calls Tryd.prog 50 #[.int .i64 n, .int .i64 m] w fun e w' => e = .returned (.bool (decide (0 ≤ n ∧ n ≤ m))) ∧ w = w' := by
  go_enter Tryd.func50, Tryd.ntmps50
  go_wp2
  all_goals (go_ret; refine ⟨ret_b ?_, rfl⟩; first | (rw [Bool.eq_iff_iff]; simp; omega) | (simp; omega))
/-- The place of the first instruction that stands there. -/
theorem idx_step {l : List In} {pc : Int} {k : Nat} {x : In} (h : l[k]? = some x) (hn : ∀ (j : Nat) (y : In), j < k → l[j]? = some y → y.pc ≠ pc) (hx : x.pc = pc) : idxP l pc = k := by
  have hk : k < l.length := (List.getElem?_eq_some_iff.1 h).1
  unfold idxP
  have : l.findIdx? (fun x => x.pc == pc) = some k := by
    rw [List.findIdx?_eq_some_iff_getElem]
    refine ⟨hk, ?_, fun j hj => ?_⟩
    · rw [List.getElem?_eq_getElem hk] at h
      simp only [Option.some.injEq] at h
      rw [h]; simpa using hx
    · have := hn j _ hj (List.getElem?_eq_getElem (by omega))
      simpa using this
  rw [this]
theorem idx_none {l : List In} {pc : Int} (hn : ∀ (j : Nat) (y : In), l[j]? = some y → y.pc ≠ pc) : idxP l pc = -1 := by
  unfold idxP
  have : l.findIdx? (fun x => x.pc == pc) = none := by
    rw [List.findIdx?_eq_none_iff]
    intro x hx
    obtain ⟨j, hj⟩ := List.mem_iff_getElem?.1 hx
    simpa using hn j x hj
  rw [this]
set_option maxHeartbeats 1600000 in
theorem Index_any (B : Nat) (l : List In) (v : Value) (pc : Int) (w : World) (hr : NRow B w v l) (hB : B ≤ w.heap.size) :
    Calls Tryd.prog 22 #[v, .int .i64 pc] w fun e w' => e = .returned (.int .i64 (idxP l pc)) ∧ Below w.heap.size w w' := by
  obtain ⟨A, c, rfl, hc, hm⟩ := hr.form
  have HR := Lib.hid hr
  unfold maxLen at hm
  clear hr
  go_enter Tryd.func22, Tryd.ntmps22
  go_wp2
  go_loopw [9] (fun i wr => ∃ k : Nat, k ≤ l.length ∧ i = .int .i64 k ∧ (∀ (j : Nat) (y : In), j < k → l[j]? = some y → y.pc ≠ pc) ∧ Below w.heap.size w wr) (fun i _ => l.length - (intOf i).toNat)
  case atStart => exact ⟨0, Nat.zero_le _, rfl, fun j y hj => by omega, Below.refl _ _⟩
  case round =>
    obtain ⟨k, hk, rfl, hne, hb⟩ := hrel
    have HNE := Lib.hid hne
    have HBE := Lib.hid hb
    have hsz := hb.size
    clear hne hb
    by_cases hlt : k < l.length
    · have hx := List.getElem?_eq_getElem hlt
      generalize l[k] = x at hx
      obtain ⟨b, o, Ak, ck, At, ct, rfl, hbB, _, _, c0, c1, c2, c3, c4⟩ := (HR.out.below HBE.out hB).at_ hx
      have HX := Lib.hid hx
      clear hx
      by_cases hp : x.pc = pc
      · have e1 : (x.pc == pc) = true := by simpa using hp
        have HP := Lib.hid hp
        clear hp
        go_wp2
        go_ret
        exact ⟨ret_i (idx_step HX.out HNE.out HP.out).symm, HBE.out.alloc hsz _⟩
      · have e1 : (x.pc == pc) = false := by simpa using hp
        have HP := Lib.hid hp
        clear hp
        go_wp2
        go_roundw
        case rel =>
          refine ⟨k + 1, by omega, by go_num, fun j y hj hy => ?_, ?_⟩
          · rcases Nat.lt_or_eq_of_le (Nat.le_of_lt_succ hj) with h | rfl
            · exact HNE.out j y h hy
            · rw [HX.out] at hy; cases hy; exact HP.out
          · exact HBE.out.alloc hsz _
        case measure => simp [intOf]; omega
    · go_wp2
      go_ret
      refine ⟨ret_i (idx_none fun j y hy => HNE.out j y (by have := (List.getElem?_eq_some_iff.1 hy).1; omega) hy).symm, HBE.out⟩
set_option maxHeartbeats 1600000 in
theorem refIndex_any (B : Nat) (l : List In) (v : Value) (pc : Int) (w : World) (hr : NRow B w v l) (hB : B ≤ w.heap.size) :
    Calls Tryd.prog 23 #[v, .int .i64 pc] w fun e w' => e = .returned (.int .i64 (idxP l pc)) ∧ Below w.heap.size w w' := by
  obtain ⟨A, c, rfl, hc, hm⟩ := hr.form
  have HR := Lib.hid hr
  unfold maxLen at hm
  clear hr
  go_enter Tryd.func23, Tryd.ntmps23
  go_wp2
  go_loopw [5] (fun i wr => ∃ k : Nat, k ≤ l.length ∧ i = .int .i64 k ∧ (∀ (j : Nat) (y : In), j < k → l[j]? = some y → y.pc ≠ pc) ∧ Below w.heap.size w wr) (fun i _ => l.length - (intOf i).toNat)
  case atStart => exact ⟨0, Nat.zero_le _, rfl, fun j y hj => by omega, Below.refl _ _⟩
  case round =>
    obtain ⟨k, hk, rfl, hne, hb⟩ := hrel
    have HNE := Lib.hid hne
    have HBE := Lib.hid hb
    have hsz := hb.size
    clear hne hb
    by_cases hlt : k < l.length
    · have hx := List.getElem?_eq_getElem hlt
      generalize l[k] = x at hx
      obtain ⟨b, o, Ak, ck, At, ct, rfl, hbB, _, _, c0, c1, c2, c3, c4⟩ := (HR.out.below HBE.out hB).at_ hx
      have HX := Lib.hid hx
      clear hx
      by_cases hp : x.pc = pc
      · have e1 : (x.pc == pc) = true := by simpa using hp
        have HP := Lib.hid hp
        clear hp
        go_wp2
        go_ret
        exact ⟨ret_i (idx_step HX.out HNE.out HP.out).symm, HBE.out⟩
      · have e1 : (x.pc == pc) = false := by simpa using hp
        have HP := Lib.hid hp
        clear hp
        go_wp2
        go_roundw
        case rel =>
          refine ⟨k + 1, by omega, by go_num, fun j y hj hy => ?_, ?_⟩
          · rcases Nat.lt_or_eq_of_le (Nat.le_of_lt_succ hj) with h | rfl
            · exact HNE.out j y h hy
            · rw [HX.out] at hy; cases hy; exact HP.out
          · exact HBE.out
        case measure => simp [intOf]; omega
    · go_wp2
      go_ret
      refine ⟨ret_i (idx_none fun j y hy => HNE.out j y (by have := (List.getElem?_eq_some_iff.1 hy).1; omega) hy).symm, HBE.out⟩
end Go.Proofs.YtjdaaecbnhcoaaaDoor
