/-
  PRUNED by wip/tools/prunem.py: what these texts need of an earlier stage's.
-/
import Derived.Test.YtcgloepfnnfioaaW7
set_option linter.unusedVariables false
set_option linter.unusedSimpArgs false
namespace Go.Proofs.Ytcgloepfnnfioaa
open Go.RowKit

def nameGo (k : Nat) (rs : List Nat) : Bool := decide (rs.length + k ≤ 64) && rs.all fun (r : Nat) => nameB (r : Int)
def nameL (l : List UInt8) : Bool := nameGo 0 (runes l) && decide (0 < (runes l).length) && validL l
theorem nameGo_cons (k r : Nat) (rs : List Nat) : nameGo k (r :: rs) = (nameB (r : Int) && nameGo (k + 1) rs) := by
  unfold nameGo
  rw [Bool.eq_iff_iff]
  simp only [List.length_cons, List.all_cons, Bool.and_eq_true, decide_eq_true_eq]
  constructor
  · rintro ⟨a, b, c⟩; exact ⟨b, by omega, c⟩
  · rintro ⟨a, b, c⟩; exact ⟨by omega, a, c⟩
theorem nameRune_true (r : Int) (w : World) (h : nameB r = true) : Calls Try.prog 123 #[.int .i32 r] w fun e w' => e = .returned (.bool true) ∧ w = w' := by
  have := nameRune_any r w
  rwa [h] at this
theorem nameRune_false (r : Int) (w : World) (h : nameB r = false) : Calls Try.prog 123 #[.int .i32 r] w fun e w' => e = .returned (.bool false) ∧ w = w' := by
  have := nameRune_any r w
  rwa [h] at this
set_option maxRecDepth 1000000 in
set_option maxHeartbeats 800000 in
theorem Name_any (s : ByteArray) (w : World) :
    Calls Try.prog 116 #[.string s] w fun e w' => e = .returned (.bool (nameL (L s))) ∧ Below w.heap.size w w' := by
  go_enter Try.func116, Try.ntmps116
  go_wp2
  go_loopw [3, 5] (fun n _ w' => ∃ pos k : Nat, w' = w.iter s pos ∧ n = .int .i64 k ∧ k ≤ 64 ∧ nameGo k (runes ((L s).drop pos)) = nameGo 0 (runes (L s)) ∧ k + (runes ((L s).drop pos)).length = (runes (L s)).length) (fun _ _ w' => s.size - w'.iterPos w.heap.size)
  case atStart => exact ⟨0, 0, rfl, rfl, by omega, by simp, by simp⟩
  case round =>
    obtain ⟨pos, k, rfl, rfl, hk, hgo, hcnt⟩ := hrel
    have HGO := Lib.hid hgo
    have HC := Lib.hid hcnt
    clear hgo hcnt
    by_cases hp : pos < s.size
    · obtain ⟨r, j, e1, _, hj, hjs, hsc, e2, _⟩ := step_at hp
      have hnx : ∀ ty, (Instr.next (.pointer (some ⟨w.heap.size, 0, none⟩)) true ty).run Try.prog (w.iter s pos) = _ := fun ty => run_next_any w s pos ty hp
      rw [e1] at hnx
      have E2 := Lib.hid e2
      clear e1 e2
      by_cases h64 : k = 64
      · subst h64
        have hres := Lib.hid (show nameL (L s) = false by
          unfold nameL
          rw [← HGO.out, E2.out]
          have : nameGo 64 (r :: runes ((L s).drop (pos + j))) = false := by
            unfold nameGo
            rw [decide_eq_false (by simp), Bool.false_and]
          rw [this]
          rfl)
        go_wp2
        go_ret
        exact ⟨ret_bool hres.out.symm, (Below.refl _ _).alloc (Nat.le_refl _) _⟩
      · by_cases hnb : nameB (r : Int) = true
        · have HN := fun W => Lib.hid (nameRune_true (r : Int) W hnb)
          have HNB := Lib.hid hnb
          clear hnb
          go_wp2_with (go_at_call 123; refine (HN _).out.mono ?_; rintro e w' ⟨rfl, rfl⟩)
          go_roundw
          case rel =>
            refine ⟨pos + j, k + 1, rfl, by go_num, by omega, ?_, ?_⟩
            · rw [← HGO.out, E2.out, nameGo_cons, HNB.out, Bool.true_and]
            · have := HC.out
              rw [E2.out] at this
              simp only [List.length_cons] at this
              omega
          case measure => simp; omega
        · have hnb' : nameB (r : Int) = false := by simpa using hnb
          have HN := fun W => Lib.hid (nameRune_false (r : Int) W hnb')
          have hres := Lib.hid (show nameL (L s) = false by
            unfold nameL
            rw [← HGO.out, E2.out, nameGo_cons, hnb']
            rfl)
          clear hnb hnb'
          go_wp2_with (go_at_call 123; refine (HN _).out.mono ?_; rintro e w' ⟨rfl, rfl⟩)
          go_ret
          exact ⟨ret_bool hres.out.symm, (Below.refl _ _).alloc (Nat.le_refl _) _⟩
    · have hnx : ∀ ty, (Instr.next (.pointer (some ⟨w.heap.size, 0, none⟩)) true ty).run Try.prog (w.iter s pos) = _ := fun ty => run_next_end w s pos ty hp
      have hlen : k = (runes (L s)).length := by
        have := HC.out
        rw [drop_end hp, runes_nil] at this
        simpa using this
      have hgo1 : nameGo 0 (runes (L s)) = true := by
        rw [← HGO.out, drop_end hp, runes_nil]
        unfold nameGo
        simp; omega
      have hB := (Below.refl w.heap.size w).alloc (Nat.le_refl _) (Obj.stringIter s pos)
      have hB : Below w.heap.size w (w.iter s pos) := hB
      by_cases hk0 : k = 0
      · have hres := Lib.hid (show nameL (L s) = false by
          unfold nameL
          rw [← hlen, hk0]
          simp)
        subst hk0
        clear hlen hgo1
        go_wp2
        go_ret
        exact ⟨ret_bool hres.out.symm, hB⟩
      · have hres := Lib.hid (show nameL (L s) = validL (L s) by
          unfold nameL
          rw [← hlen, hgo1, decide_eq_true (by omega), Bool.true_and, Bool.true_and])
        have HV := Lib.hid (valid_any s (w.iter s pos))
        have hws : w.heap.size ≤ (w.iter s pos).heap.size := hB.size
        clear hlen hgo1
        go_wp2_with (go_at_call 107; refine HV.out.mono ?_; rintro e w' ⟨rfl, hb2⟩)
        go_ret
        exact ⟨ret_bool hres.out.symm, hB.trans (hb2.mono hws)⟩
end Go.Proofs.Ytcgloepfnnfioaa
