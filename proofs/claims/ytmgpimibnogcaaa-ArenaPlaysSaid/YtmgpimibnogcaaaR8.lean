/-
  WALK of alike: all words, and what Words and Used answer.
-/
import Derived.Test.YtmgpimibnogcaaaR7
set_option linter.unusedVariables false
set_option linter.unusedSimpArgs false
namespace Go.Proofs.Ytmgpimibnogcaaa
open Go.RowKit

theorem raw_out {q p b : Nat} {Bs : List Blk} {w : World} (h : Arena q p b Bs w) (i : Int) (hi : ¬ (0 ≤ i ∧ i < ((words Bs).length : Int))) :
    Calls Try.prog 23 #[.pointer (some ⟨q, 0, none⟩), .int .i64 i] w fun e w' => e = .returned (.tuple #[.int .i64 0, .bool false]) ∧ w' = w := by
  refine (arena_raw h i).mono ?_
  rintro e w' ⟨rfl, rfl⟩
  rw [if_neg hi]
  exact ⟨rfl, rfl⟩
set_option maxRecDepth 1000000 in
set_option maxHeartbeats 6400000 in
theorem alike_any (q p b r rp : Nat) (Bs : List Blk) (w : World) (h : Two q p b r rp Bs w) :
    Calls Try.prog 15 #[.pointer (some ⟨q, 0, none⟩), .pointer (some ⟨r, 0, none⟩)] w fun e w' => e = .returned (.bool true) ∧ Below w.heap.size w w' := by
  have HT := Lib.hid h
  have HWF := Lib.hid h.ar.1
  obtain ⟨hb1, hb2⟩ := wf_bound h.ar.1
  have hwl := words_length Bs
  have c0 := h.rm.box
  rw [hwl] at c0
  obtain ⟨N, hN⟩ : ∃ N, 1 + len Bs = N := ⟨_, rfl⟩
  rw [hN] at hwl c0 hb1 hb2
  have HWL := Lib.hid hwl
  obtain ⟨l1, l2⟩ := h.rm.lt
  have hul := usedL_length 1 Bs
  clear h hwl
  go_enter Try.func15, Try.ntmps15
  go_wp2
  go_loopg [5] (N + 2) (fun g iv wx => ∃ k : Nat, iv = .int .i64 ((k : Int) - 1) ∧ k + g = N + 2 ∧ wx = w)
  case atStart => exact ⟨0, rfl, by omega, rfl⟩
  case round =>
    obtain ⟨k, rfl, hkg, rfl⟩ := hrel
    by_cases hk0 : k = 0
    · subst hk0
      have HR := Lib.hid (raw_out HT.out.ar (-1) (by omega))
      have hgg : gk - 1 < gk := by omega
      rw [show ((0 : Nat) : Int) - 1 = -1 by rfl]
      have hn1 : (-1 : Int) ≤ (N : Int) := by omega
      go_wp2_with fail
      refine HR.out.mono ?_
      rintro e w' ⟨rfl, rfl⟩
      go_wp2
      go_roundg (gk - 1)
      case measure => exact hgg
      case rel => exact ⟨1, rfl, by omega, rfl⟩
    · obtain ⟨i, rfl⟩ : ∃ i, k = i + 1 := ⟨k - 1, by omega⟩
      have e1 : ((i + 1 : Nat) : Int) - 1 = (i : Int) := by omega
      rw [e1]
      clear e1
      by_cases hi : i < N
      · have hgg : gk - 1 < gk := by omega
        have hii : (i : Int) < (N : Int) := by omega
        have hil : (i : Int) ≤ (N : Int) := by omega
        have hi0 : ((i : Int) < 0) = False := eq_false (by omega)
        have hiN : ((N : Int) ≤ (i : Int)) = False := eq_false (by omega)
        obtain ⟨y, hy⟩ : ∃ y, (words Bs)[i]? = some y := ⟨_, List.getElem?_eq_getElem (by rw [HWL.out]; exact hi)⟩
        have HR := Lib.hid (arena_raw_nat HT.out.ar i y hy)
        have c1 := HT.out.rm.word hy
        have hyy : ((y == y) : Bool) = true := by simp
        clear hy
        go_wp2_with fail
        refine HR.out.mono ?_
        rintro e w' ⟨rfl, rfl⟩
        go_wp2
        go_roundg (gk - 1)
        case measure => exact hgg
        case rel => exact ⟨i + 2, by go_num, by omega, rfl⟩
      · by_cases hiN : i = N
        · subst hiN
          have hgg : gk - 1 < gk := by omega
          have HR := Lib.hid (raw_out HT.out.ar (i : Int) (by rw [HWL.out]; omega))
          have hil : (i : Int) ≤ (i : Int) := Int.le_refl _
          have hi0 : ((i : Int) < 0) = False := eq_false (by omega)
          go_wp2_with fail
          refine HR.out.mono ?_
          rintro e w' ⟨rfl, rfl⟩
          go_wp2
          go_roundg (gk - 1)
          case measure => exact hgg
          case rel => exact ⟨i + 2, by go_num, by omega, rfl⟩
        · have hil : ¬ (i : Int) ≤ (N : Int) := by omega
          have HW1 := Lib.hid (words_any q p b Bs _ HT.out.ar)
          obtain ⟨S, hS⟩ : ∃ S, sumOf true Bs = S := ⟨_, rfl⟩
          obtain ⟨F, hF⟩ : ∃ F, sumOf false Bs = F := ⟨_, rfl⟩
          rw [hS, hF] at HW1
          have HS := Lib.hid (And.intro hS hF)
          have hss : ((S : Int) == (S : Int)) = true := by simp
          have hff : ((F : Int) == (F : Int)) = true := by simp
          clear hS hF
          go_wp2_with fail
          refine HW1.out.mono ?_
          rintro e w1 ⟨rfl, hb1⟩
          have T1 := Lib.hid (HT.out.below hb1)
          have B1 := Lib.hid hb1
          have HW2 := Lib.hid (rwords_any r rp Bs _ HWF.out T1.out.rm)
          rw [HS.out.1, HS.out.2] at HW2
          clear hb1
          go_wp2_with fail
          refine HW2.out.mono ?_
          rintro e w' ⟨rfl, rfl⟩
          go_wp2_with fail
          refine (used_any q p b Bs _ T1.out.ar).mono ?_
          rintro e w2 ⟨v2, rfl, ho2, hb2⟩
          obtain ⟨a2, n2, rfl⟩ := ho2.form
          have T2 := Lib.hid (T1.out.below hb2)
          have B2 := Lib.hid (B1.out.trans (hb2.mono B1.out.size))
          have O2 := Lib.hid ho2
          clear hb2 ho2
          go_wp2_with fail
          refine (rusedl_any r rp Bs _ HWF.out T2.out.rm).mono ?_
          rintro e w3 ⟨v3, rfl, ho3, hb3⟩
          obtain ⟨a3, n3, rfl⟩ := ho3.form
          have B3 := Lib.hid (B2.out.trans (hb3.mono B2.out.size))
          have HSI := Lib.hid (sameInts_any w3.heap.size (usedL 1 Bs) (usedL 1 Bs) _ _ w3 (Row.more (IRow.below (Row.of_own O2.out) hb3 (Nat.le_refl _)) hb3.size) (Row.of_own ho3) (Nat.le_refl _))
          rw [decide_eq_true rfl] at HSI
          clear hb3 ho3 O2
          generalize (usedL 1 Bs).length = ul at *
          go_wp2_with fail
          refine HSI.out.mono ?_
          rintro e w4 ⟨rfl, hd⟩
          have B4 := Lib.hid (B3.out.trans (hd.below.mono B3.out.size))
          clear hd
          go_wp2
          go_ret
          exact ⟨rfl, B4.out⟩
end Go.Proofs.Ytmgpimibnogcaaa
