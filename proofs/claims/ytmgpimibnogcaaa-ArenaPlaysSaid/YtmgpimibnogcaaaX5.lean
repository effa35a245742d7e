/-
  WALK of shown.
-/
import Derived.Test.YtmgpimibnogcaaaX4
set_option linter.unusedVariables false
set_option linter.unusedSimpArgs false
namespace Go.Proofs.Ytmgpimibnogcaaa
open Go.RowKit

/-- A used block of zeros. -/
def uz (n : Nat) : Blk := ⟨true, List.replicate n 0⟩
theorem step_below {q p b B : Nat} {w0 w w' : World} (h : Below B w0 w) (hu : Upd [q, p, b] w w') (hq : B ≤ q ∧ B ≤ p ∧ B ≤ b) (hB : B ≤ w0.heap.size) : Below B w0 w' :=
  h.trans (hu.below (fun x hx => by simp only [List.mem_cons, List.not_mem_nil, or_false] at hx; omega) (Nat.le_trans hB h.size))
section
variable {q p b : Nat} {w : World}
theorem s1 (h : Arena q p b [freeBk 19] w) : Calls Try.prog 23 #[.pointer (some ⟨q, 0, none⟩), .int .i64 1] w fun e w' => e = .returned (.tuple #[.int .i64 38, .bool true]) ∧ w' = w := arena_raw h 1
theorem s2 (h : Arena q p b [freeBk 19] w) : Calls Try.prog 23 #[.pointer (some ⟨q, 0, none⟩), .int .i64 2] w fun e w' => e = .returned (.tuple #[.int .i64 (-6148914691236517206), .bool true]) ∧ w' = w := arena_raw h 2
theorem s3 (h : Arena q p b [freeBk 19] w) : Calls Try.prog 22 #[.pointer (some ⟨q, 0, none⟩)] w fun e w' => e = .returned (.tuple #[.int .i64 0, .int .i64 19]) ∧ Below w.heap.size w w' := words_any q p b _ w h
theorem s4 (h : Arena q p b [freeBk 19] w) : Calls Try.prog 17 #[.pointer (some ⟨q, 0, none⟩), .int .i64 3] w fun e w' => e = .returned (.tuple #[.int .i64 1, .int .i64 0]) ∧ Arena q p b [uz 3, freeBk 15] w' ∧ Upd [q, p, b] w w' :=
  alloc_at (A := []) (C := []) h 3 (by decide) (by decide) rfl (by decide) (fun d hd => by simp at hd) (fun d hd => by simp at hd)
theorem s5 (h : Arena q p b [uz 3, freeBk 15] w) : Calls Try.prog 17 #[.pointer (some ⟨q, 0, none⟩), .int .i64 2] w fun e w' => e = .returned (.tuple #[.int .i64 5, .int .i64 0]) ∧ Arena q p b [uz 3, uz 2, freeBk 12] w' ∧ Upd [q, p, b] w w' :=
  alloc_at (A := [uz 3]) (C := []) h 2 (by decide) (by decide) rfl (by decide) (fun d hd hf => by rw [List.mem_singleton] at hd; subst hd; exact Bool.noConfusion hf) (fun d hd => by simp at hd)
theorem s6 (h : Arena q p b [uz 3, uz 2, freeBk 12] w) : Calls Try.prog 23 #[.pointer (some ⟨q, 0, none⟩), .int .i64 1] w fun e w' => e = .returned (.tuple #[.int .i64 9, .bool true]) ∧ w' = w := arena_raw h 1
theorem s7 (h : Arena q p b [uz 3, uz 2, freeBk 12] w) : Calls Try.prog 22 #[.pointer (some ⟨q, 0, none⟩)] w fun e w' => e = .returned (.tuple #[.int .i64 7, .int .i64 12]) ∧ Below w.heap.size w w' := words_any q p b _ w h
theorem s8 (h : Arena q p b [uz 3, uz 2, freeBk 12] w) : Calls Try.prog 24 #[.pointer (some ⟨q, 0, none⟩)] w fun e w' => ∃ v, e = .returned v ∧ IOwn w' w.heap.size v [1, 5] ∧ Below w.heap.size w w' := used_any q p b _ w h
theorem s9 (h : Arena q p b [uz 3, uz 2, freeBk 12] w) : Calls Try.prog 20 #[.pointer (some ⟨q, 0, none⟩), .int .i64 1, .int .i64 2, .int .i64 7] w fun e w' => e = .returned (.int .i64 0) ∧ Arena q p b [putW (uz 3) 2 7, uz 2, freeBk 12] w' ∧ Upd [q, p, b] w w' :=
  (arena_write (pre := []) h rfl 2 7 (by decide)).mono fun e w' h => ⟨h.1, h.2.1, h.2.2.mono (by simp)⟩
theorem s10 (h : Arena q p b [putW (uz 3) 2 7, uz 2, freeBk 12] w) : Calls Try.prog 26 #[.pointer (some ⟨q, 0, none⟩), .int .i64 1, .int .i64 2] w fun e w' => e = .returned (.tuple #[.int .i64 7, .int .i64 0]) ∧ ∃ k, w' = w.drewN k :=
  arena_read (pre := []) h rfl 2 7 rfl
theorem s11 (h : Arena q p b [putW (uz 3) 2 7, uz 2, freeBk 12] w) : Calls Try.prog 26 #[.pointer (some ⟨q, 0, none⟩), .int .i64 1, .int .i64 3] w fun e w' => e = .returned (.tuple #[.int .i64 0, .int .i64 1]) ∧ ∃ k, w' = w.drewN k :=
  arena_read_bad (pre := []) h rfl 3 (by decide)
theorem s12 (h : Arena q p b [putW (uz 3) 2 7, uz 2, freeBk 12] w) : Calls Try.prog 26 #[.pointer (some ⟨q, 0, none⟩), .int .i64 2, .int .i64 0] w fun e w' => e = .returned (.tuple #[.int .i64 0, .int .i64 24]) ∧ w' = w :=
  arena_read_none h 2 0 (fun b _ hb => by
    exact absurd hb (At.apart (j := 1) ⟨[], _, rfl, rfl⟩ (by decide) (by decide) b))
theorem s13 (h : Arena q p b [putW (uz 3) 2 7, uz 2, freeBk 12] w) : Calls Try.prog 19 #[.pointer (some ⟨q, 0, none⟩), .int .i64 1] w fun e w' => e = .returned (.int .i64 0) ∧ Arena q p b [freeBk 4, uz 2, freeBk 12] w' ∧ Upd [q, p, b] w w' := by
  refine (arena_free q p b [] [uz 2, freeBk 12] (putW (uz 3) 2 7) w h rfl).mono ?_
  rintro e w' ⟨rfl, pre1, dl, er, post1, h1, h2, h3, h4, h5, h6⟩
  obtain ⟨rfl, rfl⟩ : pre1 = [] ∧ dl = [] := List.append_eq_nil_iff.1 h1.symm
  rcases h4 with ⟨rfl, _⟩ | ⟨d, rfl, hd⟩
  · rw [List.nil_append] at h2
    subst h2
    exact ⟨rfl, h5, h6⟩
  · rw [List.cons_append, List.cons.injEq] at h2
    rw [← h2.1] at hd
    exact Bool.noConfusion hd
theorem s14 (h : Arena q p b [freeBk 4, uz 2, freeBk 12] w) : Calls Try.prog 17 #[.pointer (some ⟨q, 0, none⟩), .int .i64 2] w fun e w' => e = .returned (.tuple #[.int .i64 1, .int .i64 0]) ∧ Arena q p b [uz 3, uz 2, freeBk 12] w' ∧ Upd [q, p, b] w w' :=
  alloc_at (A := []) (C := [uz 2, freeBk 12]) h 2 (by decide) (by decide) rfl (by decide) (fun d hd => by simp at hd) (fun d hd hf _ => by
    simp only [List.mem_cons, List.not_mem_nil, or_false] at hd
    rcases hd with rfl | rfl
    · exact Bool.noConfusion hf
    · decide)
theorem s15 (h : Arena q p b [uz 3, uz 2, freeBk 12] w) : Calls Try.prog 17 #[.pointer (some ⟨q, 0, none⟩), .int .i64 1] w fun e w' => e = .returned (.tuple #[.int .i64 8, .int .i64 0]) ∧ Arena q p b [uz 3, uz 2, uz 1, freeBk 10] w' ∧ Upd [q, p, b] w w' :=
  alloc_at (A := [uz 3, uz 2]) (C := []) h 1 (by decide) (by decide) rfl (by decide) (fun d hd hf => by simp only [List.mem_cons, List.not_mem_nil, or_false] at hd; rcases hd with rfl | rfl <;> exact Bool.noConfusion hf) (fun d hd => by simp at hd)
theorem s16 (h : Arena q p b [uz 3, uz 2, uz 1, freeBk 10] w) : Calls Try.prog 17 #[.pointer (some ⟨q, 0, none⟩), .int .i64 20] w fun e w' => e = .returned (.tuple #[.int .i64 0, .int .i64 23]) ∧ ∃ k, w' = w.drewN k :=
  alloc_none h 20 (by decide) (by decide) (fun d hd hf => by
    simp only [List.mem_cons, List.not_mem_nil, or_false] at hd
    rcases hd with rfl | rfl | rfl | rfl <;> decide)
theorem s17 (h : Arena q p b [uz 3, uz 2, uz 1, freeBk 10] w) : Calls Try.prog 18 #[.pointer (some ⟨q, 0, none⟩), .int .i64 1] w fun e w' => e = .returned (.tuple #[.int .i64 3, .bool true]) ∧ ∃ k, w' = w.drewN k :=
  arena_size (pre := []) h rfl
end
theorem lit_own (w : World) (l : List Int) (hl : l.length ≤ maxLen) : IOwn (w.alloc (.cells (icells l).toArray 3)) w.heap.size (.slice (some ⟨w.heap.size, 0, none⟩) l.length l.length) l :=
  own_new (heap_new w _) (Nat.le_refl _) (by rw [icells_length, Nat.mul_one]) hl
set_option maxRecDepth 1000000 in
set_option maxHeartbeats 6400000 in
theorem shown_any (w : World) : Calls Try.prog 9 #[] w fun e w' => e = .returned (.bool true) ∧ Below w.heap.size w w' := by
  go_enter Try.func9, Try.ntmps9
  go_wp2_with fail
  refine (new_any 20 w (by decide) (by decide)).mono ?_
  rintro e w1 ⟨q, p, b, rfl, ha, hq, hb⟩
  have A := Lib.hid ha
  have QQ := Lib.hid hq
  have BE := Lib.hid hb
  clear ha hq hb
  go_wp2_with fail
  refine (s1 A.out).mono ?_
  rintro e w' ⟨rfl, rfl⟩
  go_wp2_with fail
  refine (s2 A.out).mono ?_
  rintro e w' ⟨rfl, rfl⟩
  go_wp2_with fail
  refine (s3 A.out).mono ?_
  rintro e w' ⟨rfl, hb⟩
  have A' := Lib.hid (A.out.below hb)
  have BE' := Lib.hid (BE.out.trans (hb.mono BE.out.size))
  clear A BE hb
  have A := A'
  have BE := BE'
  clear A' BE'
  go_wp2_with fail
  refine (s4 A.out).mono ?_
  rintro e w' ⟨rfl, ha, hu⟩
  have BE' := Lib.hid (step_below BE.out hu QQ.out (Nat.le_refl _))
  have A' := Lib.hid ha
  clear A BE ha hu
  have A := A'
  have BE := BE'
  clear A' BE'
  go_wp2_with fail
  refine (s5 A.out).mono ?_
  rintro e w' ⟨rfl, ha, hu⟩
  have BE' := Lib.hid (step_below BE.out hu QQ.out (Nat.le_refl _))
  have A' := Lib.hid ha
  clear A BE ha hu
  have A := A'
  have BE := BE'
  clear A' BE'
  go_wp2_with fail
  refine (s6 A.out).mono ?_
  rintro e w' ⟨rfl, rfl⟩
  go_wp2_with fail
  refine (s7 A.out).mono ?_
  rintro e w' ⟨rfl, hb⟩
  have A' := Lib.hid (A.out.below hb)
  have BE' := Lib.hid (BE.out.trans (hb.mono BE.out.size))
  clear A BE hb
  have A := A'
  have BE := BE'
  clear A' BE'
  go_wp2_with fail
  refine (s8 A.out).mono ?_
  rintro e w2 ⟨v, rfl, ho, hb⟩
  obtain ⟨av, cv, rfl⟩ := ho.form
  have O := Lib.hid ho
  have A' := Lib.hid (A.out.below hb)
  have BE' := Lib.hid (BE.out.trans (hb.mono BE.out.size))
  clear A BE hb ho
  have A := A'
  have BE := BE'
  clear A' BE'
  have A' := Lib.hid (A.out.below ((Below.refl _ w2).alloc (Nat.le_refl _) (.cells #[Value.int IntKind.i64 1, Value.int IntKind.i64 5] 3)))
  have BE' := Lib.hid (BE.out.alloc BE.out.size (.cells #[Value.int IntKind.i64 1, Value.int IntKind.i64 5] 3))
  have HS := Lib.hid (sameInts_any (w2.alloc (.cells #[Value.int IntKind.i64 1, Value.int IntKind.i64 5] 3)).heap.size [1, 5] [1, 5] _ _ _ (Row.more (IRow.alloc (Row.of_own O.out) (Nat.le_refl _) (.cells #[Value.int IntKind.i64 1, Value.int IntKind.i64 5] 3)) (by simp)) (Row.of_own (lit_own w2 [1, 5] (by decide))) (Nat.le_refl _))
  clear A BE
  have A := A'
  have BE := BE'
  clear A' BE'
  go_wp2_with fail
  refine HS.out.mono ?_
  rintro e w' ⟨rfl, hd⟩
  have A' := Lib.hid (A.out.below hd.below)
  have BE' := Lib.hid (BE.out.trans (hd.below.mono BE.out.size))
  clear A BE hd HS O
  have A := A'
  have BE := BE'
  clear A' BE'
  go_wp2_with fail
  refine (s9 A.out).mono ?_
  rintro e w' ⟨rfl, ha, hu⟩
  have BE' := Lib.hid (step_below BE.out hu QQ.out (Nat.le_refl _))
  have A' := Lib.hid ha
  clear A BE ha hu
  have A := A'
  have BE := BE'
  clear A' BE'
  go_wp2_with fail
  refine (s10 A.out).mono ?_
  rintro e w' ⟨rfl, k, hk⟩
  have A' := Lib.hid (show Arena q p b _ w' from by rw [hk]; exact A.out.drewN k)
  have BE' := Lib.hid (show Below w.heap.size w w' from by rw [hk]; exact below_drewN BE.out k)
  clear A BE hk
  have A := A'
  have BE := BE'
  clear A' BE'
  go_wp2_with fail
  refine (s11 A.out).mono ?_
  rintro e w' ⟨rfl, k, hk⟩
  have A' := Lib.hid (show Arena q p b _ w' from by rw [hk]; exact A.out.drewN k)
  have BE' := Lib.hid (show Below w.heap.size w w' from by rw [hk]; exact below_drewN BE.out k)
  clear A BE hk
  have A := A'
  have BE := BE'
  clear A' BE'
  go_wp2_with fail
  refine (s12 A.out).mono ?_
  rintro e w' ⟨rfl, rfl⟩
  go_wp2_with fail
  refine (s13 A.out).mono ?_
  rintro e w' ⟨rfl, ha, hu⟩
  have BE' := Lib.hid (step_below BE.out hu QQ.out (Nat.le_refl _))
  have A' := Lib.hid ha
  clear A BE ha hu
  have A := A'
  have BE := BE'
  clear A' BE'
  go_wp2_with fail
  refine (s14 A.out).mono ?_
  rintro e w' ⟨rfl, ha, hu⟩
  have BE' := Lib.hid (step_below BE.out hu QQ.out (Nat.le_refl _))
  have A' := Lib.hid ha
  clear A BE ha hu
  have A := A'
  have BE := BE'
  clear A' BE'
  go_wp2_with fail
  refine (s15 A.out).mono ?_
  rintro e w' ⟨rfl, ha, hu⟩
  have BE' := Lib.hid (step_below BE.out hu QQ.out (Nat.le_refl _))
  have A' := Lib.hid ha
  clear A BE ha hu
  have A := A'
  have BE := BE'
  clear A' BE'
  go_wp2_with fail
  refine (s16 A.out).mono ?_
  rintro e w' ⟨rfl, k, hk⟩
  have A' := Lib.hid (show Arena q p b _ w' from by rw [hk]; exact A.out.drewN k)
  have BE' := Lib.hid (show Below w.heap.size w w' from by rw [hk]; exact below_drewN BE.out k)
  clear A BE hk
  have A := A'
  have BE := BE'
  clear A' BE'
  go_wp2_with fail
  refine (s17 A.out).mono ?_
  rintro e w' ⟨rfl, k, hk⟩
  have A' := Lib.hid (show Arena q p b _ w' from by rw [hk]; exact A.out.drewN k)
  have BE' := Lib.hid (show Below w.heap.size w w' from by rw [hk]; exact below_drewN BE.out k)
  clear A BE hk
  have A := A'
  have BE := BE'
  clear A' BE'
  go_wp2
  go_ret
  exact ⟨rfl, BE.out⟩
end Go.Proofs.Ytmgpimibnogcaaa
