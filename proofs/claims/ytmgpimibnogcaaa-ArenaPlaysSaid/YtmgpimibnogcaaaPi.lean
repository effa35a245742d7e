/-
  Size, Read, Write, Raw over the arena of blocks.
-/
import Derived.Test.YtmgpimibnogcaaaPh
set_option linter.unusedVariables false
set_option linter.unusedSimpArgs false
namespace Go.Proofs.Ytmgpimibnogcaaa
open Go.RowKit

/-- No used block begins at x. -/
def NoUsed (Bs : List Blk) (x : Int) : Prop := ∀ b, 0 < x → At Bs x.toNat b → b.us = false
section
variable {q p b : Nat} {Bs pre post : List Blk} {c : Blk} {w : World}
theorem isW_none (hw : Wf Bs) {x : Int} (h : NoUsed Bs x) : isW (words Bs) (ahs Bs) 1 x = false := by
  rw [← Bool.not_eq_true]
  intro hi
  obtain ⟨b, h0, h1, h2⟩ := (isW_at hw true x).1 hi
  rw [h b h0 h1] at h2
  exact Bool.noConfusion h2
theorem isW_used (hw : Wf (pre ++ c :: post)) (hu : c.us = true) : isW (words (pre ++ c :: post)) (ahs (pre ++ c :: post)) 1 ((1 + len pre : Nat) : Int) = true :=
  (isW_at hw true ((1 + len pre : Nat) : Int)).2 ⟨c, by omega, by rw [Int.toNat_natCast]; exact ⟨pre, post, rfl, rfl⟩, hu⟩
theorem arena_free_none (h : Arena q p b Bs w) (x : Int) (hx : NoUsed Bs x) :
    Calls Try.prog 19 #[.pointer (some ⟨q, 0, none⟩), .int .i64 x] w fun e w' => e = .returned (.int .i64 24) ∧ w' = w :=
  free_none q p b _ _ _ w h.2 (wf_good h.1) x (isW_none h.1 hx)
theorem arena_size_none (h : Arena q p b Bs w) (x : Int) (hx : NoUsed Bs x) :
    Calls Try.prog 18 #[.pointer (some ⟨q, 0, none⟩), .int .i64 x] w fun e w' => e = .returned (.tuple #[.int .i64 0, .bool false]) ∧ w' = w :=
  sizeOf_none h.2 (wf_good h.1) x (isW_none h.1 hx)
theorem arena_size (h : Arena q p b (pre ++ c :: post) w) (hu : c.us = true) :
    Calls Try.prog 18 #[.pointer (some ⟨q, 0, none⟩), .int .i64 ((1 + len pre : Nat) : Int)] w fun e w' => e = .returned (.tuple #[.int .i64 (c.body.length : Int), .bool true]) ∧ ∃ n, w' = w.drewN n := by
  have hat : At (pre ++ c :: post) (1 + len pre) c := ⟨pre, post, rfl, rfl⟩
  obtain ⟨h1, h2, h3⟩ := hat.head h.1
  have := sizeOf_used h.2 (wf_good h.1) (1 + len pre) c.hd (isW_used h.1 hu) h1 h2 h3 (by rw [hat.szW]; exact hat.fits)
  rw [hat.szW] at this
  exact this
theorem arena_read_none (h : Arena q p b Bs w) (x i : Int) (hx : NoUsed Bs x) :
    Calls Try.prog 26 #[.pointer (some ⟨q, 0, none⟩), .int .i64 x, .int .i64 i] w fun e w' => e = .returned (.tuple #[.int .i64 0, .int .i64 24]) ∧ w' = w :=
  read_none h.2 (wf_good h.1) x i (isW_none h.1 hx)
theorem arena_read_bad (h : Arena q p b (pre ++ c :: post) w) (hu : c.us = true) (i : Int) (hi : ¬ (0 ≤ i ∧ i < (c.body.length : Int))) :
    Calls Try.prog 26 #[.pointer (some ⟨q, 0, none⟩), .int .i64 ((1 + len pre : Nat) : Int), .int .i64 i] w fun e w' => e = .returned (.tuple #[.int .i64 0, .int .i64 1]) ∧ ∃ n, w' = w.drewN n := by
  have hat : At (pre ++ c :: post) (1 + len pre) c := ⟨pre, post, rfl, rfl⟩
  obtain ⟨h1, h2, h3⟩ := hat.head h.1
  exact read_bad h.2 (wf_good h.1) (1 + len pre) c.hd i (isW_used h.1 hu) h1 h2 h3 (by rw [hat.szW]; exact hat.fits) (by rw [hat.szW]; exact hi)
theorem arena_read (h : Arena q p b (pre ++ c :: post) w) (hu : c.us = true) (j : Nat) (v : Int) (hv : c.body[j]? = some v) :
    Calls Try.prog 26 #[.pointer (some ⟨q, 0, none⟩), .int .i64 ((1 + len pre : Nat) : Int), .int .i64 (j : Int)] w fun e w' => e = .returned (.tuple #[.int .i64 v, .int .i64 0]) ∧ ∃ n, w' = w.drewN n := by
  have hat : At (pre ++ c :: post) (1 + len pre) c := ⟨pre, post, rfl, rfl⟩
  obtain ⟨h1, h2, h3⟩ := hat.head h.1
  have hj : j < c.body.length := (List.getElem?_eq_some_iff.1 hv).1
  exact read_ok h.2 (wf_good h.1) (1 + len pre) j c.hd v (isW_used h.1 hu) h1 h2 h3 (by rw [hat.szW]; exact hat.fits) (by rw [hat.szW]; exact hj) (by rw [words_body pre c post j hj]; exact hv)
theorem arena_write_none (h : Arena q p b Bs w) (x i v : Int) (hx : NoUsed Bs x) :
    Calls Try.prog 20 #[.pointer (some ⟨q, 0, none⟩), .int .i64 x, .int .i64 i, .int .i64 v] w fun e w' => e = .returned (.int .i64 24) ∧ w' = w :=
  write_none h.2 (wf_good h.1) x i v (isW_none h.1 hx)
theorem arena_write_bad (h : Arena q p b (pre ++ c :: post) w) (hu : c.us = true) (i v : Int) (hi : ¬ (0 ≤ i ∧ i < (c.body.length : Int))) :
    Calls Try.prog 20 #[.pointer (some ⟨q, 0, none⟩), .int .i64 ((1 + len pre : Nat) : Int), .int .i64 i, .int .i64 v] w fun e w' => e = .returned (.int .i64 1) ∧ ∃ n, w' = w.drewN n := by
  have hat : At (pre ++ c :: post) (1 + len pre) c := ⟨pre, post, rfl, rfl⟩
  obtain ⟨h1, h2, h3⟩ := hat.head h.1
  exact write_bad h.2 (wf_good h.1) (1 + len pre) c.hd i v (isW_used h.1 hu) h1 h2 h3 (by rw [hat.szW]; exact hat.fits) (by rw [hat.szW]; exact hi)
/-- A block's word turned. -/
def putW (c : Blk) (j : Nat) (v : Int) : Blk := ⟨c.us, c.body.set j v⟩
theorem putW_sz (c : Blk) (j : Nat) (v : Int) : (putW c j v).sz = c.sz := by
  show (c.body.set j v).length + 1 = _
  rw [List.length_set]
  rfl
theorem words_putW (pre post : List Blk) (c : Blk) (j : Nat) (v : Int) (hj : j < c.body.length) : (words (pre ++ c :: post)).set (1 + len pre + 1 + j) v = words (pre ++ putW c j v :: post) := by
  have hh : (putW c j v).hd = c.hd := by unfold Blk.hd; rw [putW_sz]; rfl
  rw [words_split, words_split, hh, List.set_append_right (h := by rw [words_length]; omega), words_length, show 1 + len pre + 1 + j - (1 + len pre) = j + 1 by omega]
  rw [List.cons_append, List.set_cons_succ, List.set_append_left (h := hj)]
  rfl
theorem ahs_putW (pre post : List Blk) (c : Blk) (j : Nat) (v : Int) : ahs (pre ++ c :: post) = ahs (pre ++ putW c j v :: post) := by
  rw [ahs_split, ahs_split, putW_sz]
  show _ = ahs pre ++ (lastSz 1 pre :: List.replicate (c.body.set j v).length 0 ++ notes c.sz post)
  rw [List.length_set]
theorem freeAt_putW (pre post : List Blk) (c : Blk) (j : Nat) (v : Int) : FreeAt (pre ++ c :: post) = FreeAt (pre ++ putW c j v :: post) := by
  funext x
  apply propext
  rw [freeAt_append, freeAt_append]
  simp only [freeAt_cons]
  rw [putW_sz]
  rfl
theorem wf_putW {j : Nat} {v : Int} (h : Wf (pre ++ c :: post)) (hu : c.us = true) : Wf (pre ++ putW c j v :: post) := by
  have hl : (words (pre ++ putW c j v :: post)).length = (words (pre ++ c :: post)).length := by
    rw [words_length, words_length, len_append, len_append, len_cons, len_cons, putW_sz]
  have ho : ∀ d ∈ pre ++ putW c j v :: post, d ∈ pre ++ c :: post ∨ d = putW c j v := by
    intro d hd
    simp only [List.mem_append, List.mem_cons] at hd ⊢
    rcases hd with hd | hd | hd
    · exact .inl (.inl hd)
    · exact .inr hd
    · exact .inl (.inr (.inr hd))
  refine ⟨fun d hd => ?_, fun d hd hf => ?_, noAdj_swap pre c (putW c j v) post h.adj rfl, by rw [hl]; exact h.n1, by rw [hl]; exact h.n2⟩
  · rcases ho d hd with hd | rfl
    · exact h.body d hd
    · show 1 ≤ (c.body.set j v).length
      rw [List.length_set]
      exact h.body c (by simp)
  · rcases ho d hd with hd | rfl
    · exact h.pois d hd hf
    · rw [show (putW c j v).us = c.us from rfl, hu] at hf
      exact Bool.noConfusion hf
theorem arena_write (h : Arena q p b (pre ++ c :: post) w) (hu : c.us = true) (j : Nat) (v : Int) (hj : j < c.body.length) :
    Calls Try.prog 20 #[.pointer (some ⟨q, 0, none⟩), .int .i64 ((1 + len pre : Nat) : Int), .int .i64 (j : Int), .int .i64 v] w fun e w' => e = .returned (.int .i64 0) ∧ Arena q p b (pre ++ putW c j v :: post) w' ∧ Upd [p] w w' := by
  have hat : At (pre ++ c :: post) (1 + len pre) c := ⟨pre, post, rfl, rfl⟩
  obtain ⟨h1, h2, h3⟩ := hat.head h.1
  have hP : ¬ FreeAt (pre ++ c :: post) (1 + len pre + 1 + j) := by
    rintro ⟨d, hd, _⟩
    exact hat.apart (j := 1 + j) (by omega) (by unfold Blk.sz; omega) d (by rw [← Nat.add_assoc]; exact hd)
  refine (write_ok h.2 (wf_good h.1) (1 + len pre) j c.hd v (isW_used h.1 hu) h1 h2 h3 (by rw [hat.szW]; exact hat.fits) (by rw [hat.szW]; exact hj) hP).mono ?_
  rintro e w' ⟨rfl, hm, hU⟩
  rw [words_putW pre post c j v hj, ahs_putW pre post c j v, freeAt_putW pre post c j v] at hm
  exact ⟨rfl, ⟨wf_putW h.1 hu, hm⟩, hU⟩
theorem arena_raw (h : Arena q p b Bs w) (i : Int) :
    Calls Try.prog 23 #[.pointer (some ⟨q, 0, none⟩), .int .i64 i] w fun e w' => e = .returned (if 0 ≤ i ∧ i < (words Bs).length then .tuple #[.int .i64 ((words Bs)[i.toNat]?.getD 0), .bool true] else .tuple #[.int .i64 0, .bool false]) ∧ w' = w :=
  raw_any h.2 i
end
end Go.Proofs.Ytmgpimibnogcaaa
