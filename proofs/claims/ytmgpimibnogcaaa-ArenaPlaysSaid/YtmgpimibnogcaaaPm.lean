/-
  Alloc where it is known what is taken; the used blocks' addresses.
-/
import Derived.Test.YtmgpimibnogcaaaPk
set_option linter.unusedVariables false
set_option linter.unusedSimpArgs false
namespace Go.Proofs.Ytmgpimibnogcaaa
open Go.RowKit

theorem where_is : ∀ {pre A : List Blk} {c' c : Blk} {post C : List Blk}, pre ++ c' :: post = A ++ c :: C → (∃ m, A = pre ++ c' :: m) ∨ (pre = A ∧ c' = c ∧ post = C) ∨ (∃ m, C = m ++ c' :: post ∧ pre = A ++ c :: m)
  | [], [], c', c, post, C, h => by
    rw [List.nil_append, List.nil_append, List.cons.injEq] at h
    exact .inr (.inl ⟨rfl, h.1, h.2⟩)
  | [], a :: A, c', c, post, C, h => by
    rw [List.nil_append, List.cons_append, List.cons.injEq] at h
    exact .inl ⟨A, by rw [h.1]; rfl⟩
  | x :: pre, [], c', c, post, C, h => by
    rw [List.nil_append, List.cons_append, List.cons.injEq] at h
    exact .inr (.inr ⟨pre, h.2.symm, by rw [h.1]; rfl⟩)
  | x :: pre, a :: A, c', c, post, C, h => by
    rw [List.cons_append, List.cons_append, List.cons.injEq] at h
    obtain ⟨rfl, h⟩ := h
    rcases where_is h with ⟨m, rfl⟩ | ⟨rfl, rfl, rfl⟩ | ⟨m, rfl, rfl⟩
    · exact .inl ⟨m, rfl⟩
    · exact .inr (.inl ⟨rfl, rfl, rfl⟩)
    · exact .inr (.inr ⟨m, rfl, rfl⟩)
section
variable {q p b : Nat} {Bs : List Blk} {w w' : World}
theorem alloc_none (h : Arena q p b Bs w) (n : Nat) (h1 : 1 ≤ n) (h2 : n ≤ 1048576) (hn : ∀ c ∈ Bs, c.us = false → c.sz < n + 1) :
    Calls Try.prog 17 #[.pointer (some ⟨q, 0, none⟩), .int .i64 (n : Int)] w fun e w' => e = .returned (.tuple #[.int .i64 0, .int .i64 23]) ∧ ∃ k, w' = w.drewN k := by
  refine (arena_alloc q p b Bs w h n).mono ?_
  rintro e w' (⟨h3, _, _⟩ | ⟨_, _, rfl, hk⟩ | ⟨_, pre, c, post, rfl, hf, hz, _⟩)
  · omega
  · exact ⟨rfl, hk⟩
  · have := hn c (by simp) hf
    omega
theorem alloc_at {A C : List Blk} {c : Blk} (h : Arena q p b (A ++ c :: C) w) (n : Nat) (h1 : 1 ≤ n) (h2 : n ≤ 1048576) (hu : c.us = false) (hz : n + 1 ≤ c.sz)
    (hA : ∀ d ∈ A, d.us = false → n + 1 ≤ d.sz → c.sz < d.sz) (hC : ∀ d ∈ C, d.us = false → n + 1 ≤ d.sz → c.sz ≤ d.sz) :
    Calls Try.prog 17 #[.pointer (some ⟨q, 0, none⟩), .int .i64 (n : Int)] w fun e w' => e = .returned (.tuple #[.int .i64 ((1 + len A : Nat) : Int), .int .i64 0]) ∧ Arena q p b (A ++ takeB n c ++ C) w' ∧ Upd [q, p, b] w w' := by
  refine (arena_alloc q p b _ w h n).mono ?_
  rintro e w' (⟨h3, _, _⟩ | ⟨_, hn, _, _⟩ | ⟨_, pre, d, post, he, hf, hz2, hm, rfl, ha, hU⟩)
  · omega
  · have := hn c (by simp) hu
    omega
  · rw [Int.toNat_natCast] at *
    have hmc := hm (1 + len A) c ⟨A, C, rfl, rfl⟩ hu hz
    rcases where_is he.symm with ⟨m, hm2⟩ | ⟨rfl, rfl, rfl⟩ | ⟨m, rfl, rfl⟩
    · have := hA d (by rw [hm2]; simp) hf hz2
      omega
    · exact ⟨rfl, ha, hU⟩
    · have := hC d (by simp) hf hz2
      rw [len_append, len_cons] at hmc
      have : 1 ≤ c.sz := by unfold Blk.sz; omega
      omega
end
/-- Where the used blocks begin. -/
def usedL : Nat → List Blk → List Int
  | _, [] => []
  | a, b :: r => (if b.us = true then [(a : Int)] else []) ++ usedL (a + b.sz) r
theorem usedL_append : ∀ (a : Nat) (A B : List Blk), usedL a (A ++ B) = usedL a A ++ usedL (a + len A) B
  | a, [], B => by rw [List.nil_append, len_nil]; rfl
  | a, x :: A, B => by rw [List.cons_append, usedL, usedL, usedL_append (a + x.sz) A B, List.append_assoc, len_cons, Nat.add_assoc]
theorem mem_usedL : ∀ {a : Nat} {Bs : List Blk} {x : Int}, x ∈ usedL a Bs → ∃ pre c post, Bs = pre ++ c :: post ∧ c.us = true ∧ x = ((a + len pre : Nat) : Int)
  | a, [], x, h => by simp [usedL] at h
  | a, b :: r, x, h => by
    rw [usedL, List.mem_append] at h
    rcases h with h | h
    · cases hb : b.us with
      | true =>
        rw [if_pos hb, List.mem_singleton] at h
        exact ⟨[], b, r, rfl, hb, by rw [h, len_nil]; rfl⟩
      | false => rw [if_neg (by rw [hb]; decide)] at h; simp at h
    · obtain ⟨pre, c, post, rfl, hu, hx⟩ := mem_usedL h
      exact ⟨b :: pre, c, post, rfl, hu, by rw [hx, len_cons, Nat.add_assoc]⟩
theorem usedL_at {a : Nat} {pre post : List Blk} {c : Blk} (hu : c.us = true) : ((a + len pre : Nat) : Int) ∈ usedL a (pre ++ c :: post) := by
  rw [usedL_append, usedL, if_pos hu]
  simp
theorem usedL_length : ∀ (a : Nat) (Bs : List Blk), (usedL a Bs).length ≤ len Bs
  | a, [] => Nat.le_refl _
  | a, b :: r => by
    have := usedL_length (a + b.sz) r
    have hb : 1 ≤ b.sz := by unfold Blk.sz; omega
    rw [usedL, List.length_append, len_cons]
    by_cases h : b.us = true
    · rw [if_pos h, List.length_singleton]; omega
    · rw [if_neg h, List.length_nil]; omega
end Go.Proofs.Ytmgpimibnogcaaa
