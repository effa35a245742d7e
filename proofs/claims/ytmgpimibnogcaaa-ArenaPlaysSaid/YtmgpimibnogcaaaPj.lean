/-
  What is taken and given back leaves the arena as it was.
-/
import Derived.Test.YtmgpimibnogcaaaPi
set_option linter.unusedVariables false
set_option linter.unusedSimpArgs false
namespace Go.Proofs.Ytmgpimibnogcaaa
open Go.RowKit

theorem freeBk_of {c : Blk} (hu : c.us = false) (hb : c.body = List.replicate c.body.length PZ) : freeBk c.sz = c := by
  unfold freeBk
  rw [show c.sz - 1 = c.body.length from rfl, ← hb, ← hu]
theorem arena_again (q p b : Nat) (pre post : List Blk) (c : Blk) (n : Nat) (w : World) (hw : Wf (pre ++ c :: post)) (hu : c.us = false) (hn : n + 1 ≤ c.sz) (h : Arena q p b (pre ++ takeB n c ++ post) w) :
    Calls Try.prog 19 #[.pointer (some ⟨q, 0, none⟩), .int .i64 ((1 + len pre : Nat) : Int)] w fun e w' => e = .returned (.int .i64 0) ∧ Arena q p b (pre ++ c :: post) w' ∧ Upd [q, p, b] w w' := by
  have hp := hw.pois c (by simp) hu
  have hl := noAdj_last pre c post hw.adj hu
  have hr := noAdj_head (noAdj_right hw.adj) hu
  obtain ⟨a, R, ht, ha, hR, hz⟩ : ∃ (a : Blk) (R : List Blk), takeB n c = a :: R ∧ a.us = true ∧ (R = [] ∨ ∃ f, R = [f] ∧ f.us = false) ∧ a.sz + len R = c.sz := by
    have h1 := takeB_len n c hn
    unfold takeB at h1 ⊢
    by_cases hq : n + 3 ≤ c.sz
    · rw [if_pos hq] at h1 ⊢
      exact ⟨_, _, rfl, rfl, .inr ⟨_, rfl, rfl⟩, by rw [len_cons] at h1; exact h1⟩
    · rw [if_neg hq] at h1 ⊢
      exact ⟨_, _, rfl, rfl, .inl rfl, by rw [len_cons] at h1; exact h1⟩
  rw [ht, List.append_assoc, List.cons_append] at h
  refine (arena_free q p b pre (R ++ post) a w h ha).mono ?_
  rintro e w' ⟨rfl, pre1, dl, er, post1, h1, h2, h3, h4, h5, h6⟩
  have e1 : dl = [] := by
    rcases h3 with ⟨h3, _⟩ | ⟨d, rfl, hd⟩
    · exact h3
    · have := hl d (by rw [h1]; simp)
      rw [hd] at this
      exact Bool.noConfusion this
  subst e1
  rw [List.append_nil] at h1
  subst h1
  have e2 : er = R ∧ post1 = post := by
    rcases hR with rfl | ⟨f, rfl, hf⟩
    · rcases h4 with ⟨rfl, _⟩ | ⟨d, rfl, hd⟩
      · exact ⟨rfl, h2.symm⟩
      · have := hr d (by rw [List.nil_append] at h2; rw [h2]; rfl)
        rw [hd] at this
        exact Bool.noConfusion this
    · rcases h4 with ⟨_, h4⟩ | ⟨d, rfl, hd⟩
      · have := h4 f rfl
        rw [hf] at this
        exact Bool.noConfusion this
      · rw [List.cons_append, List.cons_append, List.nil_append, List.nil_append, List.cons.injEq] at h2
        exact ⟨by rw [h2.1], h2.2.symm⟩
  obtain ⟨rfl, rfl⟩ := e2
  rw [len_nil, Nat.zero_add, hz, freeBk_of hu hp] at h5
  exact ⟨rfl, h5, h6⟩
/-- The two sums of words. -/
def sumOf (st : Bool) : List Blk → Nat
  | [] => 0
  | b :: r => (if b.us = st then b.sz else 0) + sumOf st r
theorem sumOf_all : ∀ Bs : List Blk, sumOf true Bs + sumOf false Bs = len Bs
  | [] => rfl
  | b :: r => by
    have := sumOf_all r
    rw [sumOf, sumOf, len_cons]
    cases hb : b.us
    · rw [if_neg (by decide), if_pos rfl]; omega
    · rw [if_pos rfl, if_neg (by decide)]; omega
end Go.Proofs.Ytmgpimibnogcaaa
