/-
  What Alloc and Free do to the used blocks' addresses; an arena with none used.
-/
import Derived.Test.YtmgpimibnogcaaaAg
set_option linter.unusedVariables false
set_option linter.unusedSimpArgs false
namespace Go.Proofs.Ytmgpimibnogcaaa
open Go.RowKit

theorem usedL_free (a : Nat) {c : Blk} (hu : c.us = false) : usedL a [c] = [] := by
  rw [usedL_one, if_neg (by rw [hu]; decide)]
theorem usedL_mid (a : Nat) (pre : List Blk) (c : Blk) (post : List Blk) : usedL a (pre ++ c :: post) = usedL a pre ++ (usedL (a + len pre) [c] ++ usedL (a + len pre + c.sz) post) := by
  rw [usedL_append, show c :: post = [c] ++ post from rfl, usedL_append, len_cons, len_nil, Nat.add_zero]
theorem usedL_takeB (a n : Nat) {c : Blk} (hz : n + 1 ≤ c.sz) : usedL a (takeB n c) = [(a : Int)] := by
  unfold takeB
  by_cases h : n + 3 ≤ c.sz
  · rw [if_pos h]
    rfl
  · rw [if_neg h]
    rfl
theorem usedL_take (pre : List Blk) (c : Blk) (post : List Blk) (n : Nat) (hu : c.us = false) (hz : n + 1 ≤ c.sz) :
    (usedL 1 (pre ++ takeB n c ++ post)).Perm (usedL 1 (pre ++ c :: post) ++ [((1 + len pre : Nat) : Int)]) := by
  rw [usedL_mid, usedL_free _ hu, List.nil_append, usedL_append, usedL_append, len_append, takeB_len n c hz, usedL_takeB _ n hz, List.append_assoc, List.append_assoc, ← Nat.add_assoc]
  exact (List.Perm.refl _).append (List.perm_append_comm)
theorem usedL_free_mid (pre1 dl er post1 : List Blk) (c : Blk) (hu : c.us = true) (hd : dl = [] ∨ ∃ d, dl = [d] ∧ d.us = false) (he : er = [] ∨ ∃ e, er = [e] ∧ e.us = false) :
    ∃ A C, usedL 1 ((pre1 ++ dl) ++ c :: (er ++ post1)) = A ++ ((1 + len (pre1 ++ dl) : Nat) : Int) :: C ∧ usedL 1 (pre1 ++ freeBk (len dl + c.sz + len er) :: post1) = A ++ C := by
  have h0 : ∀ (a : Nat) (l : List Blk), (l = [] ∨ ∃ d, l = [d] ∧ d.us = false) → usedL a l = [] := by
    rintro a l (rfl | ⟨d, rfl, h⟩)
    · rfl
    · exact usedL_free a h
  have hc : 1 ≤ c.sz := by unfold Blk.sz; omega
  refine ⟨usedL 1 pre1, usedL (1 + len pre1 + (len dl + c.sz + len er)) post1, ?_, ?_⟩
  · rw [usedL_mid, usedL_append, usedL_append _ er, h0 _ dl hd, h0 _ er he, usedL_one, if_pos hu, List.append_nil, List.nil_append, len_append]
    rw [show 1 + (len pre1 + len dl) + c.sz + len er = 1 + len pre1 + (len dl + c.sz + len er) by omega]
    rfl
  · rw [usedL_mid, usedL_free _ (show (freeBk (len dl + c.sz + len er)).us = false from rfl), List.nil_append, freeBk_sz (by omega)]
section
variable {q p b : Nat} {Bs : List Blk} {ls : List Int} {w : World}
theorem alloc_perm (hp : (usedL 1 Bs).Perm ls) (h : Arena q p b Bs w) (n : Nat) (h1 : 1 ≤ n) (h2 : n ≤ 1048576) :
    Calls Try.prog 17 #[.pointer (some ⟨q, 0, none⟩), .int .i64 (n : Int)] w fun e w' => ∃ x f : Int, e = .returned (.tuple #[.int .i64 x, .int .i64 f]) ∧ ((f = 23 ∧ Arena q p b Bs w') ∨ (f = 0 ∧ ∃ Bs', len Bs' = len Bs ∧ (usedL 1 Bs').Perm (ls ++ [x]) ∧ Arena q p b Bs' w')) ∧ Upd [q, p, b] w w' := by
  refine (arena_alloc q p b Bs w h n).mono ?_
  rintro e w' (⟨h3, _, _⟩ | ⟨_, _, rfl, k, rfl⟩ | ⟨_, pre, c, post, rfl, hf, hz, _, rfl, ha, hu⟩)
  · omega
  · exact ⟨_, _, rfl, .inl ⟨rfl, h.drewN k⟩, (Upd.refl _ _).drewN k⟩
  · refine ⟨_, _, rfl, .inr ⟨rfl, _, ?_, (usedL_take pre c post _ hf hz).trans (hp.append_right _), ha⟩, hu⟩
    rw [len_append, len_append, len_append, len_cons, takeB_len _ _ hz]
    omega
theorem free_perm {la lb : List Int} {x : Int} (hp : (usedL 1 Bs).Perm (la ++ x :: lb)) (h : Arena q p b Bs w) :
    Calls Try.prog 19 #[.pointer (some ⟨q, 0, none⟩), .int .i64 x] w fun e w' => e = .returned (.int .i64 0) ∧ (∃ Bs', len Bs' = len Bs ∧ (usedL 1 Bs').Perm (la ++ lb) ∧ Arena q p b Bs' w') ∧ Upd [q, p, b] w w' := by
  obtain ⟨pre, c, post, rfl, hu, rfl⟩ := mem_usedL (hp.mem_iff.2 (by simp) : x ∈ usedL 1 Bs)
  refine (arena_free q p b pre post c w h hu).mono ?_
  rintro e w' ⟨rfl, pre1, dl, er, post1, rfl, rfl, h3, h4, ha, hU⟩
  have hc : 1 ≤ c.sz := by unfold Blk.sz; omega
  obtain ⟨A, C, e1, e2⟩ := usedL_free_mid pre1 dl er post1 c hu (h3.imp (fun h => h.1) id) (h4.imp (fun h => h.1) id)
  refine ⟨rfl, ⟨_, ?_, ?_, ha⟩, hU⟩
  · rw [len_append, len_cons, len_append, len_append, len_cons, len_append, freeBk_sz (by omega)]
    omega
  · rw [e1] at hp
    rw [e2]
    exact ((List.perm_middle.symm.trans hp).trans List.perm_middle).cons_inv
end
theorem all_free : ∀ {a : Nat} {Bs : List Blk}, usedL a Bs = [] → ∀ c ∈ Bs, c.us = false
  | a, [], _, c, hc => by simp at hc
  | a, b :: r, h, c, hc => by
    rw [usedL, List.append_eq_nil_iff] at h
    rcases List.mem_cons.1 hc with rfl | hc
    · cases hu : c.us with
      | true => rw [if_pos hu] at h; simp at h
      | false => rfl
    · exact all_free h.2 c hc
theorem one_free {Bs : List Blk} (hw : Wf Bs) (h : usedL 1 Bs = []) : Bs = [freeBk (len Bs)] := by
  have hf := all_free h
  have hn := hw.n1
  rw [words_length] at hn
  match Bs, hf, hw, hn with
  | [], _, _, hn => rw [len_nil] at hn; omega
  | [c], hf, hw, _ =>
    have hu := hf c (by simp)
    rw [len_cons, len_nil, Nat.add_zero, freeBk_of hu (hw.pois c (by simp) hu)]
  | c :: d :: r, hf, hw, _ =>
    have h1 := hw.adj.1
    rw [hf c (by simp), hf d (by simp)] at h1
    rcases h1 with h1 | h1 <;> exact Bool.noConfusion h1
theorem words_one {N i : Nat} (h : 2 ≤ i) (hN : i < N) (h16 : 16 ≤ N) : (words [freeBk (N - 1)])[i]? = some PZ := by
  obtain ⟨j, rfl⟩ : ∃ j, i = j + 2 := ⟨i - 2, by omega⟩
  show (0 :: ((freeBk (N - 1)).hd :: List.replicate (N - 1 - 1) PZ ++ []))[j + 2]? = _
  rw [List.append_nil, List.getElem?_cons_succ, List.getElem?_cons_succ, List.getElem?_replicate, if_pos (by omega)]
theorem words_one1 {N : Nat} (h16 : 16 ≤ N) : (words [freeBk (N - 1)])[1]? = some (2 * ((N - 1 : Nat) : Int)) := by
  show (0 :: ((freeBk (N - 1)).hd :: (freeBk (N - 1)).body ++ []))[1]? = _
  rw [freeBk_hd (by omega)]
  rfl
end Go.Proofs.Ytmgpimibnogcaaa
