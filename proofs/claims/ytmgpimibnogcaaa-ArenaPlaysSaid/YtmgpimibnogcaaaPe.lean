/-
  PLAIN: what Free leaves is an arena of blocks again.
-/
import Derived.Test.YtmgpimibnogcaaaPd
set_option linter.unusedVariables false
set_option linter.unusedSimpArgs false
namespace Go.Proofs.Ytmgpimibnogcaaa
open Go.RowKit

theorem noAdj_swap : ∀ (pre : List Blk) (b c : Blk) (post : List Blk), NoAdj (pre ++ b :: post) → b.us = c.us → NoAdj (pre ++ c :: post)
  | [], b, c, [], _, _ => trivial
  | [], b, c, d :: post, h, hu => ⟨by rw [← hu]; exact h.1, h.2⟩
  | [p], b, c, post, h, hu => ⟨by rw [← hu]; exact h.1, noAdj_swap [] b c post h.2 hu⟩
  | p :: q :: pre, b, c, post, h, hu => ⟨h.1, noAdj_swap (q :: pre) b c post h.2 hu⟩
/-- A used block's body poisoned. -/
def pz (c : Blk) : Blk := ⟨c.us, List.replicate c.body.length PZ⟩
theorem pz_sz (c : Blk) : (pz c).sz = c.sz := by
  show (List.replicate c.body.length PZ).length + 1 = _
  rw [List.length_replicate]
  rfl
theorem pz_hd (c : Blk) : (pz c).hd = c.hd := by
  unfold Blk.hd
  rw [pz_sz]
  rfl
theorem wf_pz {pre post : List Blk} {c : Blk} (h : Wf (pre ++ c :: post)) : Wf (pre ++ pz c :: post) := by
  have hl : (words (pre ++ pz c :: post)).length = (words (pre ++ c :: post)).length := by
    rw [words_length, words_length, len_append, len_append, len_cons, len_cons, pz_sz]
  have ho : ∀ d ∈ pre ++ pz c :: post, d ∈ pre ++ c :: post ∨ d = pz c := by
    intro d hd
    simp only [List.mem_append, List.mem_cons] at hd ⊢
    rcases hd with hd | hd | hd
    · exact .inl (.inl hd)
    · exact .inr hd
    · exact .inl (.inr (.inr hd))
  refine ⟨fun d hd => ?_, fun d hd hf => ?_, noAdj_swap pre c (pz c) post h.adj rfl, by rw [hl]; exact h.n1, by rw [hl]; exact h.n2⟩
  · rcases ho d hd with hd | rfl
    · exact h.body d hd
    · show 1 ≤ (List.replicate c.body.length PZ).length
      rw [List.length_replicate]
      exact h.body c (by simp)
  · rcases ho d hd with hd | rfl
    · exact h.pois d hd hf
    · show List.replicate c.body.length PZ = List.replicate (List.replicate c.body.length PZ).length PZ
      rw [List.length_replicate]
theorem fill_pz (pre post : List Blk) (c : Blk) : fillN PZ (words (pre ++ c :: post)) (1 + len pre + 1) (c.sz - 1) = words (pre ++ pz c :: post) := by
  have hl := words_length pre
  rw [words_split, words_split, pz_hd]
  rw [show words pre ++ (c.hd :: c.body ++ post.flatMap Blk.enc) = (words pre ++ [c.hd]) ++ c.body ++ post.flatMap Blk.enc by simp]
  rw [show c.sz - 1 = c.body.length from rfl, fillN_mid PZ c.body _ _ _ _ (by rw [List.length_append, hl]; rfl) rfl]
  simp [pz]
theorem ahs_pz (pre post : List Blk) (c : Blk) : ahs (pre ++ c :: post) = ahs (pre ++ pz c :: post) := by
  rw [ahs_split, ahs_split, pz_sz]
  simp [pz]
theorem at_one {post : List Blk} {b : Blk} : At post 1 b ↔ post.head? = some b := by
  constructor
  · rintro ⟨pre, po, rfl, h⟩
    cases pre with
    | nil => rfl
    | cons d ds =>
      rw [len_cons] at h
      unfold Blk.sz at h
      omega
  · intro h
    cases post with
    | nil => simp at h
    | cons d ds =>
      simp at h
      subst h
      exact ⟨[], ds, rfl, rfl⟩
theorem at_mid {pre post : List Blk} {x : Nat} {b : Blk} : At (pre ++ post) (1 + len pre) b ↔ post.head? = some b := by
  rw [at_append]
  constructor
  · rintro (h | ⟨y, e, h⟩)
    · have h1 := h.fits
      rw [words_length] at h1
      unfold Blk.sz at h1
      omega
    · have hy : y = 1 := by omega
      subst hy
      exact at_one.1 h
  · intro h
    exact .inr ⟨1, by omega, at_one.2 h⟩
theorem good_set {ws : List Int} {ah : List Nat} (h : Good ws ah) (x : Nat) (v : Int) : Good (ws.set x v) (ah.set x 0) := by
  intro a k hk h0
  by_cases hx : x = a
  · subst hx
    rcases Nat.lt_or_ge x ah.length with hl | hl
    · rw [List.getElem?_set_self hl] at hk
      have := Option.some.inj hk
      omega
    · rw [List.getElem?_eq_none (by rw [List.length_set]; exact hl)] at hk
      simp at hk
  · rw [List.getElem?_set_ne hx] at hk ⊢
    exact h a k hk h0
end Go.Proofs.Ytmgpimibnogcaaa
