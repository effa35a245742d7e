/-
  PLAIN: Free's two neighbours.
-/
import Derived.Test.YtmgpimibnogcaaaPe
set_option linter.unusedVariables false
set_option linter.unusedSimpArgs false
namespace Go.Proofs.Ytmgpimibnogcaaa
open Go.RowKit

theorem lastSz_snoc : ∀ (p : Nat) (pre : List Blk) (d : Blk), lastSz p (pre ++ [d]) = d.sz
  | _, [], d => rfl
  | _, x :: pre, d => lastSz_snoc x.sz pre d
theorem Blk.hd_mod (b : Blk) : b.hd % 2 = (if b.us = true then 1 else 0) := by
  unfold Blk.hd
  split <;> omega
theorem flat_poison {e : Blk} (he : e.body = List.replicate e.body.length PZ) : PZ :: e.body = List.replicate e.sz PZ := by
  rw [show e.sz = e.body.length + 1 from rfl, List.replicate_succ, ← he]
theorem behind_ex {pre post : List Blk} {c : Blk} (hw : Wf (pre ++ c :: post)) (hu : c.us = true) :
    ∃ (er post1 : List Blk) (q0 E : Nat) (P2 : Nat → Prop), post = er ++ post1 ∧ ((er = [] ∧ ∀ e, post.head? = some e → e.us = true) ∨ ∃ e, er = [e] ∧ e.us = false) ∧ E = 1 + len pre + c.sz + len er ∧
      Behind (words (pre ++ pz c :: post)) (ahs (pre ++ c :: post)) (FreeAt (pre ++ c :: post)) (1 + len pre + c.sz)
        (words pre ++ c.hd :: (List.replicate c.body.length PZ ++ (List.replicate (len er) PZ ++ post1.flatMap Blk.enc)))
        (ahs pre ++ lastSz 1 pre :: (List.replicate c.body.length 0 ++ (List.replicate (len er) 0 ++ notes q0 post1))) P2 E ∧
      (∀ x, P2 x ↔ FreeAt pre x ∨ ∃ y, x = len pre + c.sz + len er + y ∧ FreeAt post1 y) ∧
      Good (words pre ++ c.hd :: (List.replicate c.body.length PZ ++ (List.replicate (len er) PZ ++ post1.flatMap Blk.enc)))
        (ahs pre ++ lastSz 1 pre :: (List.replicate c.body.length 0 ++ (List.replicate (len er) 0 ++ notes q0 post1))) := by
  have hw1 := wf_pz hw
  have hg := wf_good hw1
  rw [← ahs_pz] at hg
  have hW : words (pre ++ pz c :: post) = words pre ++ c.hd :: (List.replicate c.body.length PZ ++ post.flatMap Blk.enc) := by rw [words_split, pz_hd]; rfl
  have hA : ahs (pre ++ c :: post) = ahs pre ++ lastSz 1 pre :: (List.replicate c.body.length 0 ++ notes c.sz post) := ahs_split pre c post
  have hl := words_length pre
  have hla := ahs_length pre
  have hF : ∀ x, FreeAt (pre ++ c :: post) x ↔ FreeAt pre x ∨ ∃ y, x = len pre + c.sz + y ∧ FreeAt post y := by
    intro x
    rw [freeAt_append]
    simp only [freeAt_cons]
    constructor
    · rintro (h | ⟨y, e, ⟨_, h⟩ | ⟨z, rfl, hz⟩⟩)
      · exact .inl h
      · rw [hu] at h; exact Bool.noConfusion h
      · exact .inr ⟨z, by omega, hz⟩
    · rintro (h | ⟨y, e, h⟩)
      · exact .inl h
      · exact .inr ⟨c.sz + y, by omega, .inr ⟨y, rfl, h⟩⟩
  have hI : isW (words (pre ++ pz c :: post)) (ahs (pre ++ c :: post)) 0 ((1 + len pre + c.sz : Nat) : Int) = true ↔ ∃ e, post.head? = some e ∧ e.us = false := by
    have h := isW_at hw1 false ((1 + len pre + c.sz : Nat) : Int)
    rw [← ahs_pz] at h
    rw [show (if false = true then (1 : Int) else 0) = 0 from rfl] at h
    rw [h, Int.toNat_natCast]
    have hm : ∀ b, At (pre ++ pz c :: post) (1 + len pre + c.sz) b ↔ post.head? = some b := by
      intro b
      have h2 := at_mid (x := 0) (pre := pre ++ [pz c]) (post := post) (b := b)
      rw [len_append, len_cons, len_nil, pz_sz, List.append_assoc, List.cons_append, List.nil_append] at h2
      rw [show 1 + len pre + c.sz = 1 + (len pre + (c.sz + 0)) by omega]
      exact h2
    constructor
    · rintro ⟨b, _, h1, h2⟩
      exact ⟨b, (hm b).1 h1, h2⟩
    · rintro ⟨b, h1, h2⟩
      exact ⟨b, by omega, (hm b).2 h1, h2⟩
  by_cases hh : ∃ e, post.head? = some e ∧ e.us = false
  · have hi := hI.2 hh
    obtain ⟨e, he, hf⟩ := hh
    obtain ⟨po, rfl⟩ : ∃ po, post = e :: po := by
      cases post with
      | nil => simp at he
      | cons d po => simp at he; exact ⟨po, by rw [he]⟩
    have hp := hw.pois e (by simp) hf
    have hz : szW (words (pre ++ pz c :: e :: po)) (1 + len pre + c.sz) = e.sz := At.szW (b := e) ⟨pre ++ [pz c], po, by simp, by rw [len_append, len_cons, len_nil, pz_sz]; omega⟩
    have hWL : (words (pre ++ pz c :: e :: po)).length = 1 + len pre + c.sz + e.sz + len po := by
      rw [words_length, len_append, len_cons, len_cons, pz_sz]; omega
    have h2 : words pre ++ c.hd :: (List.replicate c.body.length PZ ++ (List.replicate (len [e]) PZ ++ po.flatMap Blk.enc)) = (words (pre ++ pz c :: e :: po)).set (1 + len pre + c.sz) PZ := by
      rw [hW, List.flatMap_cons]
      rw [show words pre ++ c.hd :: (List.replicate c.body.length PZ ++ (e.enc ++ po.flatMap Blk.enc)) = (words pre ++ c.hd :: List.replicate c.body.length PZ) ++ e.hd :: (e.body ++ po.flatMap Blk.enc) by simp [Blk.enc]]
      rw [set_mid _ _ _ _ _ (by rw [List.length_append, hl, List.length_cons, List.length_replicate]; rfl)]
      rw [len_cons, len_nil, Nat.add_zero, ← flat_poison hp]
      simp
    have h3 : ahs pre ++ lastSz 1 pre :: (List.replicate c.body.length 0 ++ (List.replicate (len [e]) 0 ++ notes e.sz po)) = (ahs (pre ++ c :: e :: po)).set (1 + len pre + c.sz) 0 := by
      rw [hA, notes]
      unfold Blk.note
      rw [show ahs pre ++ lastSz 1 pre :: (List.replicate c.body.length 0 ++ (c.sz :: List.replicate e.body.length 0 ++ notes e.sz po)) = (ahs pre ++ lastSz 1 pre :: List.replicate c.body.length 0) ++ c.sz :: (List.replicate e.body.length 0 ++ notes e.sz po) by simp]
      rw [set_mid _ _ _ _ _ (by rw [List.length_append, hla, List.length_cons, List.length_replicate]; rfl)]
      rw [len_cons, len_nil, Nat.add_zero, show e.sz = e.body.length + 1 from rfl, List.replicate_succ]
      simp
    refine ⟨[e], po, e.sz, _, _, rfl, .inr ⟨e, rfl, hf⟩, rfl, .inr ⟨hi, ?_, ?_, h2, h3, rfl, ?_⟩, fun x => ?_, ?_⟩
    · exact (hF _).2 (.inr ⟨1, by omega, freeAt_cons.2 (.inl ⟨rfl, hf⟩)⟩)
    · rw [hWL]; unfold Blk.sz; omega
    · rw [hz, len_cons, len_nil, Nat.add_zero]
    · show FreeAt (pre ++ c :: e :: po) x ∧ x ≠ 1 + len pre + c.sz ↔ _
      rw [hF, len_cons, len_nil, Nat.add_zero]
      simp only [freeAt_cons]
      constructor
      · rintro ⟨h | ⟨y, rfl, ⟨rfl, _⟩ | ⟨z, rfl, hz⟩⟩, h5⟩
        · exact .inl h
        · omega
        · exact .inr ⟨z, by omega, hz⟩
      · rintro (h | ⟨y, rfl, h⟩)
        · have := h.bound
          exact ⟨.inl h, by omega⟩
        · have := h.bound
          exact ⟨.inr ⟨e.sz + y, by omega, .inr ⟨y, rfl, h⟩⟩, by unfold Blk.sz; omega⟩
    · rw [h2, h3]
      exact good_set hg _ _
  · have hi : isW (words (pre ++ pz c :: post)) (ahs (pre ++ c :: post)) 0 ((1 + len pre + c.sz : Nat) : Int) = false := by
      rw [← Bool.not_eq_true]
      exact fun h => hh (hI.1 h)
    have h2 : words pre ++ c.hd :: (List.replicate c.body.length PZ ++ (List.replicate (len []) PZ ++ post.flatMap Blk.enc)) = words (pre ++ pz c :: post) := by rw [hW]; rfl
    have h3 : ahs pre ++ lastSz 1 pre :: (List.replicate c.body.length 0 ++ (List.replicate (len []) 0 ++ notes c.sz post)) = ahs (pre ++ c :: post) := by rw [hA]; rfl
    refine ⟨[], post, c.sz, _, _, rfl, .inl ⟨rfl, fun e he => ?_⟩, rfl, .inl ⟨hi, h2, h3, rfl, ?_⟩, fun x => ?_, ?_⟩
    · cases hv : e.us with
      | true => rfl
      | false => exact absurd ⟨e, he, hv⟩ hh
    · rfl
    · exact hF x
    · rw [h2, h3]
      exact hg
end Go.Proofs.Ytmgpimibnogcaaa
