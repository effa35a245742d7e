/-
  Free over the arena of blocks.
-/
import Derived.Test.YtmgpimibnogcaaaPg
set_option linter.unusedVariables false
set_option linter.unusedSimpArgs false
namespace Go.Proofs.Ytmgpimibnogcaaa
open Go.RowKit

/-- The free block of D words. -/
def freeBk (D : Nat) : Blk := ⟨false, List.replicate (D - 1) PZ⟩
theorem freeBk_sz {D : Nat} (h : 1 ≤ D) : (freeBk D).sz = D := by
  show (List.replicate (D - 1) PZ).length + 1 = D
  rw [List.length_replicate]
  omega
theorem freeBk_hd {D : Nat} (h : 1 ≤ D) : (freeBk D).hd = 2 * (D : Int) := by
  unfold Blk.hd
  rw [freeBk_sz h]
  show 2 * (D : Int) + 0 = _
  omega
theorem arena_free (q p b : Nat) (pre post : List Blk) (c : Blk) (w : World) (h : Arena q p b (pre ++ c :: post) w) (hu : c.us = true) :
    Calls Try.prog 19 #[.pointer (some ⟨q, 0, none⟩), .int .i64 ((1 + len pre : Nat) : Int)] w fun e w' => e = .returned (.int .i64 0) ∧
      ∃ pre1 dl er post1 : List Blk, pre = pre1 ++ dl ∧ post = er ++ post1 ∧ ((dl = [] ∧ ∀ d, pre.getLast? = some d → d.us = true) ∨ ∃ d, dl = [d] ∧ d.us = false) ∧
        ((er = [] ∧ ∀ e, post.head? = some e → e.us = true) ∨ ∃ e, er = [e] ∧ e.us = false) ∧
        Arena q p b (pre1 ++ freeBk (len dl + c.sz + len er) :: post1) w' ∧ Upd [q, p, b] w w' := by
  obtain ⟨hw, hm⟩ := h
  have hat : At (pre ++ c :: post) (1 + len pre) c := ⟨pre, post, rfl, rfl⟩
  obtain ⟨er, post1, q0, E, P2, hpost, her, hE, hB, hP2, hg2⟩ := behind_ex hw hu
  obtain ⟨pre1, dl, ws3, ah3, P3, hpre, hdl, hA, hws3, hah3, hP3⟩ := ahead_ex pre c.hd (List.replicate c.body.length PZ ++ (List.replicate (len er) PZ ++ post1.flatMap Blk.enc)) (List.replicate c.body.length 0 ++ (List.replicate (len er) 0 ++ notes q0 post1)) P2 (fun x hx => (hP2 x).2 (.inl hx)) (fun d hd hf => hw.pois d (by simp [hd]) hf)
  have hlp : len pre = len pre1 + len dl := by rw [hpre, len_append]
  have hlq : len post = len er + len post1 := by rw [hpost, len_append]
  have hWL : (words (pre ++ c :: post)).length = 1 + len pre + c.sz + len post := by rw [words_length, len_append, len_cons]; omega
  have hcs : c.sz = c.body.length + 1 := rfl
  have hcb := hw.body c (by simp)
  obtain ⟨hh1, hh2, hh3⟩ := hat.head hw
  have hn2 := hw.n2
  have hk := lastSz_le 1 pre
  have hD : 1 ≤ len dl + c.sz + len er := by omega
  refine (free_used q p b _ _ _ w hm (wf_good hw) (1 + len pre) c.sz (lastSz 1 pre) E (1 + len pre1) c.hd ?_ hh1 hh2 hh3 hat.szW hat.fits ?_ ?_ ?_ _ ws3 _ ah3 P2 P3 (by rw [fill_pz]; exact hB) hg2 ?_ (by omega) hA ⟨by omega, by omega, by omega⟩ (len dl + c.sz + len er) (by omega)).mono ?_
  · have := (isW_at hw true ((1 + len pre : Nat) : Int)).2 ⟨c, by omega, by rw [Int.toNat_natCast]; exact hat, hu⟩
    exact this
  · rintro ⟨d, hd, hf⟩
    rw [hat.unique hd, hf] at hu
    exact Bool.noConfusion hu
  · rintro j h0 h1 ⟨d, hd, _⟩
    exact hat.apart h0 h1 d hd
  · rw [fill_pz, ahs_pz]
    exact wf_good (wf_pz hw)
  · rw [List.getElem?_append_right (by rw [ahs_length]; exact Nat.le_refl _), ahs_length, Nat.sub_self]
    rfl
  · rintro e w' ⟨rfl, hM, hU⟩
    refine ⟨rfl, pre1, dl, er, post1, hpre, hpost, hdl, her, ⟨?_, ?_⟩, hU⟩
    · have hmem : ∀ d ∈ pre1 ++ freeBk (len dl + c.sz + len er) :: post1, d ∈ pre ++ c :: post ∨ d = freeBk (len dl + c.sz + len er) := by
        intro d hd
        rw [hpre, hpost]
        simp only [List.mem_append, List.mem_cons] at hd ⊢
        rcases hd with hd | hd | hd
        · exact .inl (.inl (.inl hd))
        · exact .inr hd
        · exact .inl (.inr (.inr (.inr hd)))
      have hlen : (words (pre1 ++ freeBk (len dl + c.sz + len er) :: post1)).length = (words (pre ++ c :: post)).length := by
        rw [hWL, words_length, len_append, len_cons, freeBk_sz hD]
        omega
      refine ⟨fun d hd => ?_, fun d hd hf => ?_, ?_, by rw [hlen]; exact hw.n1, by rw [hlen]; exact hw.n2⟩
      · rcases hmem d hd with hd | rfl
        · exact hw.body d hd
        · show 1 ≤ (List.replicate (len dl + c.sz + len er - 1) PZ).length
          rw [List.length_replicate]
          omega
      · rcases hmem d hd with hd | rfl
        · exact hw.pois d hd hf
        · show List.replicate (len dl + c.sz + len er - 1) PZ = List.replicate (List.replicate (len dl + c.sz + len er - 1) PZ).length PZ
          rw [List.length_replicate]
      · have ha1 := noAdj_left hw.adj
        have ha2 := noAdj_tail (noAdj_right hw.adj)
        rw [hpre] at ha1
        rw [hpost] at ha2
        refine noAdj_glue _ _ _ (noAdj_left ha1) (noAdj_right ha2) (fun d hd => ?_) (fun d hd => ?_)
        · rcases hdl with ⟨rfl, h1⟩ | ⟨f, rfl, h1⟩
          · exact h1 d (by rw [hpre, List.append_nil]; exact hd)
          · exact noAdj_last pre1 f [] ha1 h1 d hd
        · rcases her with ⟨rfl, h1⟩ | ⟨f, rfl, h1⟩
          · exact h1 d (by rw [hpost]; exact hd)
          · exact noAdj_head ha2 h1 d hd
    · have e1 : ws3.set (1 + len pre1) (2 * ((len dl + c.sz + len er : Nat) : Int)) = words (pre1 ++ freeBk (len dl + c.sz + len er) :: post1) := by
        rw [hws3, words_split, freeBk_hd hD]
        show _ = words pre1 ++ (2 * ((len dl + c.sz + len er : Nat) : Int) :: List.replicate (len dl + c.sz + len er - 1) PZ ++ post1.flatMap Blk.enc)
        rw [show len dl + c.sz + len er - 1 = len dl + (c.body.length + len er) by omega, ← List.replicate_append_replicate, ← List.replicate_append_replicate]
        simp only [List.cons_append, List.append_assoc]
      have e2 : ahAt ah3 (words (pre ++ c :: post)).length (1 + len pre1 + (len dl + c.sz + len er)) (len dl + c.sz + len er) = ahs (pre1 ++ freeBk (len dl + c.sz + len er) :: post1) := by
        rw [hah3, ahs_split, freeBk_sz hD]
        show _ = ahs pre1 ++ (lastSz 1 pre1 :: List.replicate (List.replicate (len dl + c.sz + len er - 1) PZ).length 0 ++ notes (len dl + c.sz + len er) post1)
        rw [List.length_replicate]
        rw [show ahs pre1 ++ lastSz 1 pre1 :: (List.replicate (len dl) 0 ++ (List.replicate c.body.length 0 ++ (List.replicate (len er) 0 ++ notes q0 post1))) = (ahs pre1 ++ lastSz 1 pre1 :: (List.replicate (len dl) 0 ++ (List.replicate c.body.length 0 ++ List.replicate (len er) 0))) ++ notes q0 post1 by simp only [List.cons_append, List.append_assoc]]
        have hxl : (ahs pre1 ++ lastSz 1 pre1 :: (List.replicate (len dl) 0 ++ (List.replicate c.body.length 0 ++ List.replicate (len er) 0))).length = 1 + len pre1 + (len dl + c.sz + len er) := by
          simp only [List.length_append, List.length_cons, List.length_replicate, ahs_length]
          omega
        rw [ahAt_notes _ _ _ _ _ hxl.symm _ (by rw [hxl, hWL]; omega)]
        rw [show len dl + c.sz + len er - 1 = len dl + (c.body.length + len er) by omega, ← List.replicate_append_replicate, ← List.replicate_append_replicate]
        simp only [List.cons_append, List.append_assoc]
      have e3 : (fun x => P3 x ∨ x = 1 + len pre1) = FreeAt (pre1 ++ freeBk (len dl + c.sz + len er) :: post1) := by
        funext x
        apply propext
        rw [hP3, hP2, freeAt_append]
        simp only [freeAt_cons]
        rw [freeBk_sz hD]
        constructor
        · rintro (⟨h1 | ⟨y, rfl, hy⟩, h2⟩ | rfl)
          · rw [hpre, freeAt_append] at h1
            rcases h1 with h1 | ⟨y, rfl, hy⟩
            · exact .inl h1
            · rcases hdl with ⟨rfl, _⟩ | ⟨d, rfl, _⟩
              · exact absurd hy freeAt_nil
              · rcases freeAt_cons.1 hy with ⟨rfl, _⟩ | ⟨z, _, hz⟩
                · rcases h2 with h2 | h2
                  · simp at h2
                  · omega
                · exact absurd hz freeAt_nil
          · exact .inr ⟨len dl + c.sz + len er + y, by omega, .inr ⟨y, rfl, hy⟩⟩
          · exact .inr ⟨1, by omega, .inl ⟨rfl, rfl⟩⟩
        · rintro (h1 | ⟨y, rfl, ⟨rfl, _⟩ | ⟨z, rfl, hz⟩⟩)
          · have := h1.bound
            exact .inl ⟨.inl (by rw [hpre, freeAt_append]; exact .inl h1), .inr (by omega)⟩
          · exact .inr (by omega)
          · have := hz.bound
            exact .inl ⟨.inr ⟨z, by omega, hz⟩, .inr (by omega)⟩
      rw [e1, e2, e3] at hM
      exact hM
end Go.Proofs.Ytmgpimibnogcaaa
