/-
  Free over the arena of blocks.
-/
import Derived.Test.YtmgpimibnogcaaaPf
set_option linter.unusedVariables false
set_option linter.unusedSimpArgs false
namespace Go.Proofs.Ytmgpimibnogcaaa
open Go.RowKit

theorem ahead_ex (pre : List Blk) (t0 : Int) (T : List Int) (V : List Nat) (P2 : Nat → Prop) (hP : ∀ x, FreeAt pre x → P2 x) (hp : ∀ d ∈ pre, d.us = false → d.body = List.replicate d.body.length PZ) :
    ∃ (pre1 dl : List Blk) (ws3 : List Int) (ah3 : List Nat) (P3 : Nat → Prop), pre = pre1 ++ dl ∧ ((dl = [] ∧ ∀ d, pre.getLast? = some d → d.us = true) ∨ ∃ d, dl = [d] ∧ d.us = false) ∧
      Ahead (words pre ++ t0 :: T) (ahs pre ++ lastSz 1 pre :: V) P2 (1 + len pre) (lastSz 1 pre) ws3 ah3 P3 (1 + len pre1) ∧
      (∀ v, ws3.set (1 + len pre1) v = words pre1 ++ v :: (List.replicate (len dl) PZ ++ T)) ∧
      ah3 = ahs pre1 ++ lastSz 1 pre1 :: (List.replicate (len dl) 0 ++ V) ∧
      (∀ x, P3 x ↔ P2 x ∧ (dl = [] ∨ x ≠ 1 + len pre1)) := by
  have hl := words_length pre
  have hla := ahs_length pre
  have hI : (∃ pre1 d, pre = pre1 ++ [d] ∧ d.us = false) ∨ (isW (words pre ++ t0 :: T) (ahs pre ++ lastSz 1 pre :: V) 0 (((1 + len pre : Nat) : Int) - (lastSz 1 pre : Int)) = false ∧ ∀ d, pre.getLast? = some d → d.us = true) := by
    rcases List.eq_nil_or_concat pre with rfl | ⟨pre1, d, rfl⟩
    · exact .inr ⟨rfl, fun d hd => by simp at hd⟩
    · cases hd : d.us with
      | false => exact .inl ⟨pre1, d, List.concat_eq_append .., hd⟩
      | true =>
        rw [List.concat_eq_append] at hl hla ⊢
        refine .inr ⟨?_, fun e he => by simp at he; rw [← he]; exact hd⟩
        unfold isW
        rw [lastSz_snoc, show ((1 + len (pre1 ++ [d]) : Nat) : Int) - (d.sz : Int) = ((1 + len pre1 : Nat) : Int) by rw [len_append, len_cons, len_nil]; omega, Int.toNat_natCast]
        rw [List.getElem?_append_left (by rw [hla, len_append, len_cons]; unfold Blk.sz; omega), ahs_head, Option.getD_some]
        rw [List.getElem?_append_left (by rw [hl, len_append, len_cons]; unfold Blk.sz; omega), words_head, Option.getD_some, d.hd_mod, if_pos hd]
        simp
  rcases hI with ⟨pre1, d, rfl, hd⟩ | ⟨hi, hu⟩
  · have hb := hp d (by simp) hd
    refine ⟨pre1, [d], _, _, _, rfl, .inr ⟨d, rfl, hd⟩, .inr ⟨?_, ?_, ?_, rfl, rfl, rfl⟩, fun v => ?_, ?_, fun x => ?_⟩
    · unfold isW
      rw [lastSz_snoc, show ((1 + len (pre1 ++ [d]) : Nat) : Int) - (d.sz : Int) = ((1 + len pre1 : Nat) : Int) by rw [len_append, len_cons, len_nil]; omega, Int.toNat_natCast]
      rw [List.getElem?_append_left (by rw [hla, len_append, len_cons]; unfold Blk.sz; omega), ahs_head, Option.getD_some]
      rw [List.getElem?_append_left (by rw [hl, len_append, len_cons]; unfold Blk.sz; omega), words_head, Option.getD_some, d.hd_mod, if_neg (by rw [hd]; decide)]
      have := lastSz_pos 1 pre1 (by decide)
      rw [decide_eq_true (by omega), decide_eq_true this]
      rfl
    · rw [lastSz_snoc, len_append, len_cons, len_nil]; omega
    · exact hP _ ⟨d, ⟨pre1, [], rfl, rfl⟩, hd⟩
    · rw [set_mid _ _ _ _ _ hl.symm, words_split, List.flatMap_nil, List.append_nil, List.append_assoc, List.cons_append, set_mid _ _ _ _ _ (words_length pre1).symm]
      rw [len_cons, len_nil, Nat.add_zero, ← flat_poison hb, hb]
      rw [show List.replicate d.body.length PZ ++ PZ :: T = (List.replicate d.body.length PZ ++ [PZ]) ++ T by simp, ← List.replicate_succ']
      simp [List.replicate_succ]
    · rw [set_mid _ _ _ _ _ hla.symm, ahs_split, notes, List.append_nil, List.append_assoc, List.cons_append]
      rw [len_cons, len_nil, Nat.add_zero, show d.sz = d.body.length + 1 from rfl, List.replicate_succ']
      simp
    · show P2 x ∧ x ≠ 1 + len pre1 ↔ _
      constructor
      · rintro ⟨h1, h2⟩
        exact ⟨h1, .inr h2⟩
      · rintro ⟨h1, h2 | h2⟩
        · simp at h2
        · exact ⟨h1, h2⟩
  · refine ⟨pre, [], _, _, _, (List.append_nil _).symm, .inl ⟨rfl, hu⟩, .inl ⟨hi, rfl, rfl, rfl, rfl⟩, fun v => ?_, rfl, fun x => ?_⟩
    · rw [set_mid _ _ _ _ _ hl.symm]
      rfl
    · exact ⟨fun h => ⟨h, .inl rfl⟩, fun h => h.1⟩
theorem noAdj_left : ∀ {A B : List Blk}, NoAdj (A ++ B) → NoAdj A
  | [], _, _ => trivial
  | [_], _, _ => trivial
  | _ :: b :: A, B, h => ⟨h.1, noAdj_left (A := b :: A) h.2⟩
theorem noAdj_glue : ∀ (pre : List Blk) (F : Blk) (post : List Blk), NoAdj pre → NoAdj post → (∀ d, pre.getLast? = some d → d.us = true) → (∀ e, post.head? = some e → e.us = true) → NoAdj (pre ++ F :: post)
  | [], F, [], _, _, _, _ => trivial
  | [], F, e :: post, _, h, _, he => ⟨.inr (he e rfl), h⟩
  | [p], F, post, _, h, hd, he => ⟨.inl (hd p rfl), noAdj_glue [] F post trivial h (fun _ hx => by simp at hx) he⟩
  | p :: q :: pre, F, post, h1, h, hd, he => ⟨h1.1, noAdj_glue (q :: pre) F post h1.2 h (fun d hx => hd d (by rw [List.getLast?_cons_cons]; exact hx)) he⟩
theorem noAdj_last : ∀ (pre : List Blk) (d : Blk) (R : List Blk), NoAdj (pre ++ d :: R) → d.us = false → ∀ x, pre.getLast? = some x → x.us = true
  | [], _, _, _, _, x, hx => by simp at hx
  | [p], d, R, h, hd, x, hx => by
    simp at hx
    subst hx
    exact h.1.resolve_right (by rw [hd]; decide)
  | p :: q :: pre, d, R, h, hd, x, hx => noAdj_last (q :: pre) d R h.2 hd x (by rw [List.getLast?_cons_cons] at hx; exact hx)
theorem noAdj_head {e : Blk} : ∀ {R : List Blk}, NoAdj (e :: R) → e.us = false → ∀ x, R.head? = some x → x.us = true
  | [], _, _, x, hx => by simp at hx
  | y :: R, h, he, x, hx => by
    simp at hx
    subst hx
    exact h.1.resolve_left (by rw [he]; decide)
theorem lastSz_le : ∀ (p : Nat) (pre : List Blk), lastSz p pre ≤ p + len pre
  | p, [] => Nat.le_add_right _ _
  | p, b :: r => by
    have := lastSz_le b.sz r
    rw [lastSz, len_cons]
    omega
end Go.Proofs.Ytmgpimibnogcaaa
