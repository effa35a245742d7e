/-
  PLAIN: what Alloc leaves is an arena of blocks again.
-/
import Derived.Test.YtmgpimibnogcaaaPb
set_option linter.unusedVariables false
set_option linter.unusedSimpArgs false
namespace Go.Proofs.Ytmgpimibnogcaaa
open Go.RowKit

theorem set_mid {α : Type} (xs : List α) (y v : α) (zs : List α) (o : Nat) (ho : o = xs.length) : (xs ++ y :: zs).set o v = xs ++ v :: zs := by
  subst ho
  rw [List.set_append_right (h := Nat.le_refl _), Nat.sub_self]
  rfl
theorem fillN_mid (v : Int) : ∀ (ys xs zs : List Int) (o k : Nat), o = xs.length → k = ys.length → fillN v (xs ++ ys ++ zs) o k = xs ++ List.replicate k v ++ zs
  | [], xs, zs, o, k, ho, hk => by
    subst hk
    rfl
  | y :: ys, xs, zs, o, k, ho, hk => by
    subst hk
    rw [List.length_cons, fillN_front, List.append_assoc, List.cons_append, set_mid xs y v (ys ++ zs) o ho]
    rw [show xs ++ v :: (ys ++ zs) = (xs ++ [v]) ++ ys ++ zs by simp]
    rw [fillN_mid v ys (xs ++ [v]) zs (o + 1) ys.length (by rw [ho]; simp) rfl, List.replicate_succ]
    simp
/-- The blocks behind an Alloc of n words out of b. -/
def takeB (n : Nat) (b : Blk) : List Blk :=
  if n + 3 ≤ b.sz then [⟨true, List.replicate n 0⟩, ⟨false, List.replicate (b.sz - 2 - n) PZ⟩] else [⟨true, List.replicate b.body.length 0⟩]
theorem takeW_mid (pre post : List Blk) (b : Blk) (n : Nat) (hn : n + 1 ≤ b.sz) (hu : b.us = false) (hb : b.body = List.replicate b.body.length PZ) :
    takeW (words (pre ++ b :: post)) n (1 + len pre) = words (pre ++ takeB n b ++ post) := by
  have hs : szW (words (pre ++ b :: post)) (1 + len pre) = b.sz := At.szW ⟨pre, post, rfl, rfl⟩
  have hl := words_length pre
  unfold takeW takeS takeB
  rw [hs]
  by_cases h : n + 3 ≤ b.sz
  · rw [if_pos h, if_pos h, if_pos h, Nat.add_sub_cancel]
    rw [List.append_assoc, List.cons_append, List.cons_append, List.nil_append, words_split, words_split]
    obtain ⟨m, hm⟩ : ∃ m, b.body.length = n + 1 + m := ⟨b.sz - 2 - n, by unfold Blk.sz at *; omega⟩
    have hm2 : b.sz - 2 - n = m := by unfold Blk.sz at *; omega
    have hm3 : b.sz - 1 - n = m + 1 := by unfold Blk.sz at *; omega
    rw [hm2, hm3, hb, hm]
    rw [show List.replicate (n + 1 + m) PZ = List.replicate n PZ ++ (PZ :: List.replicate m PZ) by
      rw [show n + 1 + m = n + (m + 1) by omega, ← List.replicate_append_replicate, List.replicate_succ]]
    rw [show words pre ++ (b.hd :: (List.replicate n PZ ++ PZ :: List.replicate m PZ) ++ post.flatMap Blk.enc) = (words pre ++ b.hd :: List.replicate n PZ) ++ PZ :: (List.replicate m PZ ++ post.flatMap Blk.enc) by simp]
    rw [set_mid _ _ _ _ _ (by rw [List.length_append, hl, List.length_cons, List.length_replicate])]
    rw [List.append_assoc, List.cons_append, set_mid _ _ _ _ _ hl.symm]
    rw [show words pre ++ (2 * ((n + 1 : Nat) : Int) + 1) :: (List.replicate n PZ ++ (2 * ((m + 1 : Nat) : Int)) :: (List.replicate m PZ ++ post.flatMap Blk.enc)) = (words pre ++ [2 * ((n + 1 : Nat) : Int) + 1]) ++ List.replicate n PZ ++ (2 * ((m + 1 : Nat) : Int)) :: (List.replicate m PZ ++ post.flatMap Blk.enc) by simp]
    rw [fillN_mid 0 (List.replicate n PZ) _ _ _ _ (by rw [List.length_append, hl]; rfl) (by simp)]
    simp [Blk.hd, Blk.sz, Blk.enc, List.flatMap_cons]
  · rw [if_neg h, if_neg h, if_neg h]
    rw [List.append_assoc, List.cons_append, List.nil_append, words_split, words_split]
    rw [List.cons_append, set_mid _ _ _ _ _ hl.symm]
    rw [show words pre ++ (2 * (b.sz : Int) + 1) :: (b.body ++ post.flatMap Blk.enc) = (words pre ++ [2 * (b.sz : Int) + 1]) ++ b.body ++ post.flatMap Blk.enc by simp]
    rw [show b.sz - 1 = b.body.length from rfl, fillN_mid 0 b.body _ _ _ _ (by rw [List.length_append, hl]; rfl) rfl]
    simp [Blk.hd, Blk.sz]
theorem ahAt_notes (xs : List Nat) (p q N o : Nat) (ho : o = xs.length) : ∀ post : List Blk, N = xs.length + len post → ahAt (xs ++ notes p post) N o q = xs ++ notes q post
  | [], hN => by
    unfold ahAt
    rw [len_nil] at hN
    rw [if_neg (by omega)]
    rfl
  | c :: r, hN => by
    unfold ahAt
    rw [len_cons] at hN
    rw [if_pos (by unfold Blk.sz at hN; omega), notes, notes]
    unfold Blk.note
    rw [List.cons_append, set_mid _ _ _ _ _ ho]
    rfl
theorem takeA_mid (pre post : List Blk) (b : Blk) (n : Nat) (hn : n + 1 ≤ b.sz) :
    takeA (words (pre ++ b :: post)) (ahs (pre ++ b :: post)) n (1 + len pre) = ahs (pre ++ takeB n b ++ post) := by
  have hs : szW (words (pre ++ b :: post)) (1 + len pre) = b.sz := At.szW ⟨pre, post, rfl, rfl⟩
  have hl := ahs_length pre
  have hN : (words (pre ++ b :: post)).length = 1 + len pre + b.sz + len post := by rw [words_length, len_append, len_cons]; omega
  unfold takeA takeS takeB
  rw [hs, hN]
  by_cases h : n + 3 ≤ b.sz
  · rw [if_pos h, if_pos h, if_pos h]
    rw [List.append_assoc, List.cons_append, List.cons_append, List.nil_append, ahs_split, ahs_split]
    obtain ⟨m, hm⟩ : ∃ m, b.body.length = n + 1 + m := ⟨b.sz - 2 - n, by unfold Blk.sz at *; omega⟩
    have hm1 : b.sz = n + 1 + m + 1 := by unfold Blk.sz; omega
    have hm2 : b.sz - 2 - n = m := by omega
    have hm3 : b.sz - 1 - n = m + 1 := by omega
    rw [hm2, hm3, hm1, hm]
    rw [← List.append_assoc, ahAt_notes _ _ _ _ _ (by simp [hl] <;> omega) _ (by simp [hl] <;> omega)]
    rw [show List.replicate (n + 1 + m) 0 = List.replicate n 0 ++ (0 :: List.replicate m 0) by
      rw [show n + 1 + m = n + (m + 1) by omega, ← List.replicate_append_replicate, List.replicate_succ]]
    rw [show ahs pre ++ lastSz 1 pre :: (List.replicate n 0 ++ 0 :: List.replicate m 0) ++ notes (m + 1) post = (ahs pre ++ lastSz 1 pre :: List.replicate n 0) ++ 0 :: (List.replicate m 0 ++ notes (m + 1) post) by simp]
    unfold ahAt
    rw [if_pos (by omega), set_mid _ _ _ _ _ (by simp [hl])]
    simp [Blk.sz, Blk.note, notes]
  · rw [if_neg h, if_neg h, if_neg h]
    rw [List.append_assoc, List.cons_append, List.nil_append, ahs_split, ahs_split]
    rw [← List.append_assoc, ahAt_notes _ _ _ _ _ (by simp [hl]; unfold Blk.sz; omega) _ (by simp [hl]; unfold Blk.sz; omega)]
    simp [Blk.sz]
theorem at_append {A B : List Blk} {x : Nat} {b : Blk} : At (A ++ B) x b ↔ At A x b ∨ ∃ y, x = len A + y ∧ At B y b := by
  constructor
  · rintro ⟨pre, post, e, rfl⟩
    rcases List.append_eq_append_iff.1 e with ⟨cs, h1, h2⟩ | ⟨bs, h1, h2⟩
    · subst h1
      exact .inr ⟨1 + len cs, by rw [len_append]; omega, cs, post, h2, rfl⟩
    · cases bs with
      | nil =>
        rw [List.append_nil] at h1
        subst h1
        exact .inr ⟨1, by omega, [], post, h2.symm, rfl⟩
      | cons c cs =>
        rw [List.cons_append, List.cons.injEq] at h2
        obtain ⟨rfl, rfl⟩ := h2
        exact .inl ⟨pre, cs, h1, rfl⟩
  · rintro (⟨pre, post, rfl, rfl⟩ | ⟨y, rfl, pre, post, rfl, rfl⟩)
    · exact ⟨pre, post ++ B, by simp, rfl⟩
    · exact ⟨A ++ pre, post, by simp, by rw [len_append]; omega⟩
theorem freeAt_append {A B : List Blk} {x : Nat} : FreeAt (A ++ B) x ↔ FreeAt A x ∨ ∃ y, x = len A + y ∧ FreeAt B y := by
  unfold FreeAt
  constructor
  · rintro ⟨b, h, hu⟩
    rcases at_append.1 h with h | ⟨y, e, h⟩
    · exact .inl ⟨b, h, hu⟩
    · exact .inr ⟨y, e, b, h, hu⟩
  · rintro (⟨b, h, hu⟩ | ⟨y, e, b, h, hu⟩)
    · exact ⟨b, at_append.2 (.inl h), hu⟩
    · exact ⟨b, at_append.2 (.inr ⟨y, e, h⟩), hu⟩
theorem freeAt_cons {b : Blk} {r : List Blk} {x : Nat} : FreeAt (b :: r) x ↔ (x = 1 ∧ b.us = false) ∨ ∃ y, x = b.sz + y ∧ FreeAt r y := by
  constructor
  · rintro ⟨c, ⟨pre, post, e, rfl⟩, hu⟩
    cases pre with
    | nil =>
      rw [List.nil_append, List.cons.injEq] at e
      rw [e.1]
      exact .inl ⟨rfl, hu⟩
    | cons d ds =>
      rw [List.cons_append, List.cons.injEq] at e
      obtain ⟨rfl, rfl⟩ := e
      exact .inr ⟨1 + len ds, by rw [len_cons]; omega, c, ⟨ds, post, rfl, rfl⟩, hu⟩
  · rintro (⟨rfl, hu⟩ | ⟨y, rfl, c, ⟨pre, post, rfl, rfl⟩, hu⟩)
    · exact ⟨b, ⟨[], r, rfl, rfl⟩, hu⟩
    · exact ⟨c, ⟨b :: pre, post, rfl, by rw [len_cons]; omega⟩, hu⟩
theorem freeAt_nil {x : Nat} : ¬ FreeAt [] x := by
  rintro ⟨b, ⟨pre, post, e, _⟩, _⟩
  simp at e
theorem FreeAt.bound {Bs : List Blk} {x : Nat} (h : FreeAt Bs x) : 0 < x ∧ x ≤ len Bs := by
  obtain ⟨b, h, _⟩ := h
  have h1 := h.fits
  have h2 := h.facts.1
  rw [words_length] at h1
  unfold Blk.sz at h1
  exact ⟨h2, by omega⟩
theorem takeP_mid (pre post : List Blk) (b : Blk) (n : Nat) (hn : n + 1 ≤ b.sz) (hu : b.us = false) :
    takeP (words (pre ++ b :: post)) (FreeAt (pre ++ b :: post)) n (1 + len pre) = FreeAt (pre ++ takeB n b ++ post) := by
  have hs : szW (words (pre ++ b :: post)) (1 + len pre) = b.sz := At.szW ⟨pre, post, rfl, rfl⟩
  funext x
  apply propext
  unfold takeP takeB
  rw [hs]
  have hp : FreeAt pre x → x ≤ len pre := fun h => h.bound.2
  by_cases h : n + 3 ≤ b.sz
  · rw [if_pos h, if_pos h, List.append_assoc, freeAt_append, freeAt_append, List.cons_append, List.cons_append, List.nil_append]
    simp only [freeAt_cons]
    have hz1 : Blk.sz ⟨true, List.replicate n 0⟩ = n + 1 := by simp [Blk.sz]
    have hz2 : Blk.sz ⟨false, List.replicate (b.sz - 2 - n) PZ⟩ = b.sz - 1 - n := by
      show (List.replicate (b.sz - 2 - n) PZ).length + 1 = _
      rw [List.length_replicate]
      omega
    rw [hz1, hz2]
    constructor
    · rintro (⟨h1 | ⟨y, e, ⟨rfl, _⟩ | ⟨z, rfl, hz⟩⟩, h2⟩ | rfl)
      · exact .inl h1
      · omega
      · exact .inr ⟨_, e, .inr ⟨b.sz - 1 - n + z, by omega, .inr ⟨z, rfl, hz⟩⟩⟩
      · exact .inr ⟨n + 1 + 1, by omega, .inr ⟨1, rfl, .inl ⟨rfl, trivial⟩⟩⟩
    · rintro (h1 | ⟨y, e, ⟨_, h2⟩ | ⟨z, rfl, ⟨rfl, _⟩ | ⟨t, rfl, ht⟩⟩⟩)
      · exact .inl ⟨.inl h1, by have := hp h1; omega⟩
      · exact absurd h2 (by decide)
      · exact .inr (by omega)
      · have := ht.bound
        exact .inl ⟨.inr ⟨_, e, .inr ⟨t, by omega, ht⟩⟩, by omega⟩
  · rw [if_neg h, if_neg h, List.append_assoc, freeAt_append, freeAt_append, List.cons_append, List.nil_append]
    simp only [freeAt_cons]
    have hz1 : Blk.sz ⟨true, List.replicate b.body.length 0⟩ = b.sz := by simp [Blk.sz]
    rw [hz1]
    constructor
    · rintro ⟨h1 | ⟨y, e, ⟨rfl, _⟩ | ⟨z, rfl, hz⟩⟩, h2⟩
      · exact .inl h1
      · omega
      · exact .inr ⟨_, e, .inr ⟨z, rfl, hz⟩⟩
    · rintro (h1 | ⟨y, e, ⟨_, h2⟩ | ⟨z, rfl, hz⟩⟩)
      · exact ⟨.inl h1, by have := hp h1; omega⟩
      · exact absurd h2 (by decide)
      · have := hz.bound
        exact ⟨.inr ⟨_, e, .inr ⟨z, rfl, hz⟩⟩, by omega⟩
end Go.Proofs.Ytmgpimibnogcaaa
