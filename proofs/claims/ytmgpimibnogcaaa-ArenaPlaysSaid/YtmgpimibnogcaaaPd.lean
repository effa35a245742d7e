/-
  Alloc over the arena of blocks.
-/
import Derived.Test.YtmgpimibnogcaaaPc
set_option linter.unusedVariables false
set_option linter.unusedSimpArgs false
namespace Go.Proofs.Ytmgpimibnogcaaa
open Go.RowKit

theorem noAdj_tail {b : Blk} : ∀ {r : List Blk}, NoAdj (b :: r) → NoAdj r
  | [], _ => trivial
  | _ :: _, h => h.2
theorem noAdj_right : ∀ {A B : List Blk}, NoAdj (A ++ B) → NoAdj B
  | [], _, h => h
  | a :: A, B, h => noAdj_right (A := A) (noAdj_tail h)
/-- A free block's two neighbours are used: any used ones may be put there. -/
theorem noAdj_put : ∀ (pre : List Blk) (b : Blk) (post mid : List Blk), NoAdj (pre ++ b :: post) → b.us = false → (∃ c m, mid = c :: m ∧ (c.us = true ∨ c.us = false)) → NoAdj (mid ++ post) → NoAdj (pre ++ mid ++ post)
  | [], b, post, mid, _, _, _, h => h
  | [p], b, post, mid, h, hu, ⟨c, m, hm, _⟩, h2 => by
    subst hm
    refine ⟨?_, h2⟩
    rcases h.1 with h1 | h1
    · exact .inl h1
    · rw [hu] at h1
      exact absurd h1 (by decide)
  | p :: q :: pre, b, post, mid, h, hu, hm, h2 => ⟨h.1, noAdj_put (q :: pre) b post mid h.2 hu hm h2⟩
theorem noAdj_used {c : Blk} (hc : c.us = true) : ∀ {r : List Blk}, NoAdj r → NoAdj (c :: r)
  | [], _ => trivial
  | _ :: _, h => ⟨.inl hc, h⟩
theorem noAdj_free {b c : Blk} (hu : b.us = false) : ∀ {r : List Blk}, NoAdj (b :: r) → NoAdj (c :: r)
  | [], _ => trivial
  | d :: _, h => ⟨.inr (h.1.resolve_left (by rw [hu]; decide)), h.2⟩
theorem takeB_len (n : Nat) (b : Blk) (hn : n + 1 ≤ b.sz) : len (takeB n b) = b.sz := by
  unfold takeB
  by_cases h : n + 3 ≤ b.sz
  · rw [if_pos h, len_cons, len_cons, len_nil]
    show (List.replicate n 0).length + 1 + ((List.replicate (b.sz - 2 - n) PZ).length + 1 + 0) = _
    rw [List.length_replicate, List.length_replicate]
    omega
  · rw [if_neg h, len_cons, len_nil]
    show (List.replicate b.body.length 0).length + 1 + 0 = _
    rw [List.length_replicate]
    rfl
theorem wf_take {pre post : List Blk} {b : Blk} {n : Nat} (h : Wf (pre ++ b :: post)) (hu : b.us = false) (h0 : 1 ≤ n) (hn : n + 1 ≤ b.sz) : Wf (pre ++ takeB n b ++ post) := by
  have hb := h.body b (by simp)
  have hl : (words (pre ++ takeB n b ++ post)).length = (words (pre ++ b :: post)).length := by
    rw [words_length, words_length, len_append, len_append, len_append, len_cons, takeB_len n b hn]
    omega
  have hm : ∀ c ∈ takeB n b, 1 ≤ c.body.length ∧ (c.us = false → c.body = List.replicate c.body.length PZ) := by
    intro c hc
    unfold takeB at hc
    by_cases hq : n + 3 ≤ b.sz
    · rw [if_pos hq] at hc
      rcases List.mem_cons.1 hc with rfl | hc
      · exact ⟨by show 1 ≤ (List.replicate n (0 : Int)).length; rw [List.length_replicate]; exact h0, fun hf => Bool.noConfusion hf⟩
      · rw [List.mem_singleton] at hc
        subst hc
        refine ⟨?_, fun _ => ?_⟩
        · show 1 ≤ (List.replicate (b.sz - 2 - n) PZ).length
          rw [List.length_replicate]
          omega
        · show List.replicate (b.sz - 2 - n) PZ = List.replicate (List.replicate (b.sz - 2 - n) PZ).length PZ
          rw [List.length_replicate]
    · rw [if_neg hq, List.mem_singleton] at hc
      subst hc
      exact ⟨by show 1 ≤ (List.replicate b.body.length (0 : Int)).length; rw [List.length_replicate]; exact hb, fun hf => Bool.noConfusion hf⟩
  have ho : ∀ c ∈ pre ++ takeB n b ++ post, c ∈ pre ++ b :: post ∨ c ∈ takeB n b := by
    intro c hc
    simp only [List.mem_append, List.mem_cons] at hc ⊢
    rcases hc with (hc | hc) | hc
    · exact .inl (.inl hc)
    · exact .inr hc
    · exact .inl (.inr (.inr hc))
  refine ⟨fun c hc => ?_, fun c hc hf => ?_, ?_, by rw [hl]; exact h.n1, by rw [hl]; exact h.n2⟩
  · rcases ho c hc with hc | hc
    · exact h.body c hc
    · exact (hm c hc).1
  · rcases ho c hc with hc | hc
    · exact h.pois c hc hf
    · exact (hm c hc).2 hf
  · have hr := noAdj_right h.adj
    refine noAdj_put pre b post _ h.adj hu ?_ ?_
    · unfold takeB
      by_cases hq : n + 3 ≤ b.sz
      · rw [if_pos hq]
        exact ⟨_, _, rfl, .inl rfl⟩
      · rw [if_neg hq]
        exact ⟨_, _, rfl, .inl rfl⟩
    · unfold takeB
      by_cases hq : n + 3 ≤ b.sz
      · rw [if_pos hq]
        exact noAdj_used rfl (noAdj_free hu hr)
      · rw [if_neg hq]
        exact noAdj_used rfl (noAdj_tail hr)
/-- Alloc, over blocks. -/
theorem arena_alloc (q p b : Nat) (Bs : List Blk) (w : World) (h : Arena q p b Bs w) (n : Int) :
    Calls Try.prog 17 #[.pointer (some ⟨q, 0, none⟩), .int .i64 n] w fun e w' =>
      (¬ (1 ≤ n ∧ n ≤ 1048576) ∧ e = .returned (.tuple #[.int .i64 0, .int .i64 1]) ∧ w' = w) ∨
      ((1 ≤ n ∧ n ≤ 1048576) ∧ (∀ c ∈ Bs, c.us = false → c.sz < n.toNat + 1) ∧ e = .returned (.tuple #[.int .i64 0, .int .i64 23]) ∧ ∃ k, w' = w.drewN k) ∨
      ((1 ≤ n ∧ n ≤ 1048576) ∧ ∃ (pre : List Blk) (c : Blk) (post : List Blk), Bs = pre ++ c :: post ∧ c.us = false ∧ n.toNat + 1 ≤ c.sz ∧
        (∀ a d, At Bs a d → d.us = false → n.toNat + 1 ≤ d.sz → c.sz < d.sz ∨ (c.sz = d.sz ∧ 1 + len pre ≤ a)) ∧
        e = .returned (.tuple #[.int .i64 ((1 + len pre : Nat) : Int), .int .i64 0]) ∧ Arena q p b (pre ++ takeB n.toNat c ++ post) w' ∧ Upd [q, p, b] w w') := by
  refine (alloc_any q p b _ _ _ w h.2 (wf_sep h.1) n).mono ?_
  rintro e w' (⟨h1, rfl, rfl⟩ | ⟨h1, r, hb, ⟨rfl, rfl, hk⟩ | ⟨hr, rfl, hm, hu⟩⟩)
  · exact .inl ⟨h1, rfl, rfl⟩
  · refine .inr (.inl ⟨h1, fun c hc hf => ?_, rfl, hk⟩)
    obtain ⟨pre, post, rfl⟩ := List.append_of_mem hc
    have hat : At (pre ++ c :: post) (1 + len pre) c := ⟨pre, post, rfl, rfl⟩
    rcases hb with ⟨_, hb⟩ | ⟨_, hb, _⟩
    · have := hb _ ⟨c, hat, hf⟩
      rw [hat.szW] at this
      exact this
    · exact absurd hb (by decide)
  · rcases hb with ⟨hb, _⟩ | ⟨⟨c, hc, hf⟩, hb1, hb2, hb3⟩
    · exact absurd hb hr
    · have hs := hc.szW
      obtain ⟨pre, post, rfl, rfl⟩ := hc
      rw [hs] at hb2
      refine .inr (.inr ⟨h1, pre, c, post, rfl, hf, hb2, fun a d ha hd hz => ?_, rfl, ⟨wf_take h.1 hf (by omega) hb2, ?_⟩, hu⟩)
      · have hz1 := ha.szW
        have := hb3 a ⟨d, ha, hd⟩ (by rw [hz1]; exact hz)
        have hf1 := ha.fits
        have hf2 := At.fits (Bs := pre ++ c :: post) (a := 1 + len pre) (b := c) ⟨pre, post, rfl, rfl⟩
        have hn2 := h.1.n2
        unfold keyW at this
        rw [hs, hz1] at this
        have hp := ha.facts.1
        unfold Blk.sz at *
        omega
      · rw [takeW_mid pre post c _ hb2 hf (h.1.pois c (by simp) hf), takeA_mid pre post c _ hb2, takeP_mid pre post c _ hb2 hf] at hm
        exact hm
end Go.Proofs.Ytmgpimibnogcaaa
