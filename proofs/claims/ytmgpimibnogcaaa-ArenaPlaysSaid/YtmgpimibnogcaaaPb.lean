/-
  PLAIN: the arena as a row of blocks: its words, notes and lists are sound.
-/
import Derived.Test.YtmgpimibnogcaaaW9
set_option linter.unusedVariables false
set_option linter.unusedSimpArgs false
namespace Go.Proofs.Ytmgpimibnogcaaa
open Go.RowKit

theorem at_apart : ∀ {pre pre' : List Blk} {b b' : Blk} {post post' : List Blk}, pre ++ b :: post = pre' ++ b' :: post' → len pre < len pre' → len pre + b.sz ≤ len pre'
  | [], [], _, _, _, _, _, hl => absurd hl (Nat.lt_irrefl _)
  | [], x :: pre', b, b', post, post', h, _ => by
    simp only [List.nil_append, List.cons_append, List.cons.injEq] at h
    rw [len_nil, len_cons, h.1]
    omega
  | x :: pre, [], _, _, _, _, _, hl => by rw [len_nil] at hl; omega
  | x :: pre, y :: pre', b, b', post, post', h, hl => by
    rw [List.cons_append, List.cons_append, List.cons.injEq] at h
    obtain ⟨rfl, h⟩ := h
    rw [len_cons, len_cons] at hl ⊢
    have := at_apart h (by omega)
    omega
/-- Two neighbours are not both free. -/
def NoAdj : List Blk → Prop
  | a :: b :: r => (a.us = true ∨ b.us = true) ∧ NoAdj (b :: r)
  | _ => True
/-- The blocks of an arena. -/
structure Wf (Bs : List Blk) : Prop where
  body : ∀ b ∈ Bs, 1 ≤ b.body.length
  pois : ∀ b ∈ Bs, b.us = false → b.body = List.replicate b.body.length PZ
  adj : NoAdj Bs
  n1 : 16 ≤ (words Bs).length
  n2 : (words Bs).length ≤ 1048576
section
variable {Bs : List Blk} {a : Nat} {b : Blk}
theorem At.mem (h : At Bs a b) : b ∈ Bs := by
  obtain ⟨pre, post, rfl, _⟩ := h
  simp
theorem At.fits (h : At Bs a b) : a + b.sz ≤ (words Bs).length := by
  obtain ⟨pre, post, rfl, rfl⟩ := h
  rw [words_length, len_append, len_cons]
  omega
theorem Blk.hd_half (b : Blk) : b.hd / 2 = (b.sz : Int) := by
  unfold Blk.hd
  split <;> omega
theorem At.szW (h : At Bs a b) : szW (words Bs) a = b.sz := by
  obtain ⟨_, _, h3, _⟩ := h.facts
  unfold Go.Proofs.Ytmgpimibnogcaaa.szW
  rw [h3, Option.getD_some, b.hd_half]
  omega
theorem At.head (h : At Bs a b) (hw : Wf Bs) : (words Bs)[a]? = some b.hd ∧ 4 ≤ b.hd ∧ b.hd < 2097152 := by
  obtain ⟨h1, h2, h3, _⟩ := h.facts
  have h4 := h.fits
  have h5 := hw.n2
  have h6 := hw.body b h.mem
  refine ⟨h3, ?_, ?_⟩ <;> unfold Blk.hd Blk.sz at * <;> split <;> omega
theorem At.apart (h : At Bs a b) {j : Nat} (h0 : 0 < j) (h1 : j < b.sz) (b' : Blk) : ¬ At Bs (a + j) b' := by
  rintro ⟨pre', post', e', hl⟩
  obtain ⟨pre, post, e, rfl⟩ := h
  rw [e] at e'
  have := at_apart e' (by omega)
  omega
theorem wf_good (hw : Wf Bs) : Good (words Bs) (ahs Bs) := by
  intro a k hk h0
  have hl : a < (words Bs).length := by
    have := (List.getElem?_eq_some_iff.1 hk).1
    rw [ahs_length] at this
    rw [words_length]
    exact this
  rcases ahs_at Bs a hl with ⟨b, hb⟩ | hz
  · obtain ⟨h1, h2, h3⟩ := hb.head hw
    exact ⟨b.hd, h1, by omega, h3⟩
  · rw [hz] at hk
    have := Option.some.inj hk
    omega
theorem wf_sep (hw : Wf Bs) : Sep (words Bs) (FreeAt Bs) := by
  rintro a ⟨b, hb, hu⟩
  obtain ⟨h1, _⟩ := hb.facts
  have h2 := hw.body b hb.mem
  refine ⟨h1, ?_, ?_, fun j h0 hj => ?_⟩
  · rw [hb.szW]; unfold Blk.sz; omega
  · rw [hb.szW]; exact hb.fits
  · rw [hb.szW] at hj
    rintro ⟨b', hb', _⟩
    exact hb.apart h0 hj b' hb'
theorem isW_at (hw : Wf Bs) (st : Bool) (at_ : Int) : isW (words Bs) (ahs Bs) (if st = true then 1 else 0) at_ = true ↔ ∃ b, 0 < at_ ∧ At Bs at_.toNat b ∧ b.us = st := by
  unfold isW
  rw [Bool.and_eq_true, Bool.and_eq_true, decide_eq_true_eq, decide_eq_true_eq, decide_eq_true_eq]
  have hp : ∀ b : Blk, b.hd % 2 = (if b.us = true then 1 else 0) := fun b => by
    unfold Blk.hd
    split <;> omega
  constructor
  · rintro ⟨⟨h1, h2⟩, h3⟩
    have hl : at_.toNat < (ahs Bs).length := by
      rcases Nat.lt_or_ge at_.toNat (ahs Bs).length with h | h
      · exact h
      · rw [List.getElem?_eq_none h] at h2
        simp at h2
    rw [ahs_length, ← words_length] at hl
    rcases ahs_at Bs at_.toNat hl with ⟨b, hb⟩ | hz
    · obtain ⟨_, _, h4, _⟩ := hb.facts
      rw [h4, Option.getD_some, hp b] at h3
      refine ⟨b, h1, hb, ?_⟩
      cases hu : b.us <;> cases st <;> simp [hu] at h3 ⊢
    · rw [hz] at h2
      simp at h2
  · rintro ⟨b, h1, hb, hu⟩
    obtain ⟨_, _, h4, k, h5, h6⟩ := hb.facts
    rw [h4, h5, Option.getD_some, Option.getD_some, hp b, hu]
    exact ⟨⟨h1, h6⟩, rfl⟩
end
/-- The arena of the blocks Bs, in memory. -/
def Arena (q p b : Nat) (Bs : List Blk) (w : World) : Prop := Wf Bs ∧ Mem q p b (words Bs) (ahs Bs) (FreeAt Bs) w
end Go.Proofs.Ytmgpimibnogcaaa
