/-
  What the laws' scripts do to an arena of blocks; the choice of the least block.
-/
import Derived.Test.YtmgpimibnogcaaaOa
set_option linter.unusedVariables false
set_option linter.unusedSimpArgs false
namespace Go.Proofs.Ytmgpimibnogcaaa
open Go.RowKit

section
variable {q p b : Nat} {Bs : List Blk} {w : World}
theorem alloc_some (h : Arena q p b Bs w) (n : Nat) (h1 : 1 ≤ n) (h2 : n ≤ 1048576) :
    Calls Try.prog 17 #[.pointer (some ⟨q, 0, none⟩), .int .i64 (n : Int)] w fun e w' => ∃ (x y : Int) (Bs' : List Blk), e = .returned (.tuple #[.int .i64 x, .int .i64 y]) ∧ Arena q p b Bs' w' ∧ len Bs' = len Bs ∧ Upd [q, p, b] w w' := by
  refine (arena_alloc q p b Bs w h n).mono ?_
  rintro e w' (⟨h3, _, _⟩ | ⟨_, _, rfl, k, hk⟩ | ⟨_, pre, c, post, rfl, hf, hz, _, rfl, ha, hu⟩)
  · omega
  · exact ⟨0, 23, Bs, rfl, by rw [hk]; exact h.drewN k, rfl, by rw [hk]; exact (Upd.refl _ _).drewN k⟩
  · refine ⟨_, _, _, rfl, ha, ?_, hu⟩
    rw [len_append, len_append, len_append, len_cons, takeB_len _ _ hz]
    omega
theorem free_some (h : Arena q p b Bs w) (x : Int) (hx : x ∈ usedL 1 Bs) :
    Calls Try.prog 19 #[.pointer (some ⟨q, 0, none⟩), .int .i64 x] w fun e w' => ∃ Bs' : List Blk, e = .returned (.int .i64 0) ∧ Arena q p b Bs' w' ∧ len Bs' = len Bs ∧ Upd [q, p, b] w w' := by
  obtain ⟨pre, c, post, rfl, hu, rfl⟩ := mem_usedL hx
  refine (arena_free q p b pre post c w h hu).mono ?_
  rintro e w' ⟨rfl, pre1, dl, er, post1, rfl, rfl, _, _, ha, hU⟩
  refine ⟨_, rfl, ha, ?_, hU⟩
  have : 1 ≤ c.sz := by unfold Blk.sz; omega
  rw [len_append, len_cons, len_append, len_append, len_cons, len_append, freeBk_sz (by omega)]
  omega
end
/-- The choice among the blocks pre: none, or the least, of several the first. -/
def Sel (n : Nat) (pre : List Blk) (best size : Nat) : Prop :=
  (best = 0 ∧ ∀ c ∈ pre, c.us = false → c.sz < n + 1) ∨
  ∃ A c C, pre = A ++ c :: C ∧ c.us = false ∧ n + 1 ≤ c.sz ∧ best = 1 + len A ∧ size = c.sz ∧ (∀ d ∈ A, d.us = false → n + 1 ≤ d.sz → c.sz < d.sz) ∧ ∀ d ∈ C, d.us = false → n + 1 ≤ d.sz → c.sz ≤ d.sz
theorem Sel.start (n s : Nat) : Sel n [] 0 s := .inl ⟨rfl, fun c hc => by simp at hc⟩
theorem Sel.pass {n : Nat} {pre : List Blk} {best size : Nat} (h : Sel n pre best size) {c : Blk} (hc : ¬ (c.us = false ∧ n + 1 ≤ c.sz ∧ (best = 0 ∨ c.sz < size))) : Sel n (pre ++ [c]) best size := by
  rcases h with ⟨rfl, h⟩ | ⟨A, d, C, rfl, h1, h2, rfl, rfl, h3, h4⟩
  · refine .inl ⟨rfl, fun x hx hu => ?_⟩
    rw [List.mem_append, List.mem_singleton] at hx
    rcases hx with hx | rfl
    · exact h x hx hu
    · exact Nat.lt_of_not_le fun hle => hc ⟨hu, hle, .inl rfl⟩
  · refine .inr ⟨A, d, C ++ [c], by simp, h1, h2, rfl, rfl, h3, fun x hx hu hz => ?_⟩
    rw [List.mem_append, List.mem_singleton] at hx
    rcases hx with hx | rfl
    · exact h4 x hx hu hz
    · exact Nat.le_of_not_lt fun hlt => hc ⟨hu, hz, .inr hlt⟩
theorem Sel.take {n : Nat} {pre : List Blk} {best size : Nat} (h : Sel n pre best size) {c : Blk} (hu : c.us = false) (hz : n + 1 ≤ c.sz) (hc : best = 0 ∨ c.sz < size) : Sel n (pre ++ [c]) (1 + len pre) c.sz := by
  refine .inr ⟨pre, c, [], rfl, hu, hz, rfl, rfl, fun x hx hux hzx => ?_, fun x hx => by simp at hx⟩
  rcases h with ⟨rfl, h⟩ | ⟨A, d, C, rfl, h1, h2, rfl, rfl, h3, h4⟩
  · have := h x hx hux
    omega
  · have hcd : c.sz < d.sz := by
      rcases hc with hc | hc
      · omega
      · exact hc
    rw [List.mem_append, List.mem_cons] at hx
    rcases hx with hx | rfl | hx
    · have := h3 x hx hux hzx
      omega
    · exact hcd
    · have := h4 x hx hux hzx
      omega
theorem Sel.some_iff {n : Nat} {Bs : List Blk} {best size : Nat} (h : Sel n Bs best size) : (∃ c ∈ Bs, c.us = false ∧ n + 1 ≤ c.sz) ↔ 0 < best := by
  rcases h with ⟨rfl, h⟩ | ⟨A, d, C, rfl, h1, h2, rfl, rfl, h3, h4⟩
  · exact ⟨fun ⟨c, hc, hu, hz⟩ => by have := h c hc hu; omega, fun h => absurd h (Nat.lt_irrefl 0)⟩
  · exact ⟨fun _ => by omega, fun _ => ⟨d, by simp, h1, h2⟩⟩
section
variable {q p b : Nat} {Bs : List Blk} {w : World}
theorem arena_raw_at {pre r : List Blk} {c : Blk} (hB : Bs = pre ++ c :: r) (h : Arena q p b Bs w) :
    Calls Try.prog 23 #[.pointer (some ⟨q, 0, none⟩), .int .i64 ((1 + len pre : Nat) : Int)] w fun e w' => e = .returned (.tuple #[.int .i64 c.hd, .bool true]) ∧ w' = w := by
  subst hB
  have hat : At (pre ++ c :: r) (1 + len pre) c := ⟨pre, r, rfl, rfl⟩
  obtain ⟨h1, _⟩ := hat.head h.1
  have h2 := hat.facts.2.1
  refine (arena_raw h _).mono ?_
  rintro e w' ⟨rfl, rfl⟩
  rw [if_pos ⟨by omega, by omega⟩, Int.toNat_natCast, h1]
  exact ⟨rfl, rfl⟩
/-- Fits and Alloc, where the choice is known. -/
theorem fits_sel {n best size : Nat} (hs : Sel n Bs best size) (h : Arena q p b Bs w) (h1 : 1 ≤ n) (h2 : n ≤ 1048576) :
    Calls Try.prog 16 #[.pointer (some ⟨q, 0, none⟩), .int .i64 (n : Int)] w fun e w' => e = .returned (.bool (decide (0 < best))) ∧ ∃ k, w' = w.drewN k := by
  refine (arena_fits h n).mono ?_
  rintro e w' ⟨r, rfl, hr, hk⟩
  refine ⟨?_, hk⟩
  rw [Int.toNat_natCast] at hr
  congr 2
  rw [Bool.eq_iff_iff, decide_eq_true_eq, hr, hs.some_iff]
  exact ⟨fun h => h.2, fun h => ⟨by omega, h⟩⟩
theorem alloc_sel {n best size : Nat} (hs : Sel n Bs best size) (h : Arena q p b Bs w) (h1 : 1 ≤ n) (h2 : n ≤ 1048576) :
    Calls Try.prog 17 #[.pointer (some ⟨q, 0, none⟩), .int .i64 (n : Int)] w fun e w' => e = .returned (.tuple #[.int .i64 (best : Int), .int .i64 (if 0 < best then 0 else 23)]) ∧ (∃ Bs', Arena q p b Bs' w') ∧ Upd [q, p, b] w w' := by
  rcases hs with ⟨rfl, hs⟩ | ⟨A, d, C, rfl, g1, g2, rfl, rfl, g3, g4⟩
  · refine (alloc_none h n h1 h2 hs).mono ?_
    rintro e w' ⟨rfl, k, rfl⟩
    exact ⟨rfl, ⟨_, h.drewN k⟩, (Upd.refl _ _).drewN k⟩
  · refine (alloc_at h n h1 h2 g1 g2 g3 g4).mono ?_
    rintro e w' ⟨rfl, ha, hu⟩
    exact ⟨by rw [if_pos (by omega)], ⟨_, ha⟩, hu⟩
end
end Go.Proofs.Ytmgpimibnogcaaa
