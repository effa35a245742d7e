/-
  Fits over the arena of blocks; what is kept beside it.
-/
import Derived.Test.YtmgpimibnogcaaaRk
set_option linter.unusedVariables false
set_option linter.unusedSimpArgs false
namespace Go.Proofs.Ytmgpimibnogcaaa
open Go.RowKit

section
variable {q p b : Nat} {Bs : List Blk} {w w' : World}
theorem Arena.below (h : Arena q p b Bs w) (hb : Below w.heap.size w w') : Arena q p b Bs w' := ⟨h.1, h.2.below hb⟩
theorem Arena.drewN (h : Arena q p b Bs w) (n : Nat) : Arena q p b Bs (w.drewN n) := ⟨h.1, h.2.drewN n⟩
theorem Arena.lt (h : Arena q p b Bs w) : q < w.heap.size ∧ p < w.heap.size ∧ b < w.heap.size := by
  obtain ⟨_, bs, fr, hab, _⟩ := h
  exact hab.lt
theorem Arena.keep (h : Arena q p b Bs w) (hk : ∀ k, k = q ∨ k = p ∨ k = b → w'.heap[k]? = w.heap[k]?) : Arena q p b Bs w' := by
  obtain ⟨h1, bs, fr, hab, h2⟩ := h
  exact ⟨h1, bs, fr, hab.keep hk, h2⟩
theorem Upd.below {S : List Nat} {B : Nat} (h : Upd S w w') (hs : ∀ x ∈ S, B ≤ x) (hB : B ≤ w.heap.size) : Below B w w' :=
  ⟨h.os, h.tape, h.output, h.size, fun k hk => h.block k (by omega) (fun hx => by have := hs k hx; omega)⟩
theorem arena_fits (h : Arena q p b Bs w) (n : Int) :
    Calls Try.prog 16 #[.pointer (some ⟨q, 0, none⟩), .int .i64 n] w fun e w' => ∃ r : Bool, e = .returned (.bool r) ∧ (r = true ↔ (1 ≤ n ∧ n ≤ 1048576) ∧ ∃ c ∈ Bs, c.us = false ∧ n.toNat + 1 ≤ c.sz) ∧ ∃ k, w' = w.drewN k := by
  refine (fits_any h.2 n).mono ?_
  rintro e w' (⟨h1, rfl, rfl⟩ | ⟨h1, r, hb, rfl, hk⟩)
  · exact ⟨false, rfl, ⟨fun h => Bool.noConfusion h, fun h => absurd h.1 h1⟩, 0, rfl⟩
  · refine ⟨_, rfl, ?_, hk⟩
    rw [decide_eq_true_eq]
    rcases hb with ⟨rfl, hb⟩ | ⟨⟨c, hc, hf⟩, h0, hb, _⟩
    · refine ⟨fun h => absurd rfl h, fun ⟨_, c, hc, hf, hz⟩ => ?_⟩
      obtain ⟨pre, post, rfl⟩ := List.append_of_mem hc
      have hat : At (pre ++ c :: post) (1 + len pre) c := ⟨pre, post, rfl, rfl⟩
      have := hb _ ⟨c, hat, hf⟩
      rw [hat.szW] at this
      omega
    · rw [hc.szW] at hb
      exact ⟨fun _ => ⟨h1, c, hc.mem, hf, hb⟩, fun _ => by omega⟩
end
end Go.Proofs.Ytmgpimibnogcaaa
