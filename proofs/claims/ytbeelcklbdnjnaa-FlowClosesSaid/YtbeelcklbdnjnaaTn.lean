/-
  CUT by wip/tools/rawprune.py: what is needed of an earlier stage's text.
-/
import Derived.Test.YtbeelcklbdnjnaaJn
set_option linter.unusedVariables false
set_option linter.unusedSimpArgs false
namespace Go.Proofs.Ytbeelcklbdnjnaa
open Go.RowKit

theorem Drawn.nrow {B : Nat} {w wr : World} {v : Value} {l : List In} (h : Drawn w wr) (hr : NRow B w v l) : NRow B wr v l := by
  obtain ⟨m, rfl⟩ := h
  exact hr.drewN m
theorem cell_of' {w : World} {b : Nat} {cs : Array Value} {t : TypeId} {m : Nat × Nat} (h : w.heap[b]? = some (.cells cs t m)) (i : Nat) : w.cell? ⟨b, i, none⟩ = cs[i]? := by simp [World.cell?, h]
end Go.Proofs.Ytbeelcklbdnjnaa
