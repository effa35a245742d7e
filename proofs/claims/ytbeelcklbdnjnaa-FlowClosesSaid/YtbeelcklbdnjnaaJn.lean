/-
  CUT by wip/tools/rawprune.py: what is needed of an earlier stage's text.
-/
import Derived.Test.YtbeelcklbdnjnaaK8
import Derived.Test.YtbeelcklbdnjnaaK1
import Derived.Deep.MidRow
import Derived.Test.YtbeelcklbdnjnaaSi
import Derived.Test.YtbeelcklbdnjnaaPl
set_option linter.unusedVariables false
set_option linter.unusedSimpArgs false
namespace Go.Proofs.Ytbeelcklbdnjnaa
open Go.RowKit

theorem Drawn.cell {w wr : World} (h : Drawn w wr) (a : Addr) : wr.cell? a = w.cell? a := by
  obtain ⟨m, rfl⟩ := h
  rfl
theorem Drawn.keep {B : Nat} {a w wr : World} (h : Drawn w wr) (hb : Below B a w) : Below B a wr := by
  obtain ⟨m, rfl⟩ := h
  exact below_drewN hb m
end Go.Proofs.Ytbeelcklbdnjnaa
