/-
  PRUNED by wip/tools/prunem.py: what these texts need of an earlier stage's.
-/
import Derived.Test.YtcgloepfnnfioaaW11
import Derived.Deep.DeepCutAuto
import Derived.Deep.CutBlock
import Derived.Deep.LoopGhost
set_option linter.unusedVariables false
set_option linter.unusedSimpArgs false
namespace Go.Proofs.Ytcgloepfnnfioaa
open Go.RowKit

def r2 (l : List UInt8) : Nat := (at0 l 0 - 192) * 64 + (at0 l 1 - 128)
end Go.Proofs.Ytcgloepfnnfioaa
