/-
  PRUNED by wip/tools/prunem.py: what these texts need of an earlier stage's.
-/
import Derived.Test.YtcgloepfnnfioaaD1
set_option linter.unusedVariables false
set_option linter.unusedSimpArgs false
namespace Go.Proofs.Ytcgloepfnnfioaa
open Go.RowKit

def mkB (l : List UInt8) : ByteArray := ⟨l.toArray⟩
theorem mkB_L (s : ByteArray) : mkB (L s) = s := by cases s; rfl
theorem eq_mkB {s : ByteArray} {l : List UInt8} (h : L s = l) : s = mkB l := by rw [← h, mkB_L]
end Go.Proofs.Ytcgloepfnnfioaa
