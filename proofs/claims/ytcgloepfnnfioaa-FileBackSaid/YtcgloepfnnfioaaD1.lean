/-
  PRUNED by wip/tools/prunem.py: what these texts need of an earlier stage's.
-/
import Derived.Test.YtcgloepfnnfioaaDp
import Derived.Test.YtcgloepfnnfioaaShelf
set_option linter.unusedVariables false
set_option linter.unusedSimpArgs false
namespace Go.Proofs.Ytcgloepfnnfioaa
open Go.RowKit

theorem bcell {W w1 : World} (hb : Below W.heap.size W w1) : (∀ b o, b < W.heap.size → w1.cell? ⟨b, o, none⟩ = W.cell? ⟨b, o, none⟩) ∧ (∀ b o, b < W.heap.size → w1.frozen? ⟨b, o, none⟩ = W.frozen? ⟨b, o, none⟩) :=
  ⟨fun b o h => hb.cell (p := ⟨b, o, none⟩) h, fun b o h => hb.frozen (p := ⟨b, o, none⟩) h⟩
theorem toList_data (s : ByteArray) : s.toList = L s := Lib.toList_data s
theorem size0_nil {s : ByteArray} (h : s.size = 0) : L s = [] := List.eq_nil_of_length_eq_zero (by rw [← size_L]; exact h)
theorem sizepos_ne {s : ByteArray} (h : 0 < s.size) : L s ≠ [] := by
  intro e
  rw [size_L, e] at h
  simp at h
theorem nil_of0 {s : ByteArray} (h : s.size = 0) : s.toList = [] := by rw [toList_data]; exact size0_nil h
theorem ne_ofpos {s : ByteArray} (h : 0 < s.size) : ¬ s.toList = [] := by rw [toList_data]; exact sizepos_ne h
theorem emp_of0 {s : ByteArray} (h : s.size = 0) : s.toList.isEmpty = true := by rw [nil_of0 h]; rfl
theorem emp_ofpos {s : ByteArray} (h : 0 < s.size) : s.toList.isEmpty = false := by simpa using ne_ofpos h
end Go.Proofs.Ytcgloepfnnfioaa
