/-
  CUT by wip/tools/rawprune.py: what is needed of an earlier stage's text.
-/
import Derived.Test.YtbeelcklbdnjnaaK5
import Derived.Great.Walk
set_option linter.unusedVariables false
set_option linter.unusedSimpArgs false
namespace Go.Proofs.Ytbeelcklbdnjnaa
open Go.RowKit

def okJ (l : List In) (t : Int) : Bool := l.any fun y => y.pc == t
theorem jumps_no {l : List In} {i : Nat} {x : In} {t : Int} (hx : l[i]? = some x) (ht : t ∈ x.to) (h : okJ l t = false) : flowP l = 12 := by
  unfold flowP
  rw [if_neg]
  intro hj
  unfold jumpsP at hj
  have := List.all_eq_true.1 hj x (List.mem_of_getElem? hx)
  have := List.all_eq_true.1 this t ht
  unfold okJ at h
  rw [h] at this
  cases this
theorem jumps_yes {l : List In} (h : ∀ (i : Nat) (x : In), l[i]? = some x → ∀ t ∈ x.to, okJ l t = true) : flowP l = if endsP (lastP l) then 0 else 13 := by
  unfold flowP
  rw [if_pos]
  unfold jumpsP
  rw [List.all_eq_true]
  intro x hx
  rw [List.all_eq_true]
  intro t ht
  obtain ⟨i, hi⟩ := List.mem_iff_getElem?.1 hx
  exact h i x hi t ht
theorem last_of {l : List In} {x : In} (h : l[l.length - 1]? = some x) : lastP l = x.op := by
  unfold lastP
  rw [List.getLast?_eq_getElem?, h]
  rfl
end Go.Proofs.Ytbeelcklbdnjnaa
