/-
  WHAT THE CONDITION ON THE LISTED VARIABLE GIVES: the table of the names.
-/
import Derived.Test.YtjdaaecbnhcoaaaDoorK1
import Derived.Test.YtjdaaecbnhcoaaaDoorTie
import Derived.ProofKit
import Derived.LaidMore
import Derived.OpenShut
import Derived.Stop.Joined
namespace Go.Proofs.YtjdaaecbnhcoaaaDoor
open Go.ChangeShapes Go.WideShapes Go.ChangeAt Go.RowKit

theorem own : ownKnob Tryd.prog.godebug = none := by kernel_rfl
theorem gNames : Tryd.prog.globalNamed "crucible/code.names" = some 0 := by kernel_rfl
theorem tNames : (Tryd.prog.globals[0]?).map (·.type) = some 50 := by kernel_rfl
abbrev laidN : List (String × DataW Unit) := [("crucible/code.names", Rows.laid_crucible_code_names)]
theorem laid_names : (Rows.laid_crucible_code_names : DataW Unit) = .agg (nmL.map fun b => .lit (.string (L b))) := by rfl
theorem L_inj {s t : ByteArray} (h : L s = L t) : s = t := by
  cases s with | mk a => cases t with | mk b => simp only [L] at h; congr 1; exact Array.toList_inj.1 h
/-- The door's own heap meets the condition. -/
theorem door_met (os : Os) (args : Array Value) : laidMetH Tryd.prog laidN ((World.doorLaid Tryd.prog 400 os).forCall (fun _ _ => 0) ⟨#[], args, []⟩).memory :=
  laidMetH_of_parts3 (fuel := 8) (laidMet_of_run' 8 (by kernel_rfl) (by kernel_rfl)) (by kernel_rfl) (by kernel_rfl)
theorem of_laid {W : World} (h : laidMetH Tryd.prog laidN W) : Names W := by
  rw [MakeChecks.laidMetH_plain _ _ _ (by kernel_rfl)] at h
  obtain ⟨ps, ⟨g0, t0, cs0, f0, p0, q0, hg0, ht0, hv0, hd0, _, _⟩, _⟩ := h
  obtain rfl := Option.some.inj (gNames.symm.trans hg0)
  obtain rfl := Option.some.inj (tNames.symm.trans ht0)
  obtain ⟨xs, m1, rfl, hx1, hlen, hn3, hel⟩ := DataW.trod_array Tryd.underlying50 hd0
  have c9 : Tryd.prog.cellsOf 9 = 1 := by kernel_rfl
  simp only [Prod.mk.injEq] at hx1
  have hx := hx1.1
  rw [laid_names] at hx
  simp only [DataW.agg.injEq] at hx
  intro k hk
  have h1 := hel k hk
  rw [c9, Nat.mul_one] at h1
  have hxk : xs[k]? = some (xs[k]'(by omega)) := List.getElem?_eq_getElem (by omega)
  rw [hxk] at h1
  obtain ⟨s, e1, e2, _⟩ := DataW.trod_string Tryd.underlying9 h1
  have e3 : (xs.map (·.1))[k]? = some (.lit (.string (L s))) := by rw [List.getElem?_map, hxk, e2]; rfl
  rw [← hx, List.getElem?_map] at e3
  have hn : nmL[k]? = some (nm k) := by
    unfold nm
    have : k < nmL.length := hk
    rw [List.getElem?_eq_getElem this]
    simp [this]
  rw [hn] at e3
  simp only [Option.map_some, Option.some.injEq, DataW.lit.injEq] at e3
  injection e3 with e3
  have hs : nm k = s := L_inj e3
  have := World.var?_cell gNames hv0 k
  rw [this, hs]
  have e4 : (cs0.toList.drop k)[0]? = some (.string s) := by
    have := congrArg (fun l => l[0]?) e1
    simpa [List.getElem?_take] using this
  simpa using e4
end Go.Proofs.YtjdaaecbnhcoaaaDoor
