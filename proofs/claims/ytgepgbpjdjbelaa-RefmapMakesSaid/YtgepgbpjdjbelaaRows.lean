/-
  No cell of these rows narrows 'for every input' (looked for: loops, veiled, ifaces, maps, wideKeys, modest, calm, conditions, laid).
  DERIVED. THE GIVEN ROWS OF THIS SEAT. 4 by the template 'for every input the law returns true; each argument reads behind the call as it read before'; 0 by the template 'total and deterministic' (their statements: YtgepgbpjdjbelaaTotals.lean).
  GIVEN WITH THE SEED: the statements are not yours to turn. If you find one false, say at which input.
  Laid BY PROGRAM, IN A SANDBOX (cutbox-rows.mjs): the forced cells as the released guide's own fill.sh prints them over the translation 74bb9c041daf3c45… (all of the seat's roots in one cut). By AI agents, Wed Nov 11 2026. No macro, syntax, notation, axiom, sorry.
-/
import Derived.Test.YtgepgbpjdjbelaaChecked
import GoSem.Claim
import GoSem.ClaimJoined
import GoSem.ClaimMapViews
import Derived.JoinedTies
import Derived.KernelRfl
namespace Go.Proofs.Ytgepgbpjdjbelaa
/- THE CELL 'sum', in the pinned program and in every row, IS THE sha256 OF THE DUMP (.gsa) THAT YtgepgbpjdjbelaaProg.lean LOADS. Nothing in Lean hashes anything: it is a label: what it is worth is what the hold of that sum in a sandbox is worth. -/
noncomputable def Try.pinned : Pinned := { name := "ytgepgbpjdjbelaa", sum := "74bb9c041daf3c4534490679cbbb84387f26868c5a638a1d2bd46108bdf58f1d", checked := Try.checked }
namespace Rows
def none {H : Type} : Left H := { results := [], args := [] }

/-- 'cruciblelaw12.RefmapMakes': WHATEVER THE INPUT: true; the input reads as it did. -/
def refmapMakesSpec : ChangeSpec := { name := "refmapMakes", fn := fun _ => fun
  | [d1, d2, d3] => { results := [.lit (.bool true)], args := [d1, d2, d3] }
  | _ => none }
def refmapMakesRow : OpenClaim := { program := "ytgepgbpjdjbelaa", sum := "74bb9c041daf3c4534490679cbbb84387f26868c5a638a1d2bd46108bdf58f1d", func := "crucible/cruciblelaw12.RefmapMakes", spec := "refmapMakes", unfollowed := true, recurses := true, apart := false }
def RefmapMakesSaid : Prop := refmapMakesRow.holds Try.pinned (OpenSpec.ofChange refmapMakesSpec)

/-- ITS FALSE NEIGHBOUR: 'it returns false'. Refute it at one input. -/
def refmapMakesWrong : ChangeSpec := { name := "refmapMakes", fn := fun _ => fun
  | [d1, d2, d3] => { results := [.lit (.bool false)], args := [d1, d2, d3] }
  | _ => none }
def RefmapMakesWrongFalsely : Prop := refmapMakesRow.holds Try.pinned (OpenSpec.ofChange refmapMakesWrong)

/-- 'cruciblelaw12.RefmapBack': WHATEVER THE INPUT: true; the input reads as it did. -/
def refmapBackSpec : ChangeSpec := { name := "refmapBack", fn := fun _ => fun
  | [d1, d2, d3, d4] => { results := [.lit (.bool true)], args := [d1, d2, d3, d4] }
  | _ => none }
def refmapBackRow : OpenClaim := { program := "ytgepgbpjdjbelaa", sum := "74bb9c041daf3c4534490679cbbb84387f26868c5a638a1d2bd46108bdf58f1d", func := "crucible/cruciblelaw12.RefmapBack", spec := "refmapBack", unfollowed := true, recurses := true, apart := false }
def RefmapBackSaid : Prop := refmapBackRow.holds Try.pinned (OpenSpec.ofChange refmapBackSpec)

/-- ITS FALSE NEIGHBOUR: 'it returns false'. Refute it at one input. -/
def refmapBackWrong : ChangeSpec := { name := "refmapBack", fn := fun _ => fun
  | [d1, d2, d3, d4] => { results := [.lit (.bool false)], args := [d1, d2, d3, d4] }
  | _ => none }
def RefmapBackWrongFalsely : Prop := refmapBackRow.holds Try.pinned (OpenSpec.ofChange refmapBackWrong)

/-- 'cruciblelaw12.RefmapBelow': WHATEVER THE INPUT: true; the input reads as it did. -/
def refmapBelowSpec : ChangeSpec := { name := "refmapBelow", fn := fun _ => fun
  | [d1, d2] => { results := [.lit (.bool true)], args := [d1, d2] }
  | _ => none }
def refmapBelowRow : OpenClaim := { program := "ytgepgbpjdjbelaa", sum := "74bb9c041daf3c4534490679cbbb84387f26868c5a638a1d2bd46108bdf58f1d", func := "crucible/cruciblelaw12.RefmapBelow", spec := "refmapBelow", unfollowed := true, recurses := true, apart := false }
def RefmapBelowSaid : Prop := refmapBelowRow.holds Try.pinned (OpenSpec.ofChange refmapBelowSpec)

/-- ITS FALSE NEIGHBOUR: 'it returns false'. Refute it at one input. -/
def refmapBelowWrong : ChangeSpec := { name := "refmapBelow", fn := fun _ => fun
  | [d1, d2] => { results := [.lit (.bool false)], args := [d1, d2] }
  | _ => none }
def RefmapBelowWrongFalsely : Prop := refmapBelowRow.holds Try.pinned (OpenSpec.ofChange refmapBelowWrong)

/-- 'cruciblelaw12.RefmapJoins': WHATEVER THE INPUT: true; the input reads as it did. -/
def refmapJoinsSpec : ChangeSpec := { name := "refmapJoins", fn := fun _ => fun
  | [d1, d2, d3] => { results := [.lit (.bool true)], args := [d1, d2, d3] }
  | _ => none }
def refmapJoinsRow : OpenClaim := { program := "ytgepgbpjdjbelaa", sum := "74bb9c041daf3c4534490679cbbb84387f26868c5a638a1d2bd46108bdf58f1d", func := "crucible/cruciblelaw12.RefmapJoins", spec := "refmapJoins", unfollowed := true, recurses := true, apart := false }
def RefmapJoinsSaid : Prop := refmapJoinsRow.holds Try.pinned (OpenSpec.ofChange refmapJoinsSpec)

/-- ITS FALSE NEIGHBOUR: 'it returns false'. Refute it at one input. -/
def refmapJoinsWrong : ChangeSpec := { name := "refmapJoins", fn := fun _ => fun
  | [d1, d2, d3] => { results := [.lit (.bool false)], args := [d1, d2, d3] }
  | _ => none }
def RefmapJoinsWrongFalsely : Prop := refmapJoinsRow.holds Try.pinned (OpenSpec.ofChange refmapJoinsWrong)

/- THE SECOND FORM. 'bulk': how many values and letters a reading holds, each counted each time it is reached (what is shared counts as often as it is met; a slice's spare places count too). A statement '..UptoSaid' is the law's where the arguments, and the package variables that the reading takes, are together of bulk at most 1048576: NARROWER than '..Said'. Prove '..Said' where nothing that the law and all that it calls make is longer than what came in: it says more and counts as full. Else prove '..UptoSaid'. A law counts once. -/
mutual
def uptoBulk {H : Type} : DataW H → Nat
  | .lit (.string bytes) => bytes.length + 1
  | .lit _ => 1
  | .nil => 1
  | .ptr d => uptoBulk d + 1
  | .slice elems spare => uptoBulkAll elems + uptoBulkAll spare + 1
  | .agg parts => uptoBulkAll parts + 1
  | .iface _ d => uptoBulk d + 1
  | .map entries => uptoBulkEntries entries + 1
  | .held _ => 1
def uptoBulkAll {H : Type} : List (DataW H) → Nat
  | [] => 0
  | d :: r => uptoBulk d + uptoBulkAll r
def uptoBulkEntries {H : Type} : List (Lit × DataW H) → Nat
  | [] => 0
  | x :: r => uptoBulkEntry x + uptoBulkEntries r
def uptoBulkEntry {H : Type} : Lit × DataW H → Nat
  | (.string bytes, d) => bytes.length + uptoBulk d + 1
  | (_, d) => uptoBulk d + 1
 end
def uptoSmall : (H : Type) → List (DataW H) → Bool := fun _ ds => decide (uptoBulkAll ds ≤ 1048576)
def OpenSpec.upto (s : _root_.Go.ChangeSpec) : _root_.Go.OpenSpec := { _root_.Go.OpenSpec.ofChange s with cond := some uptoSmall }

/-- 'cruciblelaw12.RefmapMakes', WHERE WHAT IT READS IS OF BULK AT MOST 1048576: true; the input reads as it did. -/
def refmapMakesUptoRow : OpenClaim := { program := "ytgepgbpjdjbelaa", sum := "74bb9c041daf3c4534490679cbbb84387f26868c5a638a1d2bd46108bdf58f1d", func := "crucible/cruciblelaw12.RefmapMakes", spec := "refmapMakes", unfollowed := true, recurses := true, apart := false, narrowed := true }
def RefmapMakesUptoSaid : Prop := refmapMakesUptoRow.holds Try.pinned (OpenSpec.upto refmapMakesSpec)

/-- 'cruciblelaw12.RefmapBack', WHERE WHAT IT READS IS OF BULK AT MOST 1048576: true; the input reads as it did. -/
def refmapBackUptoRow : OpenClaim := { program := "ytgepgbpjdjbelaa", sum := "74bb9c041daf3c4534490679cbbb84387f26868c5a638a1d2bd46108bdf58f1d", func := "crucible/cruciblelaw12.RefmapBack", spec := "refmapBack", unfollowed := true, recurses := true, apart := false, narrowed := true }
def RefmapBackUptoSaid : Prop := refmapBackUptoRow.holds Try.pinned (OpenSpec.upto refmapBackSpec)

/-- 'cruciblelaw12.RefmapBelow', WHERE WHAT IT READS IS OF BULK AT MOST 1048576: true; the input reads as it did. -/
def refmapBelowUptoRow : OpenClaim := { program := "ytgepgbpjdjbelaa", sum := "74bb9c041daf3c4534490679cbbb84387f26868c5a638a1d2bd46108bdf58f1d", func := "crucible/cruciblelaw12.RefmapBelow", spec := "refmapBelow", unfollowed := true, recurses := true, apart := false, narrowed := true }
def RefmapBelowUptoSaid : Prop := refmapBelowUptoRow.holds Try.pinned (OpenSpec.upto refmapBelowSpec)

/-- 'cruciblelaw12.RefmapJoins', WHERE WHAT IT READS IS OF BULK AT MOST 1048576: true; the input reads as it did. -/
def refmapJoinsUptoRow : OpenClaim := { program := "ytgepgbpjdjbelaa", sum := "74bb9c041daf3c4534490679cbbb84387f26868c5a638a1d2bd46108bdf58f1d", func := "crucible/cruciblelaw12.RefmapJoins", spec := "refmapJoins", unfollowed := true, recurses := true, apart := false, narrowed := true }
def RefmapJoinsUptoSaid : Prop := refmapJoinsUptoRow.holds Try.pinned (OpenSpec.upto refmapJoinsSpec)

end Rows
end Go.Proofs.Ytgepgbpjdjbelaa
