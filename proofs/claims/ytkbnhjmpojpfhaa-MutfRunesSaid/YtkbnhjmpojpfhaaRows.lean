/-
  No cell of these rows narrows 'for every input' (looked for: loops, veiled, ifaces, maps, wideKeys, modest, calm, conditions, laid).
  DERIVED. THE GIVEN ROWS OF THIS SEAT. 10 by the template 'for every input the law returns true; each argument reads behind the call as it read before'; 0 by the template 'total and deterministic' (their statements: YtkbnhjmpojpfhaaTotals.lean).
  GIVEN WITH THE SEED: the statements are not yours to turn. If you find one false, say at which input.
  Laid BY PROGRAM, IN A SANDBOX (cutbox-rows.mjs): the forced cells as the released guide's own fill.sh prints them over the translation 67a331f3da87593a… (all of the seat's roots in one cut). By AI agents, Wed Nov 11 2026. No macro, syntax, notation, axiom, sorry.
-/
import Derived.Test.YtkbnhjmpojpfhaaChecked
import GoSem.Claim
import GoSem.ClaimJoined
import GoSem.ClaimMapViews
import Derived.JoinedTies
import Derived.KernelRfl
namespace Go.Proofs.Ytkbnhjmpojpfhaa
/- THE CELL 'sum', in the pinned program and in every row, IS THE sha256 OF THE DUMP (.gsa) THAT YtkbnhjmpojpfhaaProg.lean LOADS. Nothing in Lean hashes anything: it is a label: what it is worth is what the hold of that sum in a sandbox is worth. -/
noncomputable def Try.pinned : Pinned := { name := "ytkbnhjmpojpfhaa", sum := "67a331f3da87593a25e73a85fa19ba664bc4bbd92c7db5123a12d933827a5b5c", checked := Try.checked }
namespace Rows
def none {H : Type} : Left H := { results := [], args := [] }

/-- 'cruciblelaw1.MutfWrites': WHATEVER THE INPUT: true; the input reads as it did. -/
def mutfWritesSpec : ChangeSpec := { name := "mutfWrites", fn := fun _ => fun
  | [d] => { results := [.lit (.bool true)], args := [d] }
  | _ => none }
def mutfWritesRow : OpenClaim := { program := "ytkbnhjmpojpfhaa", sum := "67a331f3da87593a25e73a85fa19ba664bc4bbd92c7db5123a12d933827a5b5c", func := "crucible/cruciblelaw1.MutfWrites", spec := "mutfWrites", apart := false }
def MutfWritesSaid : Prop := mutfWritesRow.holds Try.pinned (OpenSpec.ofChange mutfWritesSpec)

/-- ITS FALSE NEIGHBOUR: 'it returns false'. Refute it at one input. -/
def mutfWritesWrong : ChangeSpec := { name := "mutfWrites", fn := fun _ => fun
  | [d] => { results := [.lit (.bool false)], args := [d] }
  | _ => none }
def MutfWritesWrongFalsely : Prop := mutfWritesRow.holds Try.pinned (OpenSpec.ofChange mutfWritesWrong)

/-- 'cruciblelaw1.MutfReads': WHATEVER THE INPUT: true; the input reads as it did. -/
def mutfReadsSpec : ChangeSpec := { name := "mutfReads", fn := fun _ => fun
  | [d] => { results := [.lit (.bool true)], args := [d] }
  | _ => none }
def mutfReadsRow : OpenClaim := { program := "ytkbnhjmpojpfhaa", sum := "67a331f3da87593a25e73a85fa19ba664bc4bbd92c7db5123a12d933827a5b5c", func := "crucible/cruciblelaw1.MutfReads", spec := "mutfReads", apart := false }
def MutfReadsSaid : Prop := mutfReadsRow.holds Try.pinned (OpenSpec.ofChange mutfReadsSpec)

/-- ITS FALSE NEIGHBOUR: 'it returns false'. Refute it at one input. -/
def mutfReadsWrong : ChangeSpec := { name := "mutfReads", fn := fun _ => fun
  | [d] => { results := [.lit (.bool false)], args := [d] }
  | _ => none }
def MutfReadsWrongFalsely : Prop := mutfReadsRow.holds Try.pinned (OpenSpec.ofChange mutfReadsWrong)

/-- 'cruciblelaw1.MutfRunes': WHATEVER THE INPUT: true; the input reads as it did. -/
def mutfRunesSpec : ChangeSpec := { name := "mutfRunes", fn := fun _ => fun
  | [d1, d2] => { results := [.lit (.bool true)], args := [d1, d2] }
  | _ => none }
def mutfRunesRow : OpenClaim := { program := "ytkbnhjmpojpfhaa", sum := "67a331f3da87593a25e73a85fa19ba664bc4bbd92c7db5123a12d933827a5b5c", func := "crucible/cruciblelaw1.MutfRunes", spec := "mutfRunes", apart := false }
def MutfRunesSaid : Prop := mutfRunesRow.holds Try.pinned (OpenSpec.ofChange mutfRunesSpec)

/-- ITS FALSE NEIGHBOUR: 'it returns false'. Refute it at one input. -/
def mutfRunesWrong : ChangeSpec := { name := "mutfRunes", fn := fun _ => fun
  | [d1, d2] => { results := [.lit (.bool false)], args := [d1, d2] }
  | _ => none }
def MutfRunesWrongFalsely : Prop := mutfRunesRow.holds Try.pinned (OpenSpec.ofChange mutfRunesWrong)

/-- 'cruciblelaw1.MutfMakes': WHATEVER THE INPUT: true; the input reads as it did. -/
def mutfMakesSpec : ChangeSpec := { name := "mutfMakes", fn := fun _ => fun
  | [d] => { results := [.lit (.bool true)], args := [d] }
  | _ => none }
def mutfMakesRow : OpenClaim := { program := "ytkbnhjmpojpfhaa", sum := "67a331f3da87593a25e73a85fa19ba664bc4bbd92c7db5123a12d933827a5b5c", func := "crucible/cruciblelaw1.MutfMakes", spec := "mutfMakes", apart := false }
def MutfMakesSaid : Prop := mutfMakesRow.holds Try.pinned (OpenSpec.ofChange mutfMakesSpec)

/-- ITS FALSE NEIGHBOUR: 'it returns false'. Refute it at one input. -/
def mutfMakesWrong : ChangeSpec := { name := "mutfMakes", fn := fun _ => fun
  | [d] => { results := [.lit (.bool false)], args := [d] }
  | _ => none }
def MutfMakesWrongFalsely : Prop := mutfMakesRow.holds Try.pinned (OpenSpec.ofChange mutfMakesWrong)

/-- 'cruciblelaw1.MutfNames': WHATEVER THE INPUT: true; the input reads as it did. -/
def mutfNamesSpec : ChangeSpec := { name := "mutfNames", fn := fun _ => fun
  | [d] => { results := [.lit (.bool true)], args := [d] }
  | _ => none }
def mutfNamesRow : OpenClaim := { program := "ytkbnhjmpojpfhaa", sum := "67a331f3da87593a25e73a85fa19ba664bc4bbd92c7db5123a12d933827a5b5c", func := "crucible/cruciblelaw1.MutfNames", spec := "mutfNames", apart := false }
def MutfNamesSaid : Prop := mutfNamesRow.holds Try.pinned (OpenSpec.ofChange mutfNamesSpec)

/-- ITS FALSE NEIGHBOUR: 'it returns false'. Refute it at one input. -/
def mutfNamesWrong : ChangeSpec := { name := "mutfNames", fn := fun _ => fun
  | [d] => { results := [.lit (.bool false)], args := [d] }
  | _ => none }
def MutfNamesWrongFalsely : Prop := mutfNamesRow.holds Try.pinned (OpenSpec.ofChange mutfNamesWrong)

/-- 'cruciblelaw1.MutfBack': WHATEVER THE INPUT: true; the input reads as it did. -/
def mutfBackSpec : ChangeSpec := { name := "mutfBack", fn := fun _ => fun
  | [d1, d2] => { results := [.lit (.bool true)], args := [d1, d2] }
  | _ => none }
def mutfBackRow : OpenClaim := { program := "ytkbnhjmpojpfhaa", sum := "67a331f3da87593a25e73a85fa19ba664bc4bbd92c7db5123a12d933827a5b5c", func := "crucible/cruciblelaw1.MutfBack", spec := "mutfBack", apart := false }
def MutfBackSaid : Prop := mutfBackRow.holds Try.pinned (OpenSpec.ofChange mutfBackSpec)

/-- ITS FALSE NEIGHBOUR: 'it returns false'. Refute it at one input. -/
def mutfBackWrong : ChangeSpec := { name := "mutfBack", fn := fun _ => fun
  | [d1, d2] => { results := [.lit (.bool false)], args := [d1, d2] }
  | _ => none }
def MutfBackWrongFalsely : Prop := mutfBackRow.holds Try.pinned (OpenSpec.ofChange mutfBackWrong)

/-- 'cruciblelaw1.MutfAgain': WHATEVER THE INPUT: true; the input reads as it did. -/
def mutfAgainSpec : ChangeSpec := { name := "mutfAgain", fn := fun _ => fun
  | [d] => { results := [.lit (.bool true)], args := [d] }
  | _ => none }
def mutfAgainRow : OpenClaim := { program := "ytkbnhjmpojpfhaa", sum := "67a331f3da87593a25e73a85fa19ba664bc4bbd92c7db5123a12d933827a5b5c", func := "crucible/cruciblelaw1.MutfAgain", spec := "mutfAgain", apart := false }
def MutfAgainSaid : Prop := mutfAgainRow.holds Try.pinned (OpenSpec.ofChange mutfAgainSpec)

/-- ITS FALSE NEIGHBOUR: 'it returns false'. Refute it at one input. -/
def mutfAgainWrong : ChangeSpec := { name := "mutfAgain", fn := fun _ => fun
  | [d] => { results := [.lit (.bool false)], args := [d] }
  | _ => none }
def MutfAgainWrongFalsely : Prop := mutfAgainRow.holds Try.pinned (OpenSpec.ofChange mutfAgainWrong)

/-- 'cruciblelaw1.MutfJoins': WHATEVER THE INPUT: true; the input reads as it did. -/
def mutfJoinsSpec : ChangeSpec := { name := "mutfJoins", fn := fun _ => fun
  | [d1, d2, d3] => { results := [.lit (.bool true)], args := [d1, d2, d3] }
  | _ => none }
def mutfJoinsRow : OpenClaim := { program := "ytkbnhjmpojpfhaa", sum := "67a331f3da87593a25e73a85fa19ba664bc4bbd92c7db5123a12d933827a5b5c", func := "crucible/cruciblelaw1.MutfJoins", spec := "mutfJoins", apart := false }
def MutfJoinsSaid : Prop := mutfJoinsRow.holds Try.pinned (OpenSpec.ofChange mutfJoinsSpec)

/-- ITS FALSE NEIGHBOUR: 'it returns false'. Refute it at one input. -/
def mutfJoinsWrong : ChangeSpec := { name := "mutfJoins", fn := fun _ => fun
  | [d1, d2, d3] => { results := [.lit (.bool false)], args := [d1, d2, d3] }
  | _ => none }
def MutfJoinsWrongFalsely : Prop := mutfJoinsRow.holds Try.pinned (OpenSpec.ofChange mutfJoinsWrong)

/-- 'cruciblelaw1.MutfRuns': WHATEVER THE INPUT: true; the input reads as it did. -/
def mutfRunsSpec : ChangeSpec := { name := "mutfRuns", fn := fun _ => fun
  | [d1, d2] => { results := [.lit (.bool true)], args := [d1, d2] }
  | _ => none }
def mutfRunsRow : OpenClaim := { program := "ytkbnhjmpojpfhaa", sum := "67a331f3da87593a25e73a85fa19ba664bc4bbd92c7db5123a12d933827a5b5c", func := "crucible/cruciblelaw1.MutfRuns", spec := "mutfRuns", apart := false }
def MutfRunsSaid : Prop := mutfRunsRow.holds Try.pinned (OpenSpec.ofChange mutfRunsSpec)

/-- ITS FALSE NEIGHBOUR: 'it returns false'. Refute it at one input. -/
def mutfRunsWrong : ChangeSpec := { name := "mutfRuns", fn := fun _ => fun
  | [d1, d2] => { results := [.lit (.bool false)], args := [d1, d2] }
  | _ => none }
def MutfRunsWrongFalsely : Prop := mutfRunsRow.holds Try.pinned (OpenSpec.ofChange mutfRunsWrong)

/-- 'cruciblelaw1.MutfCuts': WHATEVER THE INPUT: true; the input reads as it did. -/
def mutfCutsSpec : ChangeSpec := { name := "mutfCuts", fn := fun _ => fun
  | [d1, d2] => { results := [.lit (.bool true)], args := [d1, d2] }
  | _ => none }
def mutfCutsRow : OpenClaim := { program := "ytkbnhjmpojpfhaa", sum := "67a331f3da87593a25e73a85fa19ba664bc4bbd92c7db5123a12d933827a5b5c", func := "crucible/cruciblelaw1.MutfCuts", spec := "mutfCuts", apart := false }
def MutfCutsSaid : Prop := mutfCutsRow.holds Try.pinned (OpenSpec.ofChange mutfCutsSpec)

/-- ITS FALSE NEIGHBOUR: 'it returns false'. Refute it at one input. -/
def mutfCutsWrong : ChangeSpec := { name := "mutfCuts", fn := fun _ => fun
  | [d1, d2] => { results := [.lit (.bool false)], args := [d1, d2] }
  | _ => none }
def MutfCutsWrongFalsely : Prop := mutfCutsRow.holds Try.pinned (OpenSpec.ofChange mutfCutsWrong)

/- THE SECOND FORM. 'bulk': how many values and letters a reading holds, each counted each time it is reached (what is shared counts as often as it is met; a slice's spare places count too). A statement '..UptoSaid' is the law's where the arguments, and the package variables that the reading takes, are together of bulk at most 1048576: NARROWER than '..Said'. Prove '..Said' where nothing that the law and all that it calls make is longer than what came in: it says more and counts as full. Else prove '..UptoSaid'. A law counts once. -/
mutual
def uptoBulk {H : Type} : DataW H → Nat
  | .lit (.string bytes) => bytes.length + 1
  | .lit _ => 1
  | .nil => 1
  | .ptr d => uptoBulk d + 1
  | .slice elems spare => uptoBulkAll elems + uptoBulkAll spare + 1
  | .agg parts => uptoBulkAll parts + 1
  | .iface _ d => uptoBulk d + 1
  | .map entries => uptoBulkEntries entries + 1
  | .held _ => 1
def uptoBulkAll {H : Type} : List (DataW H) → Nat
  | [] => 0
  | d :: r => uptoBulk d + uptoBulkAll r
def uptoBulkEntries {H : Type} : List (Lit × DataW H) → Nat
  | [] => 0
  | x :: r => uptoBulkEntry x + uptoBulkEntries r
def uptoBulkEntry {H : Type} : Lit × DataW H → Nat
  | (.string bytes, d) => bytes.length + uptoBulk d + 1
  | (_, d) => uptoBulk d + 1
 end
def uptoSmall : (H : Type) → List (DataW H) → Bool := fun _ ds => decide (uptoBulkAll ds ≤ 1048576)
def OpenSpec.upto (s : _root_.Go.ChangeSpec) : _root_.Go.OpenSpec := { _root_.Go.OpenSpec.ofChange s with cond := some uptoSmall }

/-- 'cruciblelaw1.MutfWrites', WHERE WHAT IT READS IS OF BULK AT MOST 1048576: true; the input reads as it did. -/
def mutfWritesUptoRow : OpenClaim := { program := "ytkbnhjmpojpfhaa", sum := "67a331f3da87593a25e73a85fa19ba664bc4bbd92c7db5123a12d933827a5b5c", func := "crucible/cruciblelaw1.MutfWrites", spec := "mutfWrites", apart := false, narrowed := true }
def MutfWritesUptoSaid : Prop := mutfWritesUptoRow.holds Try.pinned (OpenSpec.upto mutfWritesSpec)

/-- 'cruciblelaw1.MutfReads', WHERE WHAT IT READS IS OF BULK AT MOST 1048576: true; the input reads as it did. -/
def mutfReadsUptoRow : OpenClaim := { program := "ytkbnhjmpojpfhaa", sum := "67a331f3da87593a25e73a85fa19ba664bc4bbd92c7db5123a12d933827a5b5c", func := "crucible/cruciblelaw1.MutfReads", spec := "mutfReads", apart := false, narrowed := true }
def MutfReadsUptoSaid : Prop := mutfReadsUptoRow.holds Try.pinned (OpenSpec.upto mutfReadsSpec)

/-- 'cruciblelaw1.MutfRunes', WHERE WHAT IT READS IS OF BULK AT MOST 1048576: true; the input reads as it did. -/
def mutfRunesUptoRow : OpenClaim := { program := "ytkbnhjmpojpfhaa", sum := "67a331f3da87593a25e73a85fa19ba664bc4bbd92c7db5123a12d933827a5b5c", func := "crucible/cruciblelaw1.MutfRunes", spec := "mutfRunes", apart := false, narrowed := true }
def MutfRunesUptoSaid : Prop := mutfRunesUptoRow.holds Try.pinned (OpenSpec.upto mutfRunesSpec)

/-- 'cruciblelaw1.MutfMakes', WHERE WHAT IT READS IS OF BULK AT MOST 1048576: true; the input reads as it did. -/
def mutfMakesUptoRow : OpenClaim := { program := "ytkbnhjmpojpfhaa", sum := "67a331f3da87593a25e73a85fa19ba664bc4bbd92c7db5123a12d933827a5b5c", func := "crucible/cruciblelaw1.MutfMakes", spec := "mutfMakes", apart := false, narrowed := true }
def MutfMakesUptoSaid : Prop := mutfMakesUptoRow.holds Try.pinned (OpenSpec.upto mutfMakesSpec)

/-- 'cruciblelaw1.MutfNames', WHERE WHAT IT READS IS OF BULK AT MOST 1048576: true; the input reads as it did. -/
def mutfNamesUptoRow : OpenClaim := { program := "ytkbnhjmpojpfhaa", sum := "67a331f3da87593a25e73a85fa19ba664bc4bbd92c7db5123a12d933827a5b5c", func := "crucible/cruciblelaw1.MutfNames", spec := "mutfNames", apart := false, narrowed := true }
def MutfNamesUptoSaid : Prop := mutfNamesUptoRow.holds Try.pinned (OpenSpec.upto mutfNamesSpec)

/-- 'cruciblelaw1.MutfBack', WHERE WHAT IT READS IS OF BULK AT MOST 1048576: true; the input reads as it did. -/
def mutfBackUptoRow : OpenClaim := { program := "ytkbnhjmpojpfhaa", sum := "67a331f3da87593a25e73a85fa19ba664bc4bbd92c7db5123a12d933827a5b5c", func := "crucible/cruciblelaw1.MutfBack", spec := "mutfBack", apart := false, narrowed := true }
def MutfBackUptoSaid : Prop := mutfBackUptoRow.holds Try.pinned (OpenSpec.upto mutfBackSpec)

/-- 'cruciblelaw1.MutfAgain', WHERE WHAT IT READS IS OF BULK AT MOST 1048576: true; the input reads as it did. -/
def mutfAgainUptoRow : OpenClaim := { program := "ytkbnhjmpojpfhaa", sum := "67a331f3da87593a25e73a85fa19ba664bc4bbd92c7db5123a12d933827a5b5c", func := "crucible/cruciblelaw1.MutfAgain", spec := "mutfAgain", apart := false, narrowed := true }
def MutfAgainUptoSaid : Prop := mutfAgainUptoRow.holds Try.pinned (OpenSpec.upto mutfAgainSpec)

/-- 'cruciblelaw1.MutfJoins', WHERE WHAT IT READS IS OF BULK AT MOST 1048576: true; the input reads as it did. -/
def mutfJoinsUptoRow : OpenClaim := { program := "ytkbnhjmpojpfhaa", sum := "67a331f3da87593a25e73a85fa19ba664bc4bbd92c7db5123a12d933827a5b5c", func := "crucible/cruciblelaw1.MutfJoins", spec := "mutfJoins", apart := false, narrowed := true }
def MutfJoinsUptoSaid : Prop := mutfJoinsUptoRow.holds Try.pinned (OpenSpec.upto mutfJoinsSpec)

/-- 'cruciblelaw1.MutfRuns', WHERE WHAT IT READS IS OF BULK AT MOST 1048576: true; the input reads as it did. -/
def mutfRunsUptoRow : OpenClaim := { program := "ytkbnhjmpojpfhaa", sum := "67a331f3da87593a25e73a85fa19ba664bc4bbd92c7db5123a12d933827a5b5c", func := "crucible/cruciblelaw1.MutfRuns", spec := "mutfRuns", apart := false, narrowed := true }
def MutfRunsUptoSaid : Prop := mutfRunsUptoRow.holds Try.pinned (OpenSpec.upto mutfRunsSpec)

/-- 'cruciblelaw1.MutfCuts', WHERE WHAT IT READS IS OF BULK AT MOST 1048576: true; the input reads as it did. -/
def mutfCutsUptoRow : OpenClaim := { program := "ytkbnhjmpojpfhaa", sum := "67a331f3da87593a25e73a85fa19ba664bc4bbd92c7db5123a12d933827a5b5c", func := "crucible/cruciblelaw1.MutfCuts", spec := "mutfCuts", apart := false, narrowed := true }
def MutfCutsUptoSaid : Prop := mutfCutsUptoRow.holds Try.pinned (OpenSpec.upto mutfCutsSpec)

end Rows
end Go.Proofs.Ytkbnhjmpojpfhaa
