/-
  No cell of these rows narrows 'for every input' (looked for: loops, veiled, ifaces, maps, wideKeys, modest, calm, conditions, laid).
  DERIVED. THE GIVEN ROWS OF THIS SEAT. 6 by the template 'for every input the law returns true; each argument reads behind the call as it read before'; 0 by the template 'total and deterministic' (their statements: YtamafgpconfipaaTotals.lean).
  GIVEN WITH THE SEED: the statements are not yours to turn. If you find one false, say at which input.
  Laid BY PROGRAM, IN A SANDBOX (cutbox-rows.mjs): the forced cells as the released guide's own fill.sh prints them over the translation 374077b0177bd6ec… (all of the seat's roots in one cut). By AI agents, Wed Nov 11 2026. No macro, syntax, notation, axiom, sorry.
-/
import Derived.Test.YtamafgpconfipaaChecked
import GoSem.Claim
import GoSem.ClaimJoined
import GoSem.ClaimMapViews
import Derived.JoinedTies
import Derived.KernelRfl
namespace Go.Proofs.Ytamafgpconfipaa
/- THE CELL 'sum', in the pinned program and in every row, IS THE sha256 OF THE DUMP (.gsa) THAT YtamafgpconfipaaProg.lean LOADS. Nothing in Lean hashes anything: it is a label: what it is worth is what the hold of that sum in a sandbox is worth. -/
noncomputable def Try.pinned : Pinned := { name := "ytamafgpconfipaa", sum := "374077b0177bd6ec1f1e72662cb61f990965b3ac971f7d37d05aeca3ecd584a5", checked := Try.checked }
namespace Rows
def none {H : Type} : Left H := { results := [], args := [] }

/-- 'cruciblelaw2.DescFields': WHATEVER THE INPUT: true; the input reads as it did. -/
def descFieldsSpec : ChangeSpec := { name := "descFields", fn := fun _ => fun
  | [d1, d2] => { results := [.lit (.bool true)], args := [d1, d2] }
  | _ => none }
def descFieldsRow : OpenClaim := { program := "ytamafgpconfipaa", sum := "374077b0177bd6ec1f1e72662cb61f990965b3ac971f7d37d05aeca3ecd584a5", func := "crucible/cruciblelaw2.DescFields", spec := "descFields", inPlace := ["internal/bytealg.IndexByteString", "internal/abi.NoEscape", "internal/bytealg.MakeNoZero"], unfollowed := true, recurses := true, apart := false }
def DescFieldsSaid : Prop := descFieldsRow.holds Try.pinned (OpenSpec.ofChange descFieldsSpec)

/-- ITS FALSE NEIGHBOUR: 'it returns false'. Refute it at one input. -/
def descFieldsWrong : ChangeSpec := { name := "descFields", fn := fun _ => fun
  | [d1, d2] => { results := [.lit (.bool false)], args := [d1, d2] }
  | _ => none }
def DescFieldsWrongFalsely : Prop := descFieldsRow.holds Try.pinned (OpenSpec.ofChange descFieldsWrong)

/-- 'cruciblelaw2.DescMethods': WHATEVER THE INPUT: true; the input reads as it did. -/
def descMethodsSpec : ChangeSpec := { name := "descMethods", fn := fun _ => fun
  | [d1, d2] => { results := [.lit (.bool true)], args := [d1, d2] }
  | _ => none }
def descMethodsRow : OpenClaim := { program := "ytamafgpconfipaa", sum := "374077b0177bd6ec1f1e72662cb61f990965b3ac971f7d37d05aeca3ecd584a5", func := "crucible/cruciblelaw2.DescMethods", spec := "descMethods", inPlace := ["internal/bytealg.IndexByteString", "internal/abi.NoEscape", "internal/bytealg.MakeNoZero"], unfollowed := true, recurses := true, apart := false }
def DescMethodsSaid : Prop := descMethodsRow.holds Try.pinned (OpenSpec.ofChange descMethodsSpec)

/-- ITS FALSE NEIGHBOUR: 'it returns false'. Refute it at one input. -/
def descMethodsWrong : ChangeSpec := { name := "descMethods", fn := fun _ => fun
  | [d1, d2] => { results := [.lit (.bool false)], args := [d1, d2] }
  | _ => none }
def DescMethodsWrongFalsely : Prop := descMethodsRow.holds Try.pinned (OpenSpec.ofChange descMethodsWrong)

/-- 'cruciblelaw2.DescBack': WHATEVER THE INPUT: true; the input reads as it did. -/
def descBackSpec : ChangeSpec := { name := "descBack", fn := fun _ => fun
  | [d1, d2] => { results := [.lit (.bool true)], args := [d1, d2] }
  | _ => none }
def descBackRow : OpenClaim := { program := "ytamafgpconfipaa", sum := "374077b0177bd6ec1f1e72662cb61f990965b3ac971f7d37d05aeca3ecd584a5", func := "crucible/cruciblelaw2.DescBack", spec := "descBack", inPlace := ["internal/bytealg.IndexByteString", "internal/abi.NoEscape", "internal/bytealg.MakeNoZero"], unfollowed := true, recurses := true, apart := false }
def DescBackSaid : Prop := descBackRow.holds Try.pinned (OpenSpec.ofChange descBackSpec)

/-- ITS FALSE NEIGHBOUR: 'it returns false'. Refute it at one input. -/
def descBackWrong : ChangeSpec := { name := "descBack", fn := fun _ => fun
  | [d1, d2] => { results := [.lit (.bool false)], args := [d1, d2] }
  | _ => none }
def DescBackWrongFalsely : Prop := descBackRow.holds Try.pinned (OpenSpec.ofChange descBackWrong)

/-- 'cruciblelaw2.DescArrays': WHATEVER THE INPUT: true; the input reads as it did. -/
def descArraysSpec : ChangeSpec := { name := "descArrays", fn := fun _ => fun
  | [d] => { results := [.lit (.bool true)], args := [d] }
  | _ => none }
def descArraysRow : OpenClaim := { program := "ytamafgpconfipaa", sum := "374077b0177bd6ec1f1e72662cb61f990965b3ac971f7d37d05aeca3ecd584a5", func := "crucible/cruciblelaw2.DescArrays", spec := "descArrays", inPlace := ["internal/bytealg.IndexByteString", "internal/abi.NoEscape", "internal/bytealg.MakeNoZero"], unfollowed := true, recurses := true, apart := false }
def DescArraysSaid : Prop := descArraysRow.holds Try.pinned (OpenSpec.ofChange descArraysSpec)

/-- ITS FALSE NEIGHBOUR: 'it returns false'. Refute it at one input. -/
def descArraysWrong : ChangeSpec := { name := "descArrays", fn := fun _ => fun
  | [d] => { results := [.lit (.bool false)], args := [d] }
  | _ => none }
def DescArraysWrongFalsely : Prop := descArraysRow.holds Try.pinned (OpenSpec.ofChange descArraysWrong)

/-- 'cruciblelaw2.DescCuts': WHATEVER THE INPUT: true; the input reads as it did. -/
def descCutsSpec : ChangeSpec := { name := "descCuts", fn := fun _ => fun
  | [d1, d2, d3] => { results := [.lit (.bool true)], args := [d1, d2, d3] }
  | _ => none }
def descCutsRow : OpenClaim := { program := "ytamafgpconfipaa", sum := "374077b0177bd6ec1f1e72662cb61f990965b3ac971f7d37d05aeca3ecd584a5", func := "crucible/cruciblelaw2.DescCuts", spec := "descCuts", inPlace := ["internal/bytealg.IndexByteString", "internal/abi.NoEscape", "internal/bytealg.MakeNoZero"], unfollowed := true, recurses := true, apart := false }
def DescCutsSaid : Prop := descCutsRow.holds Try.pinned (OpenSpec.ofChange descCutsSpec)

/-- ITS FALSE NEIGHBOUR: 'it returns false'. Refute it at one input. -/
def descCutsWrong : ChangeSpec := { name := "descCuts", fn := fun _ => fun
  | [d1, d2, d3] => { results := [.lit (.bool false)], args := [d1, d2, d3] }
  | _ => none }
def DescCutsWrongFalsely : Prop := descCutsRow.holds Try.pinned (OpenSpec.ofChange descCutsWrong)

/-- 'cruciblelaw2.DescParts': WHATEVER THE INPUT: true; the input reads as it did. -/
def descPartsSpec : ChangeSpec := { name := "descParts", fn := fun _ => fun
  | [d1, d2, d3] => { results := [.lit (.bool true)], args := [d1, d2, d3] }
  | _ => none }
def descPartsRow : OpenClaim := { program := "ytamafgpconfipaa", sum := "374077b0177bd6ec1f1e72662cb61f990965b3ac971f7d37d05aeca3ecd584a5", func := "crucible/cruciblelaw2.DescParts", spec := "descParts", inPlace := ["internal/bytealg.IndexByteString", "internal/abi.NoEscape", "internal/bytealg.MakeNoZero"], unfollowed := true, recurses := true, apart := false }
def DescPartsSaid : Prop := descPartsRow.holds Try.pinned (OpenSpec.ofChange descPartsSpec)

/-- ITS FALSE NEIGHBOUR: 'it returns false'. Refute it at one input. -/
def descPartsWrong : ChangeSpec := { name := "descParts", fn := fun _ => fun
  | [d1, d2, d3] => { results := [.lit (.bool false)], args := [d1, d2, d3] }
  | _ => none }
def DescPartsWrongFalsely : Prop := descPartsRow.holds Try.pinned (OpenSpec.ofChange descPartsWrong)

/- THE SECOND FORM. 'bulk': how many values and letters a reading holds, each counted each time it is reached (what is shared counts as often as it is met; a slice's spare places count too). A statement '..UptoSaid' is the law's where the arguments, and the package variables that the reading takes, are together of bulk at most 1048576: NARROWER than '..Said'. Prove '..Said' where nothing that the law and all that it calls make is longer than what came in: it says more and counts as full. Else prove '..UptoSaid'. A law counts once. -/
mutual
def uptoBulk {H : Type} : DataW H → Nat
  | .lit (.string bytes) => bytes.length + 1
  | .lit _ => 1
  | .nil => 1
  | .ptr d => uptoBulk d + 1
  | .slice elems spare => uptoBulkAll elems + uptoBulkAll spare + 1
  | .agg parts => uptoBulkAll parts + 1
  | .iface _ d => uptoBulk d + 1
  | .map entries => uptoBulkEntries entries + 1
  | .held _ => 1
def uptoBulkAll {H : Type} : List (DataW H) → Nat
  | [] => 0
  | d :: r => uptoBulk d + uptoBulkAll r
def uptoBulkEntries {H : Type} : List (Lit × DataW H) → Nat
  | [] => 0
  | x :: r => uptoBulkEntry x + uptoBulkEntries r
def uptoBulkEntry {H : Type} : Lit × DataW H → Nat
  | (.string bytes, d) => bytes.length + uptoBulk d + 1
  | (_, d) => uptoBulk d + 1
 end
def uptoSmall : (H : Type) → List (DataW H) → Bool := fun _ ds => decide (uptoBulkAll ds ≤ 1048576)
def OpenSpec.upto (s : _root_.Go.ChangeSpec) : _root_.Go.OpenSpec := { _root_.Go.OpenSpec.ofChange s with cond := some uptoSmall }

/-- 'cruciblelaw2.DescFields', WHERE WHAT IT READS IS OF BULK AT MOST 1048576: true; the input reads as it did. -/
def descFieldsUptoRow : OpenClaim := { program := "ytamafgpconfipaa", sum := "374077b0177bd6ec1f1e72662cb61f990965b3ac971f7d37d05aeca3ecd584a5", func := "crucible/cruciblelaw2.DescFields", spec := "descFields", inPlace := ["internal/bytealg.IndexByteString", "internal/abi.NoEscape", "internal/bytealg.MakeNoZero"], unfollowed := true, recurses := true, apart := false, narrowed := true }
def DescFieldsUptoSaid : Prop := descFieldsUptoRow.holds Try.pinned (OpenSpec.upto descFieldsSpec)

/-- 'cruciblelaw2.DescMethods', WHERE WHAT IT READS IS OF BULK AT MOST 1048576: true; the input reads as it did. -/
def descMethodsUptoRow : OpenClaim := { program := "ytamafgpconfipaa", sum := "374077b0177bd6ec1f1e72662cb61f990965b3ac971f7d37d05aeca3ecd584a5", func := "crucible/cruciblelaw2.DescMethods", spec := "descMethods", inPlace := ["internal/bytealg.IndexByteString", "internal/abi.NoEscape", "internal/bytealg.MakeNoZero"], unfollowed := true, recurses := true, apart := false, narrowed := true }
def DescMethodsUptoSaid : Prop := descMethodsUptoRow.holds Try.pinned (OpenSpec.upto descMethodsSpec)

/-- 'cruciblelaw2.DescBack', WHERE WHAT IT READS IS OF BULK AT MOST 1048576: true; the input reads as it did. -/
def descBackUptoRow : OpenClaim := { program := "ytamafgpconfipaa", sum := "374077b0177bd6ec1f1e72662cb61f990965b3ac971f7d37d05aeca3ecd584a5", func := "crucible/cruciblelaw2.DescBack", spec := "descBack", inPlace := ["internal/bytealg.IndexByteString", "internal/abi.NoEscape", "internal/bytealg.MakeNoZero"], unfollowed := true, recurses := true, apart := false, narrowed := true }
def DescBackUptoSaid : Prop := descBackUptoRow.holds Try.pinned (OpenSpec.upto descBackSpec)

/-- 'cruciblelaw2.DescArrays', WHERE WHAT IT READS IS OF BULK AT MOST 1048576: true; the input reads as it did. -/
def descArraysUptoRow : OpenClaim := { program := "ytamafgpconfipaa", sum := "374077b0177bd6ec1f1e72662cb61f990965b3ac971f7d37d05aeca3ecd584a5", func := "crucible/cruciblelaw2.DescArrays", spec := "descArrays", inPlace := ["internal/bytealg.IndexByteString", "internal/abi.NoEscape", "internal/bytealg.MakeNoZero"], unfollowed := true, recurses := true, apart := false, narrowed := true }
def DescArraysUptoSaid : Prop := descArraysUptoRow.holds Try.pinned (OpenSpec.upto descArraysSpec)

/-- 'cruciblelaw2.DescCuts', WHERE WHAT IT READS IS OF BULK AT MOST 1048576: true; the input reads as it did. -/
def descCutsUptoRow : OpenClaim := { program := "ytamafgpconfipaa", sum := "374077b0177bd6ec1f1e72662cb61f990965b3ac971f7d37d05aeca3ecd584a5", func := "crucible/cruciblelaw2.DescCuts", spec := "descCuts", inPlace := ["internal/bytealg.IndexByteString", "internal/abi.NoEscape", "internal/bytealg.MakeNoZero"], unfollowed := true, recurses := true, apart := false, narrowed := true }
def DescCutsUptoSaid : Prop := descCutsUptoRow.holds Try.pinned (OpenSpec.upto descCutsSpec)

/-- 'cruciblelaw2.DescParts', WHERE WHAT IT READS IS OF BULK AT MOST 1048576: true; the input reads as it did. -/
def descPartsUptoRow : OpenClaim := { program := "ytamafgpconfipaa", sum := "374077b0177bd6ec1f1e72662cb61f990965b3ac971f7d37d05aeca3ecd584a5", func := "crucible/cruciblelaw2.DescParts", spec := "descParts", inPlace := ["internal/bytealg.IndexByteString", "internal/abi.NoEscape", "internal/bytealg.MakeNoZero"], unfollowed := true, recurses := true, apart := false, narrowed := true }
def DescPartsUptoSaid : Prop := descPartsUptoRow.holds Try.pinned (OpenSpec.upto descPartsSpec)

end Rows
end Go.Proofs.Ytamafgpconfipaa
