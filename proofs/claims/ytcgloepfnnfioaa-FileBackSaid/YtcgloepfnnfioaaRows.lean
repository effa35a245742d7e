/-
  No cell of these rows narrows 'for every input' (looked for: loops, veiled, ifaces, maps, wideKeys, modest, calm, conditions, laid).
  DERIVED. THE GIVEN ROWS OF THIS SEAT. 7 by the template 'for every input the law returns true; each argument reads behind the call as it read before'; 0 by the template 'total and deterministic' (their statements: YtcgloepfnnfioaaTotals.lean).
  GIVEN WITH THE SEED: the statements are not yours to turn. If you find one false, say at which input.
  Laid BY PROGRAM, IN A SANDBOX (cutbox-rows.mjs): the forced cells as the released guide's own fill.sh prints them over the translation 732e27e98a64e663… (all of the seat's roots in one cut). By AI agents, Wed Nov 11 2026. No macro, syntax, notation, axiom, sorry.
-/
import Derived.Test.YtcgloepfnnfioaaChecked
import GoSem.Claim
import GoSem.ClaimJoined
import GoSem.ClaimMapViews
import Derived.JoinedTies
import Derived.KernelRfl
namespace Go.Proofs.Ytcgloepfnnfioaa
/- THE CELL 'sum', in the pinned program and in every row, IS THE sha256 OF THE DUMP (.gsa) THAT YtcgloepfnnfioaaProg.lean LOADS. Nothing in Lean hashes anything: it is a label: what it is worth is what the hold of that sum in a sandbox is worth. -/
noncomputable def Try.pinned : Pinned := { name := "ytcgloepfnnfioaa", sum := "732e27e98a64e663d4073aba7cf2e206d5a4a44807fd67b3c880f8557332e31b", checked := Try.checked }
namespace Rows
def none {H : Type} : Left H := { results := [], args := [] }

/-- 'cruciblelaw3.FileWrites': WHATEVER THE INPUT: true; the input reads as it did. -/
def fileWritesSpec : ChangeSpec := { name := "fileWrites", fn := fun _ => fun
  | [d] => { results := [.lit (.bool true)], args := [d] }
  | _ => none }
def fileWritesRow : OpenClaim := { program := "ytcgloepfnnfioaa", sum := "732e27e98a64e663d4073aba7cf2e206d5a4a44807fd67b3c880f8557332e31b", func := "crucible/cruciblelaw3.FileWrites", spec := "fileWrites", inPlace := ["internal/bytealg.IndexByteString"], unfollowed := true, recurses := true, apart := false }
def FileWritesSaid : Prop := fileWritesRow.holds Try.pinned (OpenSpec.ofChange fileWritesSpec)

/-- ITS FALSE NEIGHBOUR: 'it returns false'. Refute it at one input. -/
def fileWritesWrong : ChangeSpec := { name := "fileWrites", fn := fun _ => fun
  | [d] => { results := [.lit (.bool false)], args := [d] }
  | _ => none }
def FileWritesWrongFalsely : Prop := fileWritesRow.holds Try.pinned (OpenSpec.ofChange fileWritesWrong)

/-- 'cruciblelaw3.FileFinds': WHATEVER THE INPUT: true; the input reads as it did. -/
def fileFindsSpec : ChangeSpec := { name := "fileFinds", fn := fun _ => fun
  | [d1, d2, d3, d4] => { results := [.lit (.bool true)], args := [d1, d2, d3, d4] }
  | _ => none }
def fileFindsRow : OpenClaim := { program := "ytcgloepfnnfioaa", sum := "732e27e98a64e663d4073aba7cf2e206d5a4a44807fd67b3c880f8557332e31b", func := "crucible/cruciblelaw3.FileFinds", spec := "fileFinds", inPlace := ["internal/bytealg.IndexByteString"], unfollowed := true, recurses := true, apart := false }
def FileFindsSaid : Prop := fileFindsRow.holds Try.pinned (OpenSpec.ofChange fileFindsSpec)

/-- ITS FALSE NEIGHBOUR: 'it returns false'. Refute it at one input. -/
def fileFindsWrong : ChangeSpec := { name := "fileFinds", fn := fun _ => fun
  | [d1, d2, d3, d4] => { results := [.lit (.bool false)], args := [d1, d2, d3, d4] }
  | _ => none }
def FileFindsWrongFalsely : Prop := fileFindsRow.holds Try.pinned (OpenSpec.ofChange fileFindsWrong)

/-- 'cruciblelaw3.FileBack': WHATEVER THE INPUT: true; the input reads as it did. -/
def fileBackSpec : ChangeSpec := { name := "fileBack", fn := fun _ => fun
  | [d1, d2] => { results := [.lit (.bool true)], args := [d1, d2] }
  | _ => none }
def fileBackRow : OpenClaim := { program := "ytcgloepfnnfioaa", sum := "732e27e98a64e663d4073aba7cf2e206d5a4a44807fd67b3c880f8557332e31b", func := "crucible/cruciblelaw3.FileBack", spec := "fileBack", inPlace := ["internal/bytealg.IndexByteString"], unfollowed := true, recurses := true, apart := false }
def FileBackSaid : Prop := fileBackRow.holds Try.pinned (OpenSpec.ofChange fileBackSpec)

/-- ITS FALSE NEIGHBOUR: 'it returns false'. Refute it at one input. -/
def fileBackWrong : ChangeSpec := { name := "fileBack", fn := fun _ => fun
  | [d1, d2] => { results := [.lit (.bool false)], args := [d1, d2] }
  | _ => none }
def FileBackWrongFalsely : Prop := fileBackRow.holds Try.pinned (OpenSpec.ofChange fileBackWrong)

/-- 'cruciblelaw3.FileAgain': WHATEVER THE INPUT: true; the input reads as it did. -/
def fileAgainSpec : ChangeSpec := { name := "fileAgain", fn := fun _ => fun
  | [d] => { results := [.lit (.bool true)], args := [d] }
  | _ => none }
def fileAgainRow : OpenClaim := { program := "ytcgloepfnnfioaa", sum := "732e27e98a64e663d4073aba7cf2e206d5a4a44807fd67b3c880f8557332e31b", func := "crucible/cruciblelaw3.FileAgain", spec := "fileAgain", inPlace := ["internal/bytealg.IndexByteString"], unfollowed := true, recurses := true, apart := false }
def FileAgainSaid : Prop := fileAgainRow.holds Try.pinned (OpenSpec.ofChange fileAgainSpec)

/-- ITS FALSE NEIGHBOUR: 'it returns false'. Refute it at one input. -/
def fileAgainWrong : ChangeSpec := { name := "fileAgain", fn := fun _ => fun
  | [d] => { results := [.lit (.bool false)], args := [d] }
  | _ => none }
def FileAgainWrongFalsely : Prop := fileAgainRow.holds Try.pinned (OpenSpec.ofChange fileAgainWrong)

/-- 'cruciblelaw3.FileGrows': WHATEVER THE INPUT: true; the input reads as it did. -/
def fileGrowsSpec : ChangeSpec := { name := "fileGrows", fn := fun _ => fun
  | [d1, d2, d3] => { results := [.lit (.bool true)], args := [d1, d2, d3] }
  | _ => none }
def fileGrowsRow : OpenClaim := { program := "ytcgloepfnnfioaa", sum := "732e27e98a64e663d4073aba7cf2e206d5a4a44807fd67b3c880f8557332e31b", func := "crucible/cruciblelaw3.FileGrows", spec := "fileGrows", inPlace := ["internal/bytealg.IndexByteString"], unfollowed := true, recurses := true, apart := false }
def FileGrowsSaid : Prop := fileGrowsRow.holds Try.pinned (OpenSpec.ofChange fileGrowsSpec)

/-- ITS FALSE NEIGHBOUR: 'it returns false'. Refute it at one input. -/
def fileGrowsWrong : ChangeSpec := { name := "fileGrows", fn := fun _ => fun
  | [d1, d2, d3] => { results := [.lit (.bool false)], args := [d1, d2, d3] }
  | _ => none }
def FileGrowsWrongFalsely : Prop := fileGrowsRow.holds Try.pinned (OpenSpec.ofChange fileGrowsWrong)

/-- 'cruciblelaw3.FileTurns': WHATEVER THE INPUT: true; the input reads as it did. -/
def fileTurnsSpec : ChangeSpec := { name := "fileTurns", fn := fun _ => fun
  | [d1, d2, d3] => { results := [.lit (.bool true)], args := [d1, d2, d3] }
  | _ => none }
def fileTurnsRow : OpenClaim := { program := "ytcgloepfnnfioaa", sum := "732e27e98a64e663d4073aba7cf2e206d5a4a44807fd67b3c880f8557332e31b", func := "crucible/cruciblelaw3.FileTurns", spec := "fileTurns", inPlace := ["internal/bytealg.IndexByteString"], unfollowed := true, recurses := true, apart := false }
def FileTurnsSaid : Prop := fileTurnsRow.holds Try.pinned (OpenSpec.ofChange fileTurnsSpec)

/-- ITS FALSE NEIGHBOUR: 'it returns false'. Refute it at one input. -/
def fileTurnsWrong : ChangeSpec := { name := "fileTurns", fn := fun _ => fun
  | [d1, d2, d3] => { results := [.lit (.bool false)], args := [d1, d2, d3] }
  | _ => none }
def FileTurnsWrongFalsely : Prop := fileTurnsRow.holds Try.pinned (OpenSpec.ofChange fileTurnsWrong)

/-- 'cruciblelaw3.FileNames': WHATEVER THE INPUT: true; the input reads as it did. -/
def fileNamesSpec : ChangeSpec := { name := "fileNames", fn := fun _ => fun
  | [d1, d2, d3] => { results := [.lit (.bool true)], args := [d1, d2, d3] }
  | _ => none }
def fileNamesRow : OpenClaim := { program := "ytcgloepfnnfioaa", sum := "732e27e98a64e663d4073aba7cf2e206d5a4a44807fd67b3c880f8557332e31b", func := "crucible/cruciblelaw3.FileNames", spec := "fileNames", inPlace := ["internal/bytealg.IndexByteString"], unfollowed := true, recurses := true, apart := false }
def FileNamesSaid : Prop := fileNamesRow.holds Try.pinned (OpenSpec.ofChange fileNamesSpec)

/-- ITS FALSE NEIGHBOUR: 'it returns false'. Refute it at one input. -/
def fileNamesWrong : ChangeSpec := { name := "fileNames", fn := fun _ => fun
  | [d1, d2, d3] => { results := [.lit (.bool false)], args := [d1, d2, d3] }
  | _ => none }
def FileNamesWrongFalsely : Prop := fileNamesRow.holds Try.pinned (OpenSpec.ofChange fileNamesWrong)

/- THE SECOND FORM. 'bulk': how many values and letters a reading holds, each counted each time it is reached (what is shared counts as often as it is met; a slice's spare places count too). A statement '..UptoSaid' is the law's where the arguments, and the package variables that the reading takes, are together of bulk at most 1048576: NARROWER than '..Said'. Prove '..Said' where nothing that the law and all that it calls make is longer than what came in: it says more and counts as full. Else prove '..UptoSaid'. A law counts once. -/
mutual
def uptoBulk {H : Type} : DataW H → Nat
  | .lit (.string bytes) => bytes.length + 1
  | .lit _ => 1
  | .nil => 1
  | .ptr d => uptoBulk d + 1
  | .slice elems spare => uptoBulkAll elems + uptoBulkAll spare + 1
  | .agg parts => uptoBulkAll parts + 1
  | .iface _ d => uptoBulk d + 1
  | .map entries => uptoBulkEntries entries + 1
  | .held _ => 1
def uptoBulkAll {H : Type} : List (DataW H) → Nat
  | [] => 0
  | d :: r => uptoBulk d + uptoBulkAll r
def uptoBulkEntries {H : Type} : List (Lit × DataW H) → Nat
  | [] => 0
  | x :: r => uptoBulkEntry x + uptoBulkEntries r
def uptoBulkEntry {H : Type} : Lit × DataW H → Nat
  | (.string bytes, d) => bytes.length + uptoBulk d + 1
  | (_, d) => uptoBulk d + 1
 end
def uptoSmall : (H : Type) → List (DataW H) → Bool := fun _ ds => decide (uptoBulkAll ds ≤ 1048576)
def OpenSpec.upto (s : _root_.Go.ChangeSpec) : _root_.Go.OpenSpec := { _root_.Go.OpenSpec.ofChange s with cond := some uptoSmall }

/-- 'cruciblelaw3.FileWrites', WHERE WHAT IT READS IS OF BULK AT MOST 1048576: true; the input reads as it did. -/
def fileWritesUptoRow : OpenClaim := { program := "ytcgloepfnnfioaa", sum := "732e27e98a64e663d4073aba7cf2e206d5a4a44807fd67b3c880f8557332e31b", func := "crucible/cruciblelaw3.FileWrites", spec := "fileWrites", inPlace := ["internal/bytealg.IndexByteString"], unfollowed := true, recurses := true, apart := false, narrowed := true }
def FileWritesUptoSaid : Prop := fileWritesUptoRow.holds Try.pinned (OpenSpec.upto fileWritesSpec)

/-- 'cruciblelaw3.FileFinds', WHERE WHAT IT READS IS OF BULK AT MOST 1048576: true; the input reads as it did. -/
def fileFindsUptoRow : OpenClaim := { program := "ytcgloepfnnfioaa", sum := "732e27e98a64e663d4073aba7cf2e206d5a4a44807fd67b3c880f8557332e31b", func := "crucible/cruciblelaw3.FileFinds", spec := "fileFinds", inPlace := ["internal/bytealg.IndexByteString"], unfollowed := true, recurses := true, apart := false, narrowed := true }
def FileFindsUptoSaid : Prop := fileFindsUptoRow.holds Try.pinned (OpenSpec.upto fileFindsSpec)

/-- 'cruciblelaw3.FileBack', WHERE WHAT IT READS IS OF BULK AT MOST 1048576: true; the input reads as it did. -/
def fileBackUptoRow : OpenClaim := { program := "ytcgloepfnnfioaa", sum := "732e27e98a64e663d4073aba7cf2e206d5a4a44807fd67b3c880f8557332e31b", func := "crucible/cruciblelaw3.FileBack", spec := "fileBack", inPlace := ["internal/bytealg.IndexByteString"], unfollowed := true, recurses := true, apart := false, narrowed := true }
def FileBackUptoSaid : Prop := fileBackUptoRow.holds Try.pinned (OpenSpec.upto fileBackSpec)

/-- 'cruciblelaw3.FileAgain', WHERE WHAT IT READS IS OF BULK AT MOST 1048576: true; the input reads as it did. -/
def fileAgainUptoRow : OpenClaim := { program := "ytcgloepfnnfioaa", sum := "732e27e98a64e663d4073aba7cf2e206d5a4a44807fd67b3c880f8557332e31b", func := "crucible/cruciblelaw3.FileAgain", spec := "fileAgain", inPlace := ["internal/bytealg.IndexByteString"], unfollowed := true, recurses := true, apart := false, narrowed := true }
def FileAgainUptoSaid : Prop := fileAgainUptoRow.holds Try.pinned (OpenSpec.upto fileAgainSpec)

/-- 'cruciblelaw3.FileGrows', WHERE WHAT IT READS IS OF BULK AT MOST 1048576: true; the input reads as it did. -/
def fileGrowsUptoRow : OpenClaim := { program := "ytcgloepfnnfioaa", sum := "732e27e98a64e663d4073aba7cf2e206d5a4a44807fd67b3c880f8557332e31b", func := "crucible/cruciblelaw3.FileGrows", spec := "fileGrows", inPlace := ["internal/bytealg.IndexByteString"], unfollowed := true, recurses := true, apart := false, narrowed := true }
def FileGrowsUptoSaid : Prop := fileGrowsUptoRow.holds Try.pinned (OpenSpec.upto fileGrowsSpec)

/-- 'cruciblelaw3.FileTurns', WHERE WHAT IT READS IS OF BULK AT MOST 1048576: true; the input reads as it did. -/
def fileTurnsUptoRow : OpenClaim := { program := "ytcgloepfnnfioaa", sum := "732e27e98a64e663d4073aba7cf2e206d5a4a44807fd67b3c880f8557332e31b", func := "crucible/cruciblelaw3.FileTurns", spec := "fileTurns", inPlace := ["internal/bytealg.IndexByteString"], unfollowed := true, recurses := true, apart := false, narrowed := true }
def FileTurnsUptoSaid : Prop := fileTurnsUptoRow.holds Try.pinned (OpenSpec.upto fileTurnsSpec)

/-- 'cruciblelaw3.FileNames', WHERE WHAT IT READS IS OF BULK AT MOST 1048576: true; the input reads as it did. -/
def fileNamesUptoRow : OpenClaim := { program := "ytcgloepfnnfioaa", sum := "732e27e98a64e663d4073aba7cf2e206d5a4a44807fd67b3c880f8557332e31b", func := "crucible/cruciblelaw3.FileNames", spec := "fileNames", inPlace := ["internal/bytealg.IndexByteString"], unfollowed := true, recurses := true, apart := false, narrowed := true }
def FileNamesUptoSaid : Prop := fileNamesUptoRow.holds Try.pinned (OpenSpec.upto fileNamesSpec)

end Rows
end Go.Proofs.Ytcgloepfnnfioaa
