/-
  NARROWER THAN 'FOR EVERY INPUT', by the rows' own cells (each row's printed sentence says how): CodeOps: laid · CodeReads: laid · CodeWrites: laid · CodeCovers: laid · CodeMoves: laid · CodeJoins: laid · CodeTurns: laid.
  DERIVED. THE GIVEN ROWS OF THIS SEAT. 7 by the template 'for every input the law returns true; each argument reads behind the call as it read before'; 0 by the template 'total and deterministic' (their statements: YtjdaaecbnhcoaaaDoorTotals.lean).
  GIVEN WITH THE SEED: the statements are not yours to turn. If you find one false, say at which input.
  Laid BY PROGRAM, IN A SANDBOX (cutbox-rows.mjs): the forced cells as the released guide's own fill.sh prints them over the translation f95ffd131a86a1a5… (all of the seat's roots in one cut). By AI agents, Wed Nov 11 2026. No macro, syntax, notation, axiom, sorry.
-/
import Derived.Test.YtjdaaecbnhcoaaaDoorChecked
import GoSem.Claim
import GoSem.ClaimJoined
import GoSem.ClaimMapViews
import Derived.JoinedTies
import Derived.KernelRfl
namespace Go.Proofs.YtjdaaecbnhcoaaaDoor
/- THE CELL 'sum', in the pinned program and in every row, IS THE sha256 OF THE DUMP (.gsa) THAT YtjdaaecbnhcoaaaDoorProg.lean LOADS. Nothing in Lean hashes anything: it is a label: what it is worth is what the hold of that sum in a sandbox is worth. -/
noncomputable def Tryd.pinned : Pinned := { name := "ytjdaaecbnhcoaaadoor", sum := "f95ffd131a86a1a54b91cdb2dfd33fc6d868e0fb9a393717569c239a991e204a", checked := Tryd.checked }
namespace Rows
def none {H : Type} : Left H := { results := [], args := [] }

/- WHAT THE LISTED PACKAGE-LEVEL VARIABLES READ AS WHEN THE CALL BEGINS. Each datum BY PROGRAM (the guide's laid-datum.mjs) off the statement by which the dump's own 'gosem.cut.vars' lays the variable. In a bare row this is a premise. The card (YtjdaaecbnhcoaaaDoorCards.lean) ties it to the program's text. -/
def laid_crucible_code_names {H : Type} : DataW H := .agg [.lit (.string [110, 111, 112]), .lit (.string [105, 110, 116]), .lit (.string [116, 101, 120, 116]), .lit (.string [110, 117, 108, 108]), .lit (.string [108, 111, 97, 100]), .lit (.string [115, 116, 111, 114, 101]), .lit (.string [112, 111, 112]), .lit (.string [100, 117, 112]), .lit (.string [115, 119, 97, 112]), .lit (.string [97, 100, 100]), .lit (.string [115, 117, 98]), .lit (.string [109, 117, 108]), .lit (.string [100, 105, 118]), .lit (.string [114, 101, 109]), .lit (.string [110, 101, 103]), .lit (.string [97, 110, 100]), .lit (.string [111, 114]), .lit (.string [120, 111, 114]), .lit (.string [115, 104, 108]), .lit (.string [115, 104, 114]), .lit (.string [103, 111, 116, 111]), .lit (.string [105, 102, 101, 113]), .lit (.string [105, 102, 110, 101]), .lit (.string [105, 102, 108, 116]), .lit (.string [105, 102, 103, 101]), .lit (.string [99, 109, 112, 101, 113]), .lit (.string [99, 109, 112, 108, 116]), .lit (.string [105, 102, 110, 117, 108, 108]), .lit (.string [105, 102, 115, 111, 109, 101]), .lit (.string [115, 97, 109, 101]), .lit (.string [115, 119, 105, 116, 99, 104]), .lit (.string [110, 101, 119]), .lit (.string [97, 114, 114, 97, 121]), .lit (.string [108, 101, 110]), .lit (.string [97, 103, 101, 116]), .lit (.string [97, 112, 117, 116]), .lit (.string [103, 101, 116]), .lit (.string [112, 117, 116]), .lit (.string [115, 103, 101, 116]), .lit (.string [115, 112, 117, 116]), .lit (.string [118, 105, 114, 116]), .lit (.string [105, 102, 97, 99, 101]), .lit (.string [115, 116, 97, 116]), .lit (.string [115, 112, 101, 99]), .lit (.string [114, 101, 116]), .lit (.string [118, 114, 101, 116]), .lit (.string [116, 104, 114, 111, 119]), .lit (.string [99, 97, 115, 116]), .lit (.string [105, 115]), .lit (.string [101, 110, 116, 101, 114]), .lit (.string [101, 120, 105, 116]), .lit (.string [115, 112, 97, 119, 110]), .lit (.string [106, 111, 105, 110]), .lit (.string [121, 105, 101, 108, 100]), .lit (.string [112, 114, 105, 110, 116]), .lit (.string [112, 114, 105, 110, 116, 115]), .lit (.string [119, 101, 97, 107]), .lit (.string [100, 101, 114, 101, 102]), .lit (.string [115, 108, 101, 110]), .lit (.string [115, 99, 104, 97, 114]), .lit (.string [115, 99, 97, 116]), .lit (.string [105, 110, 116, 101, 114, 110]), .lit (.string [108, 111, 97, 100, 101, 114]), .lit (.string [109, 97, 107, 101])]

/-- 'cruciblelaw4.CodeOps': WHATEVER THE INPUT: true; the input reads as it did. -/
def codeOpsSpec : ChangeSpec := { name := "codeOps", fn := fun _ => fun
  | [d1, d2] => { results := [.lit (.bool true)], args := [d1, d2] }
  | _ => none }
def codeOpsRow : OpenClaim := { program := "ytjdaaecbnhcoaaadoor", sum := "f95ffd131a86a1a54b91cdb2dfd33fc6d868e0fb9a393717569c239a991e204a", func := "crucible/cruciblelaw4.CodeOps", spec := "codeOps", named := ["crucible/code.names"], apart := false, laid := [("crucible/code.names", laid_crucible_code_names)] }
def CodeOpsSaid : Prop := codeOpsRow.holds Tryd.pinned (OpenSpec.ofChange codeOpsSpec)

/-- ITS FALSE NEIGHBOUR: 'it returns false'. Refute it at one input. -/
def codeOpsWrong : ChangeSpec := { name := "codeOps", fn := fun _ => fun
  | [d1, d2] => { results := [.lit (.bool false)], args := [d1, d2] }
  | _ => none }
def CodeOpsWrongFalsely : Prop := codeOpsRow.holds Tryd.pinned (OpenSpec.ofChange codeOpsWrong)

/-- 'cruciblelaw4.CodeReads': WHATEVER THE INPUT: true; the input reads as it did. -/
def codeReadsSpec : ChangeSpec := { name := "codeReads", fn := fun _ => fun
  | [d1, d2] => { results := [.lit (.bool true)], args := [d1, d2] }
  | _ => none }
def codeReadsRow : OpenClaim := { program := "ytjdaaecbnhcoaaadoor", sum := "f95ffd131a86a1a54b91cdb2dfd33fc6d868e0fb9a393717569c239a991e204a", func := "crucible/cruciblelaw4.CodeReads", spec := "codeReads", named := ["crucible/code.names"], apart := false, laid := [("crucible/code.names", laid_crucible_code_names)] }
def CodeReadsSaid : Prop := codeReadsRow.holds Tryd.pinned (OpenSpec.ofChange codeReadsSpec)

/-- ITS FALSE NEIGHBOUR: 'it returns false'. Refute it at one input. -/
def codeReadsWrong : ChangeSpec := { name := "codeReads", fn := fun _ => fun
  | [d1, d2] => { results := [.lit (.bool false)], args := [d1, d2] }
  | _ => none }
def CodeReadsWrongFalsely : Prop := codeReadsRow.holds Tryd.pinned (OpenSpec.ofChange codeReadsWrong)

/-- 'cruciblelaw4.CodeWrites': WHATEVER THE INPUT: true; the input reads as it did. -/
def codeWritesSpec : ChangeSpec := { name := "codeWrites", fn := fun _ => fun
  | [d1, d2] => { results := [.lit (.bool true)], args := [d1, d2] }
  | _ => none }
def codeWritesRow : OpenClaim := { program := "ytjdaaecbnhcoaaadoor", sum := "f95ffd131a86a1a54b91cdb2dfd33fc6d868e0fb9a393717569c239a991e204a", func := "crucible/cruciblelaw4.CodeWrites", spec := "codeWrites", named := ["crucible/code.names"], apart := false, laid := [("crucible/code.names", laid_crucible_code_names)] }
def CodeWritesSaid : Prop := codeWritesRow.holds Tryd.pinned (OpenSpec.ofChange codeWritesSpec)

/-- ITS FALSE NEIGHBOUR: 'it returns false'. Refute it at one input. -/
def codeWritesWrong : ChangeSpec := { name := "codeWrites", fn := fun _ => fun
  | [d1, d2] => { results := [.lit (.bool false)], args := [d1, d2] }
  | _ => none }
def CodeWritesWrongFalsely : Prop := codeWritesRow.holds Tryd.pinned (OpenSpec.ofChange codeWritesWrong)

/-- 'cruciblelaw4.CodeCovers': WHATEVER THE INPUT: true; the input reads as it did. -/
def codeCoversSpec : ChangeSpec := { name := "codeCovers", fn := fun _ => fun
  | [d] => { results := [.lit (.bool true)], args := [d] }
  | _ => none }
def codeCoversRow : OpenClaim := { program := "ytjdaaecbnhcoaaadoor", sum := "f95ffd131a86a1a54b91cdb2dfd33fc6d868e0fb9a393717569c239a991e204a", func := "crucible/cruciblelaw4.CodeCovers", spec := "codeCovers", named := ["crucible/code.names"], apart := false, laid := [("crucible/code.names", laid_crucible_code_names)] }
def CodeCoversSaid : Prop := codeCoversRow.holds Tryd.pinned (OpenSpec.ofChange codeCoversSpec)

/-- ITS FALSE NEIGHBOUR: 'it returns false'. Refute it at one input. -/
def codeCoversWrong : ChangeSpec := { name := "codeCovers", fn := fun _ => fun
  | [d] => { results := [.lit (.bool false)], args := [d] }
  | _ => none }
def CodeCoversWrongFalsely : Prop := codeCoversRow.holds Tryd.pinned (OpenSpec.ofChange codeCoversWrong)

/-- 'cruciblelaw4.CodeMoves': WHATEVER THE INPUT: true; the input reads as it did. -/
def codeMovesSpec : ChangeSpec := { name := "codeMoves", fn := fun _ => fun
  | [d1, d2] => { results := [.lit (.bool true)], args := [d1, d2] }
  | _ => none }
def codeMovesRow : OpenClaim := { program := "ytjdaaecbnhcoaaadoor", sum := "f95ffd131a86a1a54b91cdb2dfd33fc6d868e0fb9a393717569c239a991e204a", func := "crucible/cruciblelaw4.CodeMoves", spec := "codeMoves", named := ["crucible/code.names"], apart := false, laid := [("crucible/code.names", laid_crucible_code_names)] }
def CodeMovesSaid : Prop := codeMovesRow.holds Tryd.pinned (OpenSpec.ofChange codeMovesSpec)

/-- ITS FALSE NEIGHBOUR: 'it returns false'. Refute it at one input. -/
def codeMovesWrong : ChangeSpec := { name := "codeMoves", fn := fun _ => fun
  | [d1, d2] => { results := [.lit (.bool false)], args := [d1, d2] }
  | _ => none }
def CodeMovesWrongFalsely : Prop := codeMovesRow.holds Tryd.pinned (OpenSpec.ofChange codeMovesWrong)

/-- 'cruciblelaw4.CodeJoins': WHATEVER THE INPUT: true; the input reads as it did. -/
def codeJoinsSpec : ChangeSpec := { name := "codeJoins", fn := fun _ => fun
  | [d1, d2] => { results := [.lit (.bool true)], args := [d1, d2] }
  | _ => none }
def codeJoinsRow : OpenClaim := { program := "ytjdaaecbnhcoaaadoor", sum := "f95ffd131a86a1a54b91cdb2dfd33fc6d868e0fb9a393717569c239a991e204a", func := "crucible/cruciblelaw4.CodeJoins", spec := "codeJoins", named := ["crucible/code.names"], apart := false, laid := [("crucible/code.names", laid_crucible_code_names)] }
def CodeJoinsSaid : Prop := codeJoinsRow.holds Tryd.pinned (OpenSpec.ofChange codeJoinsSpec)

/-- ITS FALSE NEIGHBOUR: 'it returns false'. Refute it at one input. -/
def codeJoinsWrong : ChangeSpec := { name := "codeJoins", fn := fun _ => fun
  | [d1, d2] => { results := [.lit (.bool false)], args := [d1, d2] }
  | _ => none }
def CodeJoinsWrongFalsely : Prop := codeJoinsRow.holds Tryd.pinned (OpenSpec.ofChange codeJoinsWrong)

/-- 'cruciblelaw4.CodeTurns': WHATEVER THE INPUT: true; the input reads as it did. -/
def codeTurnsSpec : ChangeSpec := { name := "codeTurns", fn := fun _ => fun
  | [d1, d2, d3] => { results := [.lit (.bool true)], args := [d1, d2, d3] }
  | _ => none }
def codeTurnsRow : OpenClaim := { program := "ytjdaaecbnhcoaaadoor", sum := "f95ffd131a86a1a54b91cdb2dfd33fc6d868e0fb9a393717569c239a991e204a", func := "crucible/cruciblelaw4.CodeTurns", spec := "codeTurns", named := ["crucible/code.names"], apart := false, laid := [("crucible/code.names", laid_crucible_code_names)] }
def CodeTurnsSaid : Prop := codeTurnsRow.holds Tryd.pinned (OpenSpec.ofChange codeTurnsSpec)

/-- ITS FALSE NEIGHBOUR: 'it returns false'. Refute it at one input. -/
def codeTurnsWrong : ChangeSpec := { name := "codeTurns", fn := fun _ => fun
  | [d1, d2, d3] => { results := [.lit (.bool false)], args := [d1, d2, d3] }
  | _ => none }
def CodeTurnsWrongFalsely : Prop := codeTurnsRow.holds Tryd.pinned (OpenSpec.ofChange codeTurnsWrong)

/- THE SECOND FORM. 'bulk': how many values and letters a reading holds, each counted each time it is reached (what is shared counts as often as it is met; a slice's spare places count too). A statement '..UptoSaid' is the law's where the arguments, and the package variables that the reading takes, are together of bulk at most 1048576: NARROWER than '..Said'. Prove '..Said' where nothing that the law and all that it calls make is longer than what came in: it says more and counts as full. Else prove '..UptoSaid'. A law counts once. -/
mutual
def uptoBulk {H : Type} : DataW H → Nat
  | .lit (.string bytes) => bytes.length + 1
  | .lit _ => 1
  | .nil => 1
  | .ptr d => uptoBulk d + 1
  | .slice elems spare => uptoBulkAll elems + uptoBulkAll spare + 1
  | .agg parts => uptoBulkAll parts + 1
  | .iface _ d => uptoBulk d + 1
  | .map entries => uptoBulkEntries entries + 1
  | .held _ => 1
def uptoBulkAll {H : Type} : List (DataW H) → Nat
  | [] => 0
  | d :: r => uptoBulk d + uptoBulkAll r
def uptoBulkEntries {H : Type} : List (Lit × DataW H) → Nat
  | [] => 0
  | x :: r => uptoBulkEntry x + uptoBulkEntries r
def uptoBulkEntry {H : Type} : Lit × DataW H → Nat
  | (.string bytes, d) => bytes.length + uptoBulk d + 1
  | (_, d) => uptoBulk d + 1
 end
def uptoSmall : (H : Type) → List (DataW H) → Bool := fun _ ds => decide (uptoBulkAll ds ≤ 1048576)
def OpenSpec.upto (s : _root_.Go.ChangeSpec) : _root_.Go.OpenSpec := { _root_.Go.OpenSpec.ofChange s with cond := some uptoSmall }

/-- 'cruciblelaw4.CodeOps', WHERE WHAT IT READS IS OF BULK AT MOST 1048576: true; the input reads as it did. -/
def codeOpsUptoRow : OpenClaim := { program := "ytjdaaecbnhcoaaadoor", sum := "f95ffd131a86a1a54b91cdb2dfd33fc6d868e0fb9a393717569c239a991e204a", func := "crucible/cruciblelaw4.CodeOps", spec := "codeOps", named := ["crucible/code.names"], apart := false, laid := [("crucible/code.names", laid_crucible_code_names)], narrowed := true }
def CodeOpsUptoSaid : Prop := codeOpsUptoRow.holds Tryd.pinned (OpenSpec.upto codeOpsSpec)

/-- 'cruciblelaw4.CodeReads', WHERE WHAT IT READS IS OF BULK AT MOST 1048576: true; the input reads as it did. -/
def codeReadsUptoRow : OpenClaim := { program := "ytjdaaecbnhcoaaadoor", sum := "f95ffd131a86a1a54b91cdb2dfd33fc6d868e0fb9a393717569c239a991e204a", func := "crucible/cruciblelaw4.CodeReads", spec := "codeReads", named := ["crucible/code.names"], apart := false, laid := [("crucible/code.names", laid_crucible_code_names)], narrowed := true }
def CodeReadsUptoSaid : Prop := codeReadsUptoRow.holds Tryd.pinned (OpenSpec.upto codeReadsSpec)

/-- 'cruciblelaw4.CodeWrites', WHERE WHAT IT READS IS OF BULK AT MOST 1048576: true; the input reads as it did. -/
def codeWritesUptoRow : OpenClaim := { program := "ytjdaaecbnhcoaaadoor", sum := "f95ffd131a86a1a54b91cdb2dfd33fc6d868e0fb9a393717569c239a991e204a", func := "crucible/cruciblelaw4.CodeWrites", spec := "codeWrites", named := ["crucible/code.names"], apart := false, laid := [("crucible/code.names", laid_crucible_code_names)], narrowed := true }
def CodeWritesUptoSaid : Prop := codeWritesUptoRow.holds Tryd.pinned (OpenSpec.upto codeWritesSpec)

/-- 'cruciblelaw4.CodeCovers', WHERE WHAT IT READS IS OF BULK AT MOST 1048576: true; the input reads as it did. -/
def codeCoversUptoRow : OpenClaim := { program := "ytjdaaecbnhcoaaadoor", sum := "f95ffd131a86a1a54b91cdb2dfd33fc6d868e0fb9a393717569c239a991e204a", func := "crucible/cruciblelaw4.CodeCovers", spec := "codeCovers", named := ["crucible/code.names"], apart := false, laid := [("crucible/code.names", laid_crucible_code_names)], narrowed := true }
def CodeCoversUptoSaid : Prop := codeCoversUptoRow.holds Tryd.pinned (OpenSpec.upto codeCoversSpec)

/-- 'cruciblelaw4.CodeMoves', WHERE WHAT IT READS IS OF BULK AT MOST 1048576: true; the input reads as it did. -/
def codeMovesUptoRow : OpenClaim := { program := "ytjdaaecbnhcoaaadoor", sum := "f95ffd131a86a1a54b91cdb2dfd33fc6d868e0fb9a393717569c239a991e204a", func := "crucible/cruciblelaw4.CodeMoves", spec := "codeMoves", named := ["crucible/code.names"], apart := false, laid := [("crucible/code.names", laid_crucible_code_names)], narrowed := true }
def CodeMovesUptoSaid : Prop := codeMovesUptoRow.holds Tryd.pinned (OpenSpec.upto codeMovesSpec)

/-- 'cruciblelaw4.CodeJoins', WHERE WHAT IT READS IS OF BULK AT MOST 1048576: true; the input reads as it did. -/
def codeJoinsUptoRow : OpenClaim := { program := "ytjdaaecbnhcoaaadoor", sum := "f95ffd131a86a1a54b91cdb2dfd33fc6d868e0fb9a393717569c239a991e204a", func := "crucible/cruciblelaw4.CodeJoins", spec := "codeJoins", named := ["crucible/code.names"], apart := false, laid := [("crucible/code.names", laid_crucible_code_names)], narrowed := true }
def CodeJoinsUptoSaid : Prop := codeJoinsUptoRow.holds Tryd.pinned (OpenSpec.upto codeJoinsSpec)

/-- 'cruciblelaw4.CodeTurns', WHERE WHAT IT READS IS OF BULK AT MOST 1048576: true; the input reads as it did. -/
def codeTurnsUptoRow : OpenClaim := { program := "ytjdaaecbnhcoaaadoor", sum := "f95ffd131a86a1a54b91cdb2dfd33fc6d868e0fb9a393717569c239a991e204a", func := "crucible/cruciblelaw4.CodeTurns", spec := "codeTurns", named := ["crucible/code.names"], apart := false, laid := [("crucible/code.names", laid_crucible_code_names)], narrowed := true }
def CodeTurnsUptoSaid : Prop := codeTurnsUptoRow.holds Tryd.pinned (OpenSpec.upto codeTurnsSpec)

end Rows
end Go.Proofs.YtjdaaecbnhcoaaaDoor
