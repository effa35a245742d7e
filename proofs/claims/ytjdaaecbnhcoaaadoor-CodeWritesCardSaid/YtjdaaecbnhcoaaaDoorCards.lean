/-
  DERIVED. GIVEN WITH THE SEED: THE CARDS: each row of YtjdaaecbnhcoaaaDoorRows.lean that lists a variable, with what it lists TIED to the program's text (the seventh form; the later family's looks); each row that meets fmt, with fmt's text TOLD by the authors' own Lean function (tested against real Go, not proved from fmt's source: count such statements apart). THE CARD IS WHAT COUNTS. Prove the row's statement (the work); the ties are given (YtjdaaecbnhcoaaaDoorTie.lean); close each card by the builder's one call (the guide's Derived/Test/ToyasCard.lean, 'card_holds'). Laid BY PROGRAM, IN A SANDBOX (cutbox-door.mjs). By AI agents, Wed Nov 11 2026. No macro, syntax, notation, axiom, sorry.
-/
import Derived.Test.YtjdaaecbnhcoaaaDoorRows
import GoSem.ClaimSeven
namespace Go.Proofs.YtjdaaecbnhcoaaaDoor
namespace Rows

/-- THE TIED CARD OF 'cruciblelaw4.CodeOps'. -/
def codeOpsCard : Claim7 := { stood := { row := codeOpsRow, standIns := [], harness := (true, "992aecaca973aa91bc9a77a08f6b3d987bee24498e8bd805a5f2d174bcbe8d60"), looks := false }, kinds := [], alts := [], laidByText := true, laidKinds := [.data], laidTests := true, laidLooks := .later }
def CodeOpsCardSaid : Prop := Claim7.holds Tryd.pinned (.plain (OpenSpec.ofChange codeOpsSpec)) codeOpsCard

/-- THE TIED CARD OF 'cruciblelaw4.CodeReads'. -/
def codeReadsCard : Claim7 := { stood := { row := codeReadsRow, standIns := [], harness := (true, "992aecaca973aa91bc9a77a08f6b3d987bee24498e8bd805a5f2d174bcbe8d60"), looks := false }, kinds := [], alts := [], laidByText := true, laidKinds := [.data], laidTests := true, laidLooks := .later }
def CodeReadsCardSaid : Prop := Claim7.holds Tryd.pinned (.plain (OpenSpec.ofChange codeReadsSpec)) codeReadsCard

/-- THE TIED CARD OF 'cruciblelaw4.CodeWrites'. -/
def codeWritesCard : Claim7 := { stood := { row := codeWritesRow, standIns := [], harness := (true, "992aecaca973aa91bc9a77a08f6b3d987bee24498e8bd805a5f2d174bcbe8d60"), looks := false }, kinds := [], alts := [], laidByText := true, laidKinds := [.data], laidTests := true, laidLooks := .later }
def CodeWritesCardSaid : Prop := Claim7.holds Tryd.pinned (.plain (OpenSpec.ofChange codeWritesSpec)) codeWritesCard

/-- THE TIED CARD OF 'cruciblelaw4.CodeCovers'. -/
def codeCoversCard : Claim7 := { stood := { row := codeCoversRow, standIns := [], harness := (true, "992aecaca973aa91bc9a77a08f6b3d987bee24498e8bd805a5f2d174bcbe8d60"), looks := false }, kinds := [], alts := [], laidByText := true, laidKinds := [.data], laidTests := true, laidLooks := .later }
def CodeCoversCardSaid : Prop := Claim7.holds Tryd.pinned (.plain (OpenSpec.ofChange codeCoversSpec)) codeCoversCard

/-- THE TIED CARD OF 'cruciblelaw4.CodeMoves'. -/
def codeMovesCard : Claim7 := { stood := { row := codeMovesRow, standIns := [], harness := (true, "992aecaca973aa91bc9a77a08f6b3d987bee24498e8bd805a5f2d174bcbe8d60"), looks := false }, kinds := [], alts := [], laidByText := true, laidKinds := [.data], laidTests := true, laidLooks := .later }
def CodeMovesCardSaid : Prop := Claim7.holds Tryd.pinned (.plain (OpenSpec.ofChange codeMovesSpec)) codeMovesCard

/-- THE TIED CARD OF 'cruciblelaw4.CodeJoins'. -/
def codeJoinsCard : Claim7 := { stood := { row := codeJoinsRow, standIns := [], harness := (true, "992aecaca973aa91bc9a77a08f6b3d987bee24498e8bd805a5f2d174bcbe8d60"), looks := false }, kinds := [], alts := [], laidByText := true, laidKinds := [.data], laidTests := true, laidLooks := .later }
def CodeJoinsCardSaid : Prop := Claim7.holds Tryd.pinned (.plain (OpenSpec.ofChange codeJoinsSpec)) codeJoinsCard

/-- THE TIED CARD OF 'cruciblelaw4.CodeTurns'. -/
def codeTurnsCard : Claim7 := { stood := { row := codeTurnsRow, standIns := [], harness := (true, "992aecaca973aa91bc9a77a08f6b3d987bee24498e8bd805a5f2d174bcbe8d60"), looks := false }, kinds := [], alts := [], laidByText := true, laidKinds := [.data], laidTests := true, laidLooks := .later }
def CodeTurnsCardSaid : Prop := Claim7.holds Tryd.pinned (.plain (OpenSpec.ofChange codeTurnsSpec)) codeTurnsCard

/-- THE SECOND FORM's CARD OF 'cruciblelaw4.CodeOps'. -/
def codeOpsUptoCard : Claim7 := { stood := { row := codeOpsUptoRow, standIns := [], harness := (true, "992aecaca973aa91bc9a77a08f6b3d987bee24498e8bd805a5f2d174bcbe8d60"), looks := false }, kinds := [], alts := [], laidByText := true, laidKinds := [.data], laidTests := true, laidLooks := .later }
def CodeOpsUptoCardSaid : Prop := Claim7.holds Tryd.pinned (.plain (OpenSpec.upto codeOpsSpec)) codeOpsUptoCard

/-- THE SECOND FORM's CARD OF 'cruciblelaw4.CodeReads'. -/
def codeReadsUptoCard : Claim7 := { stood := { row := codeReadsUptoRow, standIns := [], harness := (true, "992aecaca973aa91bc9a77a08f6b3d987bee24498e8bd805a5f2d174bcbe8d60"), looks := false }, kinds := [], alts := [], laidByText := true, laidKinds := [.data], laidTests := true, laidLooks := .later }
def CodeReadsUptoCardSaid : Prop := Claim7.holds Tryd.pinned (.plain (OpenSpec.upto codeReadsSpec)) codeReadsUptoCard

/-- THE SECOND FORM's CARD OF 'cruciblelaw4.CodeWrites'. -/
def codeWritesUptoCard : Claim7 := { stood := { row := codeWritesUptoRow, standIns := [], harness := (true, "992aecaca973aa91bc9a77a08f6b3d987bee24498e8bd805a5f2d174bcbe8d60"), looks := false }, kinds := [], alts := [], laidByText := true, laidKinds := [.data], laidTests := true, laidLooks := .later }
def CodeWritesUptoCardSaid : Prop := Claim7.holds Tryd.pinned (.plain (OpenSpec.upto codeWritesSpec)) codeWritesUptoCard

/-- THE SECOND FORM's CARD OF 'cruciblelaw4.CodeCovers'. -/
def codeCoversUptoCard : Claim7 := { stood := { row := codeCoversUptoRow, standIns := [], harness := (true, "992aecaca973aa91bc9a77a08f6b3d987bee24498e8bd805a5f2d174bcbe8d60"), looks := false }, kinds := [], alts := [], laidByText := true, laidKinds := [.data], laidTests := true, laidLooks := .later }
def CodeCoversUptoCardSaid : Prop := Claim7.holds Tryd.pinned (.plain (OpenSpec.upto codeCoversSpec)) codeCoversUptoCard

/-- THE SECOND FORM's CARD OF 'cruciblelaw4.CodeMoves'. -/
def codeMovesUptoCard : Claim7 := { stood := { row := codeMovesUptoRow, standIns := [], harness := (true, "992aecaca973aa91bc9a77a08f6b3d987bee24498e8bd805a5f2d174bcbe8d60"), looks := false }, kinds := [], alts := [], laidByText := true, laidKinds := [.data], laidTests := true, laidLooks := .later }
def CodeMovesUptoCardSaid : Prop := Claim7.holds Tryd.pinned (.plain (OpenSpec.upto codeMovesSpec)) codeMovesUptoCard

/-- THE SECOND FORM's CARD OF 'cruciblelaw4.CodeJoins'. -/
def codeJoinsUptoCard : Claim7 := { stood := { row := codeJoinsUptoRow, standIns := [], harness := (true, "992aecaca973aa91bc9a77a08f6b3d987bee24498e8bd805a5f2d174bcbe8d60"), looks := false }, kinds := [], alts := [], laidByText := true, laidKinds := [.data], laidTests := true, laidLooks := .later }
def CodeJoinsUptoCardSaid : Prop := Claim7.holds Tryd.pinned (.plain (OpenSpec.upto codeJoinsSpec)) codeJoinsUptoCard

/-- THE SECOND FORM's CARD OF 'cruciblelaw4.CodeTurns'. -/
def codeTurnsUptoCard : Claim7 := { stood := { row := codeTurnsUptoRow, standIns := [], harness := (true, "992aecaca973aa91bc9a77a08f6b3d987bee24498e8bd805a5f2d174bcbe8d60"), looks := false }, kinds := [], alts := [], laidByText := true, laidKinds := [.data], laidTests := true, laidLooks := .later }
def CodeTurnsUptoCardSaid : Prop := Claim7.holds Tryd.pinned (.plain (OpenSpec.upto codeTurnsSpec)) codeTurnsUptoCard
end Rows
end Go.Proofs.YtjdaaecbnhcoaaaDoor
