/-
  NARROWER THAN 'FOR EVERY INPUT', by the rows' own cells (each row's printed sentence says how): HierMakes: laid · HierSubs: laid · HierOrders: laid · HierSees: laid · HierOrderless: laid · HierClosed: laid · LatticeJoins: laid · LatticeStates: laid · LatticeOrders: laid · LatticeGrows: laid · LatticeSwaps: laid.
  DERIVED. THE GIVEN ROWS OF THIS SEAT. 11 by the template 'for every input the law returns true; each argument reads behind the call as it read before'; 0 by the template 'total and deterministic' (their statements: YtmaknddlgppinaaGreatDoorTotals.lean).
  GIVEN WITH THE SEED: the statements are not yours to turn. If you find one false, say at which input.
  Laid BY PROGRAM, IN A SANDBOX (cutbox-rows.mjs): the forced cells as the released guide's own fill.sh prints them over the translation 3d6871de6bdb3f49… (all of the seat's roots in one cut). By AI agents, Wed Nov 11 2026. No macro, syntax, notation, axiom, sorry.
-/
import Derived.Test.YtmaknddlgppinaaGreatDoorChecked
import GoSem.Claim
import GoSem.ClaimJoined
import GoSem.ClaimMapViews
import Derived.JoinedTies
import Derived.KernelRfl
namespace Go.Proofs.YtmaknddlgppinaaGreatDoor
/- THE CELL 'sum', in the pinned program and in every row, IS THE sha256 OF THE DUMP (.gsa) THAT YtmaknddlgppinaaGreatDoorProg.lean LOADS. Nothing in Lean hashes anything: it is a label: what it is worth is what the hold of that sum in a sandbox is worth. -/
noncomputable def Tryz.pinned : Pinned := { name := "ytmaknddlgppinaagreatdoor", sum := "3d6871de6bdb3f49c8a01ebfb1bb84ee4f1adb2eda7934418740be3ef9eb817f", checked := Tryz.checked }
namespace Rows
def none {H : Type} : Left H := { results := [], args := [] }

/- WHAT THE LISTED PACKAGE-LEVEL VARIABLES READ AS WHEN THE CALL BEGINS. Each datum BY PROGRAM (the guide's laid-datum.mjs) off the statement by which the dump's own 'gosem.cut.vars' lays the variable. In a bare row this is a premise. The card (YtmaknddlgppinaaGreatDoorCards.lean) ties it to the program's text. -/
def laid_crucible_hier_builtins {H : Type} : DataW H := .agg [.agg [.lit (.string [79, 98, 106, 101, 99, 116]), .lit (.string [])], .agg [.lit (.string [83, 116, 114, 105, 110, 103]), .lit (.string [79, 98, 106, 101, 99, 116])], .agg [.lit (.string [87, 101, 97, 107]), .lit (.string [79, 98, 106, 101, 99, 116])], .agg [.lit (.string [76, 111, 97, 100, 101, 114]), .lit (.string [79, 98, 106, 101, 99, 116])], .agg [.lit (.string [84, 104, 114, 111, 119, 97, 98, 108, 101]), .lit (.string [79, 98, 106, 101, 99, 116])], .agg [.lit (.string [78, 117, 108, 108]), .lit (.string [84, 104, 114, 111, 119, 97, 98, 108, 101])], .agg [.lit (.string [65, 114, 105, 116, 104]), .lit (.string [84, 104, 114, 111, 119, 97, 98, 108, 101])], .agg [.lit (.string [66, 111, 117, 110, 100, 115]), .lit (.string [84, 104, 114, 111, 119, 97, 98, 108, 101])], .agg [.lit (.string [83, 105, 122, 101]), .lit (.string [84, 104, 114, 111, 119, 97, 98, 108, 101])], .agg [.lit (.string [67, 97, 115, 116]), .lit (.string [84, 104, 114, 111, 119, 97, 98, 108, 101])], .agg [.lit (.string [83, 116, 111, 114, 101]), .lit (.string [84, 104, 114, 111, 119, 97, 98, 108, 101])], .agg [.lit (.string [77, 111, 110, 105, 116, 111, 114]), .lit (.string [84, 104, 114, 111, 119, 97, 98, 108, 101])], .agg [.lit (.string [78, 111, 67, 108, 97, 115, 115]), .lit (.string [84, 104, 114, 111, 119, 97, 98, 108, 101])], .agg [.lit (.string [68, 101, 101, 112]), .lit (.string [84, 104, 114, 111, 119, 97, 98, 108, 101])]]

/-- 'cruciblelaw6.HierMakes': WHATEVER THE INPUT: true; the input reads as it did. -/
def hierMakesSpec : ChangeSpec := { name := "hierMakes", fn := fun _ => fun
  | [d1, d2, d3] => { results := [.lit (.bool true)], args := [d1, d2, d3] }
  | _ => none }
def hierMakesRow : OpenClaim := { program := "ytmaknddlgppinaagreatdoor", sum := "3d6871de6bdb3f49c8a01ebfb1bb84ee4f1adb2eda7934418740be3ef9eb817f", func := "crucible/cruciblelaw6.HierMakes", spec := "hierMakes", inPlace := ["internal/bytealg.IndexByteString"], unfollowed := true, recurses := true, named := ["crucible/hier.builtins"], apart := false, laid := [("crucible/hier.builtins", laid_crucible_hier_builtins)] }
def HierMakesSaid : Prop := hierMakesRow.holds Tryz.pinned (OpenSpec.ofChange hierMakesSpec)

/-- ITS FALSE NEIGHBOUR: 'it returns false'. Refute it at one input. -/
def hierMakesWrong : ChangeSpec := { name := "hierMakes", fn := fun _ => fun
  | [d1, d2, d3] => { results := [.lit (.bool false)], args := [d1, d2, d3] }
  | _ => none }
def HierMakesWrongFalsely : Prop := hierMakesRow.holds Tryz.pinned (OpenSpec.ofChange hierMakesWrong)

/-- 'cruciblelaw6.HierSubs': WHATEVER THE INPUT: true; the input reads as it did. -/
def hierSubsSpec : ChangeSpec := { name := "hierSubs", fn := fun _ => fun
  | [d1, d2, d3, d4] => { results := [.lit (.bool true)], args := [d1, d2, d3, d4] }
  | _ => none }
def hierSubsRow : OpenClaim := { program := "ytmaknddlgppinaagreatdoor", sum := "3d6871de6bdb3f49c8a01ebfb1bb84ee4f1adb2eda7934418740be3ef9eb817f", func := "crucible/cruciblelaw6.HierSubs", spec := "hierSubs", inPlace := ["internal/bytealg.IndexByteString"], unfollowed := true, recurses := true, named := ["crucible/hier.builtins"], apart := false, laid := [("crucible/hier.builtins", laid_crucible_hier_builtins)] }
def HierSubsSaid : Prop := hierSubsRow.holds Tryz.pinned (OpenSpec.ofChange hierSubsSpec)

/-- ITS FALSE NEIGHBOUR: 'it returns false'. Refute it at one input. -/
def hierSubsWrong : ChangeSpec := { name := "hierSubs", fn := fun _ => fun
  | [d1, d2, d3, d4] => { results := [.lit (.bool false)], args := [d1, d2, d3, d4] }
  | _ => none }
def HierSubsWrongFalsely : Prop := hierSubsRow.holds Tryz.pinned (OpenSpec.ofChange hierSubsWrong)

/-- 'cruciblelaw6.HierOrders': WHATEVER THE INPUT: true; the input reads as it did. -/
def hierOrdersSpec : ChangeSpec := { name := "hierOrders", fn := fun _ => fun
  | [d1, d2] => { results := [.lit (.bool true)], args := [d1, d2] }
  | _ => none }
def hierOrdersRow : OpenClaim := { program := "ytmaknddlgppinaagreatdoor", sum := "3d6871de6bdb3f49c8a01ebfb1bb84ee4f1adb2eda7934418740be3ef9eb817f", func := "crucible/cruciblelaw6.HierOrders", spec := "hierOrders", inPlace := ["internal/bytealg.IndexByteString"], unfollowed := true, recurses := true, named := ["crucible/hier.builtins"], apart := false, laid := [("crucible/hier.builtins", laid_crucible_hier_builtins)] }
def HierOrdersSaid : Prop := hierOrdersRow.holds Tryz.pinned (OpenSpec.ofChange hierOrdersSpec)

/-- ITS FALSE NEIGHBOUR: 'it returns false'. Refute it at one input. -/
def hierOrdersWrong : ChangeSpec := { name := "hierOrders", fn := fun _ => fun
  | [d1, d2] => { results := [.lit (.bool false)], args := [d1, d2] }
  | _ => none }
def HierOrdersWrongFalsely : Prop := hierOrdersRow.holds Tryz.pinned (OpenSpec.ofChange hierOrdersWrong)

/-- 'cruciblelaw6.HierSees': WHATEVER THE INPUT: true; the input reads as it did. -/
def hierSeesSpec : ChangeSpec := { name := "hierSees", fn := fun _ => fun
  | [d1, d2, d3] => { results := [.lit (.bool true)], args := [d1, d2, d3] }
  | _ => none }
def hierSeesRow : OpenClaim := { program := "ytmaknddlgppinaagreatdoor", sum := "3d6871de6bdb3f49c8a01ebfb1bb84ee4f1adb2eda7934418740be3ef9eb817f", func := "crucible/cruciblelaw6.HierSees", spec := "hierSees", inPlace := ["internal/bytealg.IndexByteString"], unfollowed := true, recurses := true, named := ["crucible/hier.builtins"], apart := false, laid := [("crucible/hier.builtins", laid_crucible_hier_builtins)] }
def HierSeesSaid : Prop := hierSeesRow.holds Tryz.pinned (OpenSpec.ofChange hierSeesSpec)

/-- ITS FALSE NEIGHBOUR: 'it returns false'. Refute it at one input. -/
def hierSeesWrong : ChangeSpec := { name := "hierSees", fn := fun _ => fun
  | [d1, d2, d3] => { results := [.lit (.bool false)], args := [d1, d2, d3] }
  | _ => none }
def HierSeesWrongFalsely : Prop := hierSeesRow.holds Tryz.pinned (OpenSpec.ofChange hierSeesWrong)

/-- 'cruciblelaw6.HierOrderless': WHATEVER THE INPUT: true; the input reads as it did. -/
def hierOrderlessSpec : ChangeSpec := { name := "hierOrderless", fn := fun _ => fun
  | [d1, d2, d3] => { results := [.lit (.bool true)], args := [d1, d2, d3] }
  | _ => none }
def hierOrderlessRow : OpenClaim := { program := "ytmaknddlgppinaagreatdoor", sum := "3d6871de6bdb3f49c8a01ebfb1bb84ee4f1adb2eda7934418740be3ef9eb817f", func := "crucible/cruciblelaw6.HierOrderless", spec := "hierOrderless", inPlace := ["internal/bytealg.IndexByteString"], unfollowed := true, recurses := true, named := ["crucible/hier.builtins"], apart := false, laid := [("crucible/hier.builtins", laid_crucible_hier_builtins)] }
def HierOrderlessSaid : Prop := hierOrderlessRow.holds Tryz.pinned (OpenSpec.ofChange hierOrderlessSpec)

/-- ITS FALSE NEIGHBOUR: 'it returns false'. Refute it at one input. -/
def hierOrderlessWrong : ChangeSpec := { name := "hierOrderless", fn := fun _ => fun
  | [d1, d2, d3] => { results := [.lit (.bool false)], args := [d1, d2, d3] }
  | _ => none }
def HierOrderlessWrongFalsely : Prop := hierOrderlessRow.holds Tryz.pinned (OpenSpec.ofChange hierOrderlessWrong)

/-- 'cruciblelaw6.HierClosed': WHATEVER THE INPUT: true; the input reads as it did. -/
def hierClosedSpec : ChangeSpec := { name := "hierClosed", fn := fun _ => fun
  | [d1, d2] => { results := [.lit (.bool true)], args := [d1, d2] }
  | _ => none }
def hierClosedRow : OpenClaim := { program := "ytmaknddlgppinaagreatdoor", sum := "3d6871de6bdb3f49c8a01ebfb1bb84ee4f1adb2eda7934418740be3ef9eb817f", func := "crucible/cruciblelaw6.HierClosed", spec := "hierClosed", inPlace := ["internal/bytealg.IndexByteString"], unfollowed := true, recurses := true, named := ["crucible/hier.builtins"], apart := false, laid := [("crucible/hier.builtins", laid_crucible_hier_builtins)] }
def HierClosedSaid : Prop := hierClosedRow.holds Tryz.pinned (OpenSpec.ofChange hierClosedSpec)

/-- ITS FALSE NEIGHBOUR: 'it returns false'. Refute it at one input. -/
def hierClosedWrong : ChangeSpec := { name := "hierClosed", fn := fun _ => fun
  | [d1, d2] => { results := [.lit (.bool false)], args := [d1, d2] }
  | _ => none }
def HierClosedWrongFalsely : Prop := hierClosedRow.holds Tryz.pinned (OpenSpec.ofChange hierClosedWrong)

/-- 'cruciblelaw7.LatticeJoins': WHATEVER THE INPUT: true; the input reads as it did. -/
def latticeJoinsSpec : ChangeSpec := { name := "latticeJoins", fn := fun _ => fun
  | [d1, d2] => { results := [.lit (.bool true)], args := [d1, d2] }
  | _ => none }
def latticeJoinsRow : OpenClaim := { program := "ytmaknddlgppinaagreatdoor", sum := "3d6871de6bdb3f49c8a01ebfb1bb84ee4f1adb2eda7934418740be3ef9eb817f", func := "crucible/cruciblelaw7.LatticeJoins", spec := "latticeJoins", inPlace := ["internal/bytealg.IndexByteString"], unfollowed := true, recurses := true, named := ["crucible/hier.builtins"], apart := false, laid := [("crucible/hier.builtins", laid_crucible_hier_builtins)] }
def LatticeJoinsSaid : Prop := latticeJoinsRow.holds Tryz.pinned (OpenSpec.ofChange latticeJoinsSpec)

/-- ITS FALSE NEIGHBOUR: 'it returns false'. Refute it at one input. -/
def latticeJoinsWrong : ChangeSpec := { name := "latticeJoins", fn := fun _ => fun
  | [d1, d2] => { results := [.lit (.bool false)], args := [d1, d2] }
  | _ => none }
def LatticeJoinsWrongFalsely : Prop := latticeJoinsRow.holds Tryz.pinned (OpenSpec.ofChange latticeJoinsWrong)

/-- 'cruciblelaw7.LatticeStates': WHATEVER THE INPUT: true; the input reads as it did. -/
def latticeStatesSpec : ChangeSpec := { name := "latticeStates", fn := fun _ => fun
  | [d1, d2] => { results := [.lit (.bool true)], args := [d1, d2] }
  | _ => none }
def latticeStatesRow : OpenClaim := { program := "ytmaknddlgppinaagreatdoor", sum := "3d6871de6bdb3f49c8a01ebfb1bb84ee4f1adb2eda7934418740be3ef9eb817f", func := "crucible/cruciblelaw7.LatticeStates", spec := "latticeStates", inPlace := ["internal/bytealg.IndexByteString"], unfollowed := true, recurses := true, named := ["crucible/hier.builtins"], apart := false, laid := [("crucible/hier.builtins", laid_crucible_hier_builtins)] }
def LatticeStatesSaid : Prop := latticeStatesRow.holds Tryz.pinned (OpenSpec.ofChange latticeStatesSpec)

/-- ITS FALSE NEIGHBOUR: 'it returns false'. Refute it at one input. -/
def latticeStatesWrong : ChangeSpec := { name := "latticeStates", fn := fun _ => fun
  | [d1, d2] => { results := [.lit (.bool false)], args := [d1, d2] }
  | _ => none }
def LatticeStatesWrongFalsely : Prop := latticeStatesRow.holds Tryz.pinned (OpenSpec.ofChange latticeStatesWrong)

/-- 'cruciblelaw7.LatticeOrders': WHATEVER THE INPUT: true; the input reads as it did. -/
def latticeOrdersSpec : ChangeSpec := { name := "latticeOrders", fn := fun _ => fun
  | [d] => { results := [.lit (.bool true)], args := [d] }
  | _ => none }
def latticeOrdersRow : OpenClaim := { program := "ytmaknddlgppinaagreatdoor", sum := "3d6871de6bdb3f49c8a01ebfb1bb84ee4f1adb2eda7934418740be3ef9eb817f", func := "crucible/cruciblelaw7.LatticeOrders", spec := "latticeOrders", inPlace := ["internal/bytealg.IndexByteString"], unfollowed := true, recurses := true, named := ["crucible/hier.builtins"], apart := false, laid := [("crucible/hier.builtins", laid_crucible_hier_builtins)] }
def LatticeOrdersSaid : Prop := latticeOrdersRow.holds Tryz.pinned (OpenSpec.ofChange latticeOrdersSpec)

/-- ITS FALSE NEIGHBOUR: 'it returns false'. Refute it at one input. -/
def latticeOrdersWrong : ChangeSpec := { name := "latticeOrders", fn := fun _ => fun
  | [d] => { results := [.lit (.bool false)], args := [d] }
  | _ => none }
def LatticeOrdersWrongFalsely : Prop := latticeOrdersRow.holds Tryz.pinned (OpenSpec.ofChange latticeOrdersWrong)

/-- 'cruciblelaw7.LatticeGrows': WHATEVER THE INPUT: true; the input reads as it did. -/
def latticeGrowsSpec : ChangeSpec := { name := "latticeGrows", fn := fun _ => fun
  | [d1, d2, d3] => { results := [.lit (.bool true)], args := [d1, d2, d3] }
  | _ => none }
def latticeGrowsRow : OpenClaim := { program := "ytmaknddlgppinaagreatdoor", sum := "3d6871de6bdb3f49c8a01ebfb1bb84ee4f1adb2eda7934418740be3ef9eb817f", func := "crucible/cruciblelaw7.LatticeGrows", spec := "latticeGrows", inPlace := ["internal/bytealg.IndexByteString"], unfollowed := true, recurses := true, named := ["crucible/hier.builtins"], apart := false, laid := [("crucible/hier.builtins", laid_crucible_hier_builtins)] }
def LatticeGrowsSaid : Prop := latticeGrowsRow.holds Tryz.pinned (OpenSpec.ofChange latticeGrowsSpec)

/-- ITS FALSE NEIGHBOUR: 'it returns false'. Refute it at one input. -/
def latticeGrowsWrong : ChangeSpec := { name := "latticeGrows", fn := fun _ => fun
  | [d1, d2, d3] => { results := [.lit (.bool false)], args := [d1, d2, d3] }
  | _ => none }
def LatticeGrowsWrongFalsely : Prop := latticeGrowsRow.holds Tryz.pinned (OpenSpec.ofChange latticeGrowsWrong)

/-- 'cruciblelaw7.LatticeSwaps': WHATEVER THE INPUT: true; the input reads as it did. -/
def latticeSwapsSpec : ChangeSpec := { name := "latticeSwaps", fn := fun _ => fun
  | [d1, d2, d3, d4, d5] => { results := [.lit (.bool true)], args := [d1, d2, d3, d4, d5] }
  | _ => none }
def latticeSwapsRow : OpenClaim := { program := "ytmaknddlgppinaagreatdoor", sum := "3d6871de6bdb3f49c8a01ebfb1bb84ee4f1adb2eda7934418740be3ef9eb817f", func := "crucible/cruciblelaw7.LatticeSwaps", spec := "latticeSwaps", inPlace := ["internal/bytealg.IndexByteString"], unfollowed := true, recurses := true, named := ["crucible/hier.builtins"], apart := false, laid := [("crucible/hier.builtins", laid_crucible_hier_builtins)] }
def LatticeSwapsSaid : Prop := latticeSwapsRow.holds Tryz.pinned (OpenSpec.ofChange latticeSwapsSpec)

/-- ITS FALSE NEIGHBOUR: 'it returns false'. Refute it at one input. -/
def latticeSwapsWrong : ChangeSpec := { name := "latticeSwaps", fn := fun _ => fun
  | [d1, d2, d3, d4, d5] => { results := [.lit (.bool false)], args := [d1, d2, d3, d4, d5] }
  | _ => none }
def LatticeSwapsWrongFalsely : Prop := latticeSwapsRow.holds Tryz.pinned (OpenSpec.ofChange latticeSwapsWrong)

/- THE SECOND FORM. 'bulk': how many values and letters a reading holds, each counted each time it is reached (what is shared counts as often as it is met; a slice's spare places count too). A statement '..UptoSaid' is the law's where the arguments, and the package variables that the reading takes, are together of bulk at most 1048576: NARROWER than '..Said'. Prove '..Said' where nothing that the law and all that it calls make is longer than what came in: it says more and counts as full. Else prove '..UptoSaid'. A law counts once. -/
mutual
def uptoBulk {H : Type} : DataW H → Nat
  | .lit (.string bytes) => bytes.length + 1
  | .lit _ => 1
  | .nil => 1
  | .ptr d => uptoBulk d + 1
  | .slice elems spare => uptoBulkAll elems + uptoBulkAll spare + 1
  | .agg parts => uptoBulkAll parts + 1
  | .iface _ d => uptoBulk d + 1
  | .map entries => uptoBulkEntries entries + 1
  | .held _ => 1
def uptoBulkAll {H : Type} : List (DataW H) → Nat
  | [] => 0
  | d :: r => uptoBulk d + uptoBulkAll r
def uptoBulkEntries {H : Type} : List (Lit × DataW H) → Nat
  | [] => 0
  | x :: r => uptoBulkEntry x + uptoBulkEntries r
def uptoBulkEntry {H : Type} : Lit × DataW H → Nat
  | (.string bytes, d) => bytes.length + uptoBulk d + 1
  | (_, d) => uptoBulk d + 1
 end
def uptoSmall : (H : Type) → List (DataW H) → Bool := fun _ ds => decide (uptoBulkAll ds ≤ 1048576)
def OpenSpec.upto (s : _root_.Go.ChangeSpec) : _root_.Go.OpenSpec := { _root_.Go.OpenSpec.ofChange s with cond := some uptoSmall }

/-- 'cruciblelaw6.HierMakes', WHERE WHAT IT READS IS OF BULK AT MOST 1048576: true; the input reads as it did. -/
def hierMakesUptoRow : OpenClaim := { program := "ytmaknddlgppinaagreatdoor", sum := "3d6871de6bdb3f49c8a01ebfb1bb84ee4f1adb2eda7934418740be3ef9eb817f", func := "crucible/cruciblelaw6.HierMakes", spec := "hierMakes", inPlace := ["internal/bytealg.IndexByteString"], unfollowed := true, recurses := true, named := ["crucible/hier.builtins"], apart := false, laid := [("crucible/hier.builtins", laid_crucible_hier_builtins)], narrowed := true }
def HierMakesUptoSaid : Prop := hierMakesUptoRow.holds Tryz.pinned (OpenSpec.upto hierMakesSpec)

/-- 'cruciblelaw6.HierSubs', WHERE WHAT IT READS IS OF BULK AT MOST 1048576: true; the input reads as it did. -/
def hierSubsUptoRow : OpenClaim := { program := "ytmaknddlgppinaagreatdoor", sum := "3d6871de6bdb3f49c8a01ebfb1bb84ee4f1adb2eda7934418740be3ef9eb817f", func := "crucible/cruciblelaw6.HierSubs", spec := "hierSubs", inPlace := ["internal/bytealg.IndexByteString"], unfollowed := true, recurses := true, named := ["crucible/hier.builtins"], apart := false, laid := [("crucible/hier.builtins", laid_crucible_hier_builtins)], narrowed := true }
def HierSubsUptoSaid : Prop := hierSubsUptoRow.holds Tryz.pinned (OpenSpec.upto hierSubsSpec)

/-- 'cruciblelaw6.HierOrders', WHERE WHAT IT READS IS OF BULK AT MOST 1048576: true; the input reads as it did. -/
def hierOrdersUptoRow : OpenClaim := { program := "ytmaknddlgppinaagreatdoor", sum := "3d6871de6bdb3f49c8a01ebfb1bb84ee4f1adb2eda7934418740be3ef9eb817f", func := "crucible/cruciblelaw6.HierOrders", spec := "hierOrders", inPlace := ["internal/bytealg.IndexByteString"], unfollowed := true, recurses := true, named := ["crucible/hier.builtins"], apart := false, laid := [("crucible/hier.builtins", laid_crucible_hier_builtins)], narrowed := true }
def HierOrdersUptoSaid : Prop := hierOrdersUptoRow.holds Tryz.pinned (OpenSpec.upto hierOrdersSpec)

/-- 'cruciblelaw6.HierSees', WHERE WHAT IT READS IS OF BULK AT MOST 1048576: true; the input reads as it did. -/
def hierSeesUptoRow : OpenClaim := { program := "ytmaknddlgppinaagreatdoor", sum := "3d6871de6bdb3f49c8a01ebfb1bb84ee4f1adb2eda7934418740be3ef9eb817f", func := "crucible/cruciblelaw6.HierSees", spec := "hierSees", inPlace := ["internal/bytealg.IndexByteString"], unfollowed := true, recurses := true, named := ["crucible/hier.builtins"], apart := false, laid := [("crucible/hier.builtins", laid_crucible_hier_builtins)], narrowed := true }
def HierSeesUptoSaid : Prop := hierSeesUptoRow.holds Tryz.pinned (OpenSpec.upto hierSeesSpec)

/-- 'cruciblelaw6.HierOrderless', WHERE WHAT IT READS IS OF BULK AT MOST 1048576: true; the input reads as it did. -/
def hierOrderlessUptoRow : OpenClaim := { program := "ytmaknddlgppinaagreatdoor", sum := "3d6871de6bdb3f49c8a01ebfb1bb84ee4f1adb2eda7934418740be3ef9eb817f", func := "crucible/cruciblelaw6.HierOrderless", spec := "hierOrderless", inPlace := ["internal/bytealg.IndexByteString"], unfollowed := true, recurses := true, named := ["crucible/hier.builtins"], apart := false, laid := [("crucible/hier.builtins", laid_crucible_hier_builtins)], narrowed := true }
def HierOrderlessUptoSaid : Prop := hierOrderlessUptoRow.holds Tryz.pinned (OpenSpec.upto hierOrderlessSpec)

/-- 'cruciblelaw6.HierClosed', WHERE WHAT IT READS IS OF BULK AT MOST 1048576: true; the input reads as it did. -/
def hierClosedUptoRow : OpenClaim := { program := "ytmaknddlgppinaagreatdoor", sum := "3d6871de6bdb3f49c8a01ebfb1bb84ee4f1adb2eda7934418740be3ef9eb817f", func := "crucible/cruciblelaw6.HierClosed", spec := "hierClosed", inPlace := ["internal/bytealg.IndexByteString"], unfollowed := true, recurses := true, named := ["crucible/hier.builtins"], apart := false, laid := [("crucible/hier.builtins", laid_crucible_hier_builtins)], narrowed := true }
def HierClosedUptoSaid : Prop := hierClosedUptoRow.holds Tryz.pinned (OpenSpec.upto hierClosedSpec)

/-- 'cruciblelaw7.LatticeJoins', WHERE WHAT IT READS IS OF BULK AT MOST 1048576: true; the input reads as it did. -/
def latticeJoinsUptoRow : OpenClaim := { program := "ytmaknddlgppinaagreatdoor", sum := "3d6871de6bdb3f49c8a01ebfb1bb84ee4f1adb2eda7934418740be3ef9eb817f", func := "crucible/cruciblelaw7.LatticeJoins", spec := "latticeJoins", inPlace := ["internal/bytealg.IndexByteString"], unfollowed := true, recurses := true, named := ["crucible/hier.builtins"], apart := false, laid := [("crucible/hier.builtins", laid_crucible_hier_builtins)], narrowed := true }
def LatticeJoinsUptoSaid : Prop := latticeJoinsUptoRow.holds Tryz.pinned (OpenSpec.upto latticeJoinsSpec)

/-- 'cruciblelaw7.LatticeStates', WHERE WHAT IT READS IS OF BULK AT MOST 1048576: true; the input reads as it did. -/
def latticeStatesUptoRow : OpenClaim := { program := "ytmaknddlgppinaagreatdoor", sum := "3d6871de6bdb3f49c8a01ebfb1bb84ee4f1adb2eda7934418740be3ef9eb817f", func := "crucible/cruciblelaw7.LatticeStates", spec := "latticeStates", inPlace := ["internal/bytealg.IndexByteString"], unfollowed := true, recurses := true, named := ["crucible/hier.builtins"], apart := false, laid := [("crucible/hier.builtins", laid_crucible_hier_builtins)], narrowed := true }
def LatticeStatesUptoSaid : Prop := latticeStatesUptoRow.holds Tryz.pinned (OpenSpec.upto latticeStatesSpec)

/-- 'cruciblelaw7.LatticeOrders', WHERE WHAT IT READS IS OF BULK AT MOST 1048576: true; the input reads as it did. -/
def latticeOrdersUptoRow : OpenClaim := { program := "ytmaknddlgppinaagreatdoor", sum := "3d6871de6bdb3f49c8a01ebfb1bb84ee4f1adb2eda7934418740be3ef9eb817f", func := "crucible/cruciblelaw7.LatticeOrders", spec := "latticeOrders", inPlace := ["internal/bytealg.IndexByteString"], unfollowed := true, recurses := true, named := ["crucible/hier.builtins"], apart := false, laid := [("crucible/hier.builtins", laid_crucible_hier_builtins)], narrowed := true }
def LatticeOrdersUptoSaid : Prop := latticeOrdersUptoRow.holds Tryz.pinned (OpenSpec.upto latticeOrdersSpec)

/-- 'cruciblelaw7.LatticeGrows', WHERE WHAT IT READS IS OF BULK AT MOST 1048576: true; the input reads as it did. -/
def latticeGrowsUptoRow : OpenClaim := { program := "ytmaknddlgppinaagreatdoor", sum := "3d6871de6bdb3f49c8a01ebfb1bb84ee4f1adb2eda7934418740be3ef9eb817f", func := "crucible/cruciblelaw7.LatticeGrows", spec := "latticeGrows", inPlace := ["internal/bytealg.IndexByteString"], unfollowed := true, recurses := true, named := ["crucible/hier.builtins"], apart := false, laid := [("crucible/hier.builtins", laid_crucible_hier_builtins)], narrowed := true }
def LatticeGrowsUptoSaid : Prop := latticeGrowsUptoRow.holds Tryz.pinned (OpenSpec.upto latticeGrowsSpec)

/-- 'cruciblelaw7.LatticeSwaps', WHERE WHAT IT READS IS OF BULK AT MOST 1048576: true; the input reads as it did. -/
def latticeSwapsUptoRow : OpenClaim := { program := "ytmaknddlgppinaagreatdoor", sum := "3d6871de6bdb3f49c8a01ebfb1bb84ee4f1adb2eda7934418740be3ef9eb817f", func := "crucible/cruciblelaw7.LatticeSwaps", spec := "latticeSwaps", inPlace := ["internal/bytealg.IndexByteString"], unfollowed := true, recurses := true, named := ["crucible/hier.builtins"], apart := false, laid := [("crucible/hier.builtins", laid_crucible_hier_builtins)], narrowed := true }
def LatticeSwapsUptoSaid : Prop := latticeSwapsUptoRow.holds Tryz.pinned (OpenSpec.upto latticeSwapsSpec)

end Rows
end Go.Proofs.YtmaknddlgppinaaGreatDoor
