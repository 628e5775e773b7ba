/-
  NARROWER THAN 'FOR EVERY INPUT', by the rows' own cells (each row's printed sentence says how): StepModel: laid · StepKeepsShapes: laid · StepMoves: laid · StepLonely: laid · StepSplits: laid.
  DERIVED. THE GIVEN ROWS OF THIS SEAT. 5 by the template 'for every input the law returns true; each argument reads behind the call as it read before'; 0 by the template 'total and deterministic' (their statements: YtaknmlohnifcdaaGreatDoorTotals.lean).
  GIVEN WITH THE SEED: the statements are not yours to turn. If you find one false, say at which input.
  Laid BY PROGRAM, IN A SANDBOX (cutbox-rows.mjs): the forced cells as the released guide's own fill.sh prints them over the translation a1742eac47c2e89b… (all of the seat's roots in one cut). By AI agents, Wed Nov 11 2026. No macro, syntax, notation, axiom, sorry.
-/
import Derived.Test.YtaknmlohnifcdaaGreatDoorChecked
import GoSem.Claim
import GoSem.ClaimJoined
import GoSem.ClaimMapViews
import Derived.JoinedTies
import Derived.KernelRfl
namespace Go.Proofs.YtaknmlohnifcdaaGreatDoor
/- THE CELL 'sum', in the pinned program and in every row, IS THE sha256 OF THE DUMP (.gsa) THAT YtaknmlohnifcdaaGreatDoorProg.lean LOADS. Nothing in Lean hashes anything: it is a label: what it is worth is what the hold of that sum in a sandbox is worth. -/
noncomputable def Tryz.pinned : Pinned := { name := "ytaknmlohnifcdaagreatdoor", sum := "a1742eac47c2e89b971bac92fe59cc99bc2b0d1c4f9a151d8efef365e97d5fea", checked := Tryz.checked }
namespace Rows
def none {H : Type} : Left H := { results := [], args := [] }

/- WHAT THE LISTED PACKAGE-LEVEL VARIABLES READ AS WHEN THE CALL BEGINS. Each datum BY PROGRAM (the guide's laid-datum.mjs) off the statement by which the dump's own 'gosem.cut.vars' lays the variable. In a bare row this is a premise. The card (YtaknmlohnifcdaaGreatDoorCards.lean) ties it to the program's text. -/
def laid_billiard_cell_factors {H : Type} : DataW H := .agg [.lit (.int .u32 73856093), .lit (.int .u32 19349663)]

/-- 'billiardlaw20.StepModel': WHATEVER THE INPUT: true; the input reads as it did. -/
def stepModelSpec : ChangeSpec := { name := "stepModel", fn := fun _ => fun
  | [d] => { results := [.lit (.bool true)], args := [d] }
  | _ => none }
def stepModelRow : OpenClaim := { program := "ytaknmlohnifcdaagreatdoor", sum := "a1742eac47c2e89b971bac92fe59cc99bc2b0d1c4f9a151d8efef365e97d5fea", func := "billiard/billiardlaw20.StepModel", spec := "stepModel", inPlace := ["slices.overlaps[uint32]", "math/bits.Add64", "math/bits.Sub64"], unfollowed := true, recurses := true, named := ["billiard/cell.factors", "math/bits.divideError", "math/bits.overflowError"], plainKeys := false, apart := false, laid := [("billiard/cell.factors", laid_billiard_cell_factors)] }
def StepModelSaid : Prop := stepModelRow.holds Tryz.pinned (OpenSpec.ofChange stepModelSpec)

/-- ITS FALSE NEIGHBOUR: 'it returns false'. Refute it at one input. -/
def stepModelWrong : ChangeSpec := { name := "stepModel", fn := fun _ => fun
  | [d] => { results := [.lit (.bool false)], args := [d] }
  | _ => none }
def StepModelWrongFalsely : Prop := stepModelRow.holds Tryz.pinned (OpenSpec.ofChange stepModelWrong)

/-- 'billiardlaw20.StepKeepsShapes': WHATEVER THE INPUT: true; the input reads as it did. -/
def stepKeepsShapesSpec : ChangeSpec := { name := "stepKeepsShapes", fn := fun _ => fun
  | [d1, d2] => { results := [.lit (.bool true)], args := [d1, d2] }
  | _ => none }
def stepKeepsShapesRow : OpenClaim := { program := "ytaknmlohnifcdaagreatdoor", sum := "a1742eac47c2e89b971bac92fe59cc99bc2b0d1c4f9a151d8efef365e97d5fea", func := "billiard/billiardlaw20.StepKeepsShapes", spec := "stepKeepsShapes", inPlace := ["slices.overlaps[uint32]", "math/bits.Add64", "math/bits.Sub64"], unfollowed := true, recurses := true, named := ["billiard/cell.factors", "math/bits.divideError", "math/bits.overflowError"], plainKeys := false, apart := false, laid := [("billiard/cell.factors", laid_billiard_cell_factors)] }
def StepKeepsShapesSaid : Prop := stepKeepsShapesRow.holds Tryz.pinned (OpenSpec.ofChange stepKeepsShapesSpec)

/-- ITS FALSE NEIGHBOUR: 'it returns false'. Refute it at one input. -/
def stepKeepsShapesWrong : ChangeSpec := { name := "stepKeepsShapes", fn := fun _ => fun
  | [d1, d2] => { results := [.lit (.bool false)], args := [d1, d2] }
  | _ => none }
def StepKeepsShapesWrongFalsely : Prop := stepKeepsShapesRow.holds Tryz.pinned (OpenSpec.ofChange stepKeepsShapesWrong)

/-- 'billiardlaw20.StepMoves': WHATEVER THE INPUT: true; the input reads as it did. -/
def stepMovesSpec : ChangeSpec := { name := "stepMoves", fn := fun _ => fun
  | [d1, d2] => { results := [.lit (.bool true)], args := [d1, d2] }
  | _ => none }
def stepMovesRow : OpenClaim := { program := "ytaknmlohnifcdaagreatdoor", sum := "a1742eac47c2e89b971bac92fe59cc99bc2b0d1c4f9a151d8efef365e97d5fea", func := "billiard/billiardlaw20.StepMoves", spec := "stepMoves", inPlace := ["slices.overlaps[uint32]", "math/bits.Add64", "math/bits.Sub64"], unfollowed := true, recurses := true, named := ["billiard/cell.factors", "math/bits.divideError", "math/bits.overflowError"], plainKeys := false, apart := false, laid := [("billiard/cell.factors", laid_billiard_cell_factors)] }
def StepMovesSaid : Prop := stepMovesRow.holds Tryz.pinned (OpenSpec.ofChange stepMovesSpec)

/-- ITS FALSE NEIGHBOUR: 'it returns false'. Refute it at one input. -/
def stepMovesWrong : ChangeSpec := { name := "stepMoves", fn := fun _ => fun
  | [d1, d2] => { results := [.lit (.bool false)], args := [d1, d2] }
  | _ => none }
def StepMovesWrongFalsely : Prop := stepMovesRow.holds Tryz.pinned (OpenSpec.ofChange stepMovesWrong)

/-- 'billiardlaw20.StepLonely': WHATEVER THE INPUT: true; the input reads as it did. -/
def stepLonelySpec : ChangeSpec := { name := "stepLonely", fn := fun _ => fun
  | [d1, d2] => { results := [.lit (.bool true)], args := [d1, d2] }
  | _ => none }
def stepLonelyRow : OpenClaim := { program := "ytaknmlohnifcdaagreatdoor", sum := "a1742eac47c2e89b971bac92fe59cc99bc2b0d1c4f9a151d8efef365e97d5fea", func := "billiard/billiardlaw20.StepLonely", spec := "stepLonely", inPlace := ["slices.overlaps[uint32]", "math/bits.Add64", "math/bits.Sub64"], unfollowed := true, recurses := true, named := ["billiard/cell.factors", "math/bits.divideError", "math/bits.overflowError"], plainKeys := false, apart := false, laid := [("billiard/cell.factors", laid_billiard_cell_factors)] }
def StepLonelySaid : Prop := stepLonelyRow.holds Tryz.pinned (OpenSpec.ofChange stepLonelySpec)

/-- ITS FALSE NEIGHBOUR: 'it returns false'. Refute it at one input. -/
def stepLonelyWrong : ChangeSpec := { name := "stepLonely", fn := fun _ => fun
  | [d1, d2] => { results := [.lit (.bool false)], args := [d1, d2] }
  | _ => none }
def StepLonelyWrongFalsely : Prop := stepLonelyRow.holds Tryz.pinned (OpenSpec.ofChange stepLonelyWrong)

/-- 'billiardlaw20.StepSplits': WHATEVER THE INPUT: true; the input reads as it did. -/
def stepSplitsSpec : ChangeSpec := { name := "stepSplits", fn := fun _ => fun
  | [d1, d2, d3] => { results := [.lit (.bool true)], args := [d1, d2, d3] }
  | _ => none }
def stepSplitsRow : OpenClaim := { program := "ytaknmlohnifcdaagreatdoor", sum := "a1742eac47c2e89b971bac92fe59cc99bc2b0d1c4f9a151d8efef365e97d5fea", func := "billiard/billiardlaw20.StepSplits", spec := "stepSplits", inPlace := ["slices.overlaps[uint32]", "math/bits.Add64", "math/bits.Sub64"], unfollowed := true, recurses := true, named := ["billiard/cell.factors", "math/bits.divideError", "math/bits.overflowError"], plainKeys := false, apart := false, laid := [("billiard/cell.factors", laid_billiard_cell_factors)] }
def StepSplitsSaid : Prop := stepSplitsRow.holds Tryz.pinned (OpenSpec.ofChange stepSplitsSpec)

/-- ITS FALSE NEIGHBOUR: 'it returns false'. Refute it at one input. -/
def stepSplitsWrong : ChangeSpec := { name := "stepSplits", fn := fun _ => fun
  | [d1, d2, d3] => { results := [.lit (.bool false)], args := [d1, d2, d3] }
  | _ => none }
def StepSplitsWrongFalsely : Prop := stepSplitsRow.holds Tryz.pinned (OpenSpec.ofChange stepSplitsWrong)

/- THE SECOND FORM. 'bulk': how many values and letters a reading holds, each counted each time it is reached (what is shared counts as often as it is met; a slice's spare places count too). A statement '..UptoSaid' is the law's where the arguments, and the package variables that the reading takes, are together of bulk at most 1048576: NARROWER than '..Said'. Prove '..Said' where nothing that the law and all that it calls make is longer than what came in: it says more and counts as full. Else prove '..UptoSaid'. A law counts once. -/
mutual
def uptoBulk {H : Type} : DataW H → Nat
  | .lit (.string bytes) => bytes.length + 1
  | .lit _ => 1
  | .nil => 1
  | .ptr d => uptoBulk d + 1
  | .slice elems spare => uptoBulkAll elems + uptoBulkAll spare + 1
  | .agg parts => uptoBulkAll parts + 1
  | .iface _ d => uptoBulk d + 1
  | .map entries => uptoBulkEntries entries + 1
  | .held _ => 1
def uptoBulkAll {H : Type} : List (DataW H) → Nat
  | [] => 0
  | d :: r => uptoBulk d + uptoBulkAll r
def uptoBulkEntries {H : Type} : List (Lit × DataW H) → Nat
  | [] => 0
  | x :: r => uptoBulkEntry x + uptoBulkEntries r
def uptoBulkEntry {H : Type} : Lit × DataW H → Nat
  | (.string bytes, d) => bytes.length + uptoBulk d + 1
  | (_, d) => uptoBulk d + 1
 end
def uptoSmall : (H : Type) → List (DataW H) → Bool := fun _ ds => decide (uptoBulkAll ds ≤ 1048576)
def OpenSpec.upto (s : _root_.Go.ChangeSpec) : _root_.Go.OpenSpec := { _root_.Go.OpenSpec.ofChange s with cond := some uptoSmall }

/-- 'billiardlaw20.StepModel', WHERE WHAT IT READS IS OF BULK AT MOST 1048576: true; the input reads as it did. -/
def stepModelUptoRow : OpenClaim := { program := "ytaknmlohnifcdaagreatdoor", sum := "a1742eac47c2e89b971bac92fe59cc99bc2b0d1c4f9a151d8efef365e97d5fea", func := "billiard/billiardlaw20.StepModel", spec := "stepModel", inPlace := ["slices.overlaps[uint32]", "math/bits.Add64", "math/bits.Sub64"], unfollowed := true, recurses := true, named := ["billiard/cell.factors", "math/bits.divideError", "math/bits.overflowError"], plainKeys := false, apart := false, laid := [("billiard/cell.factors", laid_billiard_cell_factors)], narrowed := true }
def StepModelUptoSaid : Prop := stepModelUptoRow.holds Tryz.pinned (OpenSpec.upto stepModelSpec)

/-- 'billiardlaw20.StepKeepsShapes', WHERE WHAT IT READS IS OF BULK AT MOST 1048576: true; the input reads as it did. -/
def stepKeepsShapesUptoRow : OpenClaim := { program := "ytaknmlohnifcdaagreatdoor", sum := "a1742eac47c2e89b971bac92fe59cc99bc2b0d1c4f9a151d8efef365e97d5fea", func := "billiard/billiardlaw20.StepKeepsShapes", spec := "stepKeepsShapes", inPlace := ["slices.overlaps[uint32]", "math/bits.Add64", "math/bits.Sub64"], unfollowed := true, recurses := true, named := ["billiard/cell.factors", "math/bits.divideError", "math/bits.overflowError"], plainKeys := false, apart := false, laid := [("billiard/cell.factors", laid_billiard_cell_factors)], narrowed := true }
def StepKeepsShapesUptoSaid : Prop := stepKeepsShapesUptoRow.holds Tryz.pinned (OpenSpec.upto stepKeepsShapesSpec)

/-- 'billiardlaw20.StepMoves', WHERE WHAT IT READS IS OF BULK AT MOST 1048576: true; the input reads as it did. -/
def stepMovesUptoRow : OpenClaim := { program := "ytaknmlohnifcdaagreatdoor", sum := "a1742eac47c2e89b971bac92fe59cc99bc2b0d1c4f9a151d8efef365e97d5fea", func := "billiard/billiardlaw20.StepMoves", spec := "stepMoves", inPlace := ["slices.overlaps[uint32]", "math/bits.Add64", "math/bits.Sub64"], unfollowed := true, recurses := true, named := ["billiard/cell.factors", "math/bits.divideError", "math/bits.overflowError"], plainKeys := false, apart := false, laid := [("billiard/cell.factors", laid_billiard_cell_factors)], narrowed := true }
def StepMovesUptoSaid : Prop := stepMovesUptoRow.holds Tryz.pinned (OpenSpec.upto stepMovesSpec)

/-- 'billiardlaw20.StepLonely', WHERE WHAT IT READS IS OF BULK AT MOST 1048576: true; the input reads as it did. -/
def stepLonelyUptoRow : OpenClaim := { program := "ytaknmlohnifcdaagreatdoor", sum := "a1742eac47c2e89b971bac92fe59cc99bc2b0d1c4f9a151d8efef365e97d5fea", func := "billiard/billiardlaw20.StepLonely", spec := "stepLonely", inPlace := ["slices.overlaps[uint32]", "math/bits.Add64", "math/bits.Sub64"], unfollowed := true, recurses := true, named := ["billiard/cell.factors", "math/bits.divideError", "math/bits.overflowError"], plainKeys := false, apart := false, laid := [("billiard/cell.factors", laid_billiard_cell_factors)], narrowed := true }
def StepLonelyUptoSaid : Prop := stepLonelyUptoRow.holds Tryz.pinned (OpenSpec.upto stepLonelySpec)

/-- 'billiardlaw20.StepSplits', WHERE WHAT IT READS IS OF BULK AT MOST 1048576: true; the input reads as it did. -/
def stepSplitsUptoRow : OpenClaim := { program := "ytaknmlohnifcdaagreatdoor", sum := "a1742eac47c2e89b971bac92fe59cc99bc2b0d1c4f9a151d8efef365e97d5fea", func := "billiard/billiardlaw20.StepSplits", spec := "stepSplits", inPlace := ["slices.overlaps[uint32]", "math/bits.Add64", "math/bits.Sub64"], unfollowed := true, recurses := true, named := ["billiard/cell.factors", "math/bits.divideError", "math/bits.overflowError"], plainKeys := false, apart := false, laid := [("billiard/cell.factors", laid_billiard_cell_factors)], narrowed := true }
def StepSplitsUptoSaid : Prop := stepSplitsUptoRow.holds Tryz.pinned (OpenSpec.upto stepSplitsSpec)

end Rows
end Go.Proofs.YtaknmlohnifcdaaGreatDoor
