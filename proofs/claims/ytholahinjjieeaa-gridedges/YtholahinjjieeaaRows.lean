/-
  No cell of these rows narrows 'for every input' (looked for: loops, veiled, ifaces, maps, wideKeys, modest, calm, conditions, laid).
  DERIVED. THE GIVEN ROWS OF THIS SEAT. 6 by the template 'for every input the law returns true; each argument reads behind the call as it read before'; 0 by the template 'total and deterministic' (their statements: YtholahinjjieeaaTotals.lean).
  GIVEN WITH THE SEED: the statements are not yours to turn. If you find one false, say at which input.
  Laid BY PROGRAM, IN A SANDBOX (cutbox-rows.mjs): the forced cells as the released guide's own fill.sh prints them over the translation ed8589996ede3fec… (all of the seat's roots in one cut). By AI agents, Wed Nov 11 2026. No macro, syntax, notation, axiom, sorry.
-/
import Derived.Test.YtholahinjjieeaaChecked
import GoSem.Claim
import GoSem.ClaimJoined
import GoSem.ClaimMapViews
import Derived.JoinedTies
import Derived.KernelRfl
namespace Go.Proofs.Ytholahinjjieeaa
/- THE CELL 'sum', in the pinned program and in every row, IS THE sha256 OF THE DUMP (.gsa) THAT YtholahinjjieeaaProg.lean LOADS. Nothing in Lean hashes anything: it is a label: what it is worth is what the hold of that sum in a sandbox is worth. -/
noncomputable def Try.pinned : Pinned := { name := "ytholahinjjieeaa", sum := "ed8589996ede3fec359d163df5f424f8fac5a3b705c8759e9b21b8920f1ee1f7", checked := Try.checked }
namespace Rows
def none {H : Type} : Left H := { results := [], args := [] }

/-- 'skeplaw07.GridMay': WHATEVER THE INPUT: true; the input reads as it did. -/
def gridMaySpec : ChangeSpec := { name := "gridMay", fn := fun _ => fun
  | [d] => { results := [.lit (.bool true)], args := [d] }
  | _ => none }
def gridMayRow : OpenClaim := { program := "ytholahinjjieeaa", sum := "ed8589996ede3fec359d163df5f424f8fac5a3b705c8759e9b21b8920f1ee1f7", func := "skep/skeplaw07.GridMay", spec := "gridMay", unfollowed := true, recurses := true, apart := false }
def GridMaySaid : Prop := gridMayRow.holds Try.pinned (OpenSpec.ofChange gridMaySpec)

/-- ITS FALSE NEIGHBOUR: 'it returns false'. Refute it at one input. -/
def gridMayWrong : ChangeSpec := { name := "gridMay", fn := fun _ => fun
  | [d] => { results := [.lit (.bool false)], args := [d] }
  | _ => none }
def GridMayWrongFalsely : Prop := gridMayRow.holds Try.pinned (OpenSpec.ofChange gridMayWrong)

/-- 'skeplaw07.GridEdges': WHATEVER THE INPUT: true; the input reads as it did. -/
def gridEdgesSpec : ChangeSpec := { name := "gridEdges", fn := fun _ => fun
  | [d1, d2, d3] => { results := [.lit (.bool true)], args := [d1, d2, d3] }
  | _ => none }
def gridEdgesRow : OpenClaim := { program := "ytholahinjjieeaa", sum := "ed8589996ede3fec359d163df5f424f8fac5a3b705c8759e9b21b8920f1ee1f7", func := "skep/skeplaw07.GridEdges", spec := "gridEdges", unfollowed := true, recurses := true, apart := false }
def GridEdgesSaid : Prop := gridEdgesRow.holds Try.pinned (OpenSpec.ofChange gridEdgesSpec)

/-- ITS FALSE NEIGHBOUR: 'it returns false'. Refute it at one input. -/
def gridEdgesWrong : ChangeSpec := { name := "gridEdges", fn := fun _ => fun
  | [d1, d2, d3] => { results := [.lit (.bool false)], args := [d1, d2, d3] }
  | _ => none }
def GridEdgesWrongFalsely : Prop := gridEdgesRow.holds Try.pinned (OpenSpec.ofChange gridEdgesWrong)

/-- 'skeplaw07.GridCells': WHATEVER THE INPUT: true; the input reads as it did. -/
def gridCellsSpec : ChangeSpec := { name := "gridCells", fn := fun _ => fun
  | [d1, d2] => { results := [.lit (.bool true)], args := [d1, d2] }
  | _ => none }
def gridCellsRow : OpenClaim := { program := "ytholahinjjieeaa", sum := "ed8589996ede3fec359d163df5f424f8fac5a3b705c8759e9b21b8920f1ee1f7", func := "skep/skeplaw07.GridCells", spec := "gridCells", unfollowed := true, recurses := true, apart := false }
def GridCellsSaid : Prop := gridCellsRow.holds Try.pinned (OpenSpec.ofChange gridCellsSpec)

/-- ITS FALSE NEIGHBOUR: 'it returns false'. Refute it at one input. -/
def gridCellsWrong : ChangeSpec := { name := "gridCells", fn := fun _ => fun
  | [d1, d2] => { results := [.lit (.bool false)], args := [d1, d2] }
  | _ => none }
def GridCellsWrongFalsely : Prop := gridCellsRow.holds Try.pinned (OpenSpec.ofChange gridCellsWrong)

/-- 'skeplaw07.GridPoses': WHATEVER THE INPUT: true; the input reads as it did. -/
def gridPosesSpec : ChangeSpec := { name := "gridPoses", fn := fun _ => fun
  | [d1, d2, d3, d4] => { results := [.lit (.bool true)], args := [d1, d2, d3, d4] }
  | _ => none }
def gridPosesRow : OpenClaim := { program := "ytholahinjjieeaa", sum := "ed8589996ede3fec359d163df5f424f8fac5a3b705c8759e9b21b8920f1ee1f7", func := "skep/skeplaw07.GridPoses", spec := "gridPoses", unfollowed := true, recurses := true, apart := false }
def GridPosesSaid : Prop := gridPosesRow.holds Try.pinned (OpenSpec.ofChange gridPosesSpec)

/-- ITS FALSE NEIGHBOUR: 'it returns false'. Refute it at one input. -/
def gridPosesWrong : ChangeSpec := { name := "gridPoses", fn := fun _ => fun
  | [d1, d2, d3, d4] => { results := [.lit (.bool false)], args := [d1, d2, d3, d4] }
  | _ => none }
def GridPosesWrongFalsely : Prop := gridPosesRow.holds Try.pinned (OpenSpec.ofChange gridPosesWrong)

/-- 'skeplaw07.GridLegal': WHATEVER THE INPUT: true; the input reads as it did. -/
def gridLegalSpec : ChangeSpec := { name := "gridLegal", fn := fun _ => fun
  | [d1, d2] => { results := [.lit (.bool true)], args := [d1, d2] }
  | _ => none }
def gridLegalRow : OpenClaim := { program := "ytholahinjjieeaa", sum := "ed8589996ede3fec359d163df5f424f8fac5a3b705c8759e9b21b8920f1ee1f7", func := "skep/skeplaw07.GridLegal", spec := "gridLegal", unfollowed := true, recurses := true, apart := false }
def GridLegalSaid : Prop := gridLegalRow.holds Try.pinned (OpenSpec.ofChange gridLegalSpec)

/-- ITS FALSE NEIGHBOUR: 'it returns false'. Refute it at one input. -/
def gridLegalWrong : ChangeSpec := { name := "gridLegal", fn := fun _ => fun
  | [d1, d2] => { results := [.lit (.bool false)], args := [d1, d2] }
  | _ => none }
def GridLegalWrongFalsely : Prop := gridLegalRow.holds Try.pinned (OpenSpec.ofChange gridLegalWrong)

/-- 'skeplaw07.GridMoves': WHATEVER THE INPUT: true; the input reads as it did. -/
def gridMovesSpec : ChangeSpec := { name := "gridMoves", fn := fun _ => fun
  | [d1, d2, d3] => { results := [.lit (.bool true)], args := [d1, d2, d3] }
  | _ => none }
def gridMovesRow : OpenClaim := { program := "ytholahinjjieeaa", sum := "ed8589996ede3fec359d163df5f424f8fac5a3b705c8759e9b21b8920f1ee1f7", func := "skep/skeplaw07.GridMoves", spec := "gridMoves", unfollowed := true, recurses := true, apart := false }
def GridMovesSaid : Prop := gridMovesRow.holds Try.pinned (OpenSpec.ofChange gridMovesSpec)

/-- ITS FALSE NEIGHBOUR: 'it returns false'. Refute it at one input. -/
def gridMovesWrong : ChangeSpec := { name := "gridMoves", fn := fun _ => fun
  | [d1, d2, d3] => { results := [.lit (.bool false)], args := [d1, d2, d3] }
  | _ => none }
def GridMovesWrongFalsely : Prop := gridMovesRow.holds Try.pinned (OpenSpec.ofChange gridMovesWrong)

/- THE SECOND FORM. 'bulk': how many values and letters a reading holds, each counted each time it is reached (what is shared counts as often as it is met; a slice's spare places count too). A statement '..UptoSaid' is the law's where the arguments, and the package variables that the reading takes, are together of bulk at most 1048576: NARROWER than '..Said'. Prove '..Said' where nothing that the law and all that it calls make is longer than what came in: it says more and counts as full. Else prove '..UptoSaid'. A law counts once. -/
mutual
def uptoBulk {H : Type} : DataW H → Nat
  | .lit (.string bytes) => bytes.length + 1
  | .lit _ => 1
  | .nil => 1
  | .ptr d => uptoBulk d + 1
  | .slice elems spare => uptoBulkAll elems + uptoBulkAll spare + 1
  | .agg parts => uptoBulkAll parts + 1
  | .iface _ d => uptoBulk d + 1
  | .map entries => uptoBulkEntries entries + 1
  | .held _ => 1
def uptoBulkAll {H : Type} : List (DataW H) → Nat
  | [] => 0
  | d :: r => uptoBulk d + uptoBulkAll r
def uptoBulkEntries {H : Type} : List (Lit × DataW H) → Nat
  | [] => 0
  | x :: r => uptoBulkEntry x + uptoBulkEntries r
def uptoBulkEntry {H : Type} : Lit × DataW H → Nat
  | (.string bytes, d) => bytes.length + uptoBulk d + 1
  | (_, d) => uptoBulk d + 1
 end
def uptoSmall : (H : Type) → List (DataW H) → Bool := fun _ ds => decide (uptoBulkAll ds ≤ 1048576)
def OpenSpec.upto (s : _root_.Go.ChangeSpec) : _root_.Go.OpenSpec := { _root_.Go.OpenSpec.ofChange s with cond := some uptoSmall }

/-- 'skeplaw07.GridMay', WHERE WHAT IT READS IS OF BULK AT MOST 1048576: true; the input reads as it did. -/
def gridMayUptoRow : OpenClaim := { program := "ytholahinjjieeaa", sum := "ed8589996ede3fec359d163df5f424f8fac5a3b705c8759e9b21b8920f1ee1f7", func := "skep/skeplaw07.GridMay", spec := "gridMay", unfollowed := true, recurses := true, apart := false, narrowed := true }
def GridMayUptoSaid : Prop := gridMayUptoRow.holds Try.pinned (OpenSpec.upto gridMaySpec)

/-- 'skeplaw07.GridEdges', WHERE WHAT IT READS IS OF BULK AT MOST 1048576: true; the input reads as it did. -/
def gridEdgesUptoRow : OpenClaim := { program := "ytholahinjjieeaa", sum := "ed8589996ede3fec359d163df5f424f8fac5a3b705c8759e9b21b8920f1ee1f7", func := "skep/skeplaw07.GridEdges", spec := "gridEdges", unfollowed := true, recurses := true, apart := false, narrowed := true }
def GridEdgesUptoSaid : Prop := gridEdgesUptoRow.holds Try.pinned (OpenSpec.upto gridEdgesSpec)

/-- 'skeplaw07.GridCells', WHERE WHAT IT READS IS OF BULK AT MOST 1048576: true; the input reads as it did. -/
def gridCellsUptoRow : OpenClaim := { program := "ytholahinjjieeaa", sum := "ed8589996ede3fec359d163df5f424f8fac5a3b705c8759e9b21b8920f1ee1f7", func := "skep/skeplaw07.GridCells", spec := "gridCells", unfollowed := true, recurses := true, apart := false, narrowed := true }
def GridCellsUptoSaid : Prop := gridCellsUptoRow.holds Try.pinned (OpenSpec.upto gridCellsSpec)

/-- 'skeplaw07.GridPoses', WHERE WHAT IT READS IS OF BULK AT MOST 1048576: true; the input reads as it did. -/
def gridPosesUptoRow : OpenClaim := { program := "ytholahinjjieeaa", sum := "ed8589996ede3fec359d163df5f424f8fac5a3b705c8759e9b21b8920f1ee1f7", func := "skep/skeplaw07.GridPoses", spec := "gridPoses", unfollowed := true, recurses := true, apart := false, narrowed := true }
def GridPosesUptoSaid : Prop := gridPosesUptoRow.holds Try.pinned (OpenSpec.upto gridPosesSpec)

/-- 'skeplaw07.GridLegal', WHERE WHAT IT READS IS OF BULK AT MOST 1048576: true; the input reads as it did. -/
def gridLegalUptoRow : OpenClaim := { program := "ytholahinjjieeaa", sum := "ed8589996ede3fec359d163df5f424f8fac5a3b705c8759e9b21b8920f1ee1f7", func := "skep/skeplaw07.GridLegal", spec := "gridLegal", unfollowed := true, recurses := true, apart := false, narrowed := true }
def GridLegalUptoSaid : Prop := gridLegalUptoRow.holds Try.pinned (OpenSpec.upto gridLegalSpec)

/-- 'skeplaw07.GridMoves', WHERE WHAT IT READS IS OF BULK AT MOST 1048576: true; the input reads as it did. -/
def gridMovesUptoRow : OpenClaim := { program := "ytholahinjjieeaa", sum := "ed8589996ede3fec359d163df5f424f8fac5a3b705c8759e9b21b8920f1ee1f7", func := "skep/skeplaw07.GridMoves", spec := "gridMoves", unfollowed := true, recurses := true, apart := false, narrowed := true }
def GridMovesUptoSaid : Prop := gridMovesUptoRow.holds Try.pinned (OpenSpec.upto gridMovesSpec)

end Rows
end Go.Proofs.Ytholahinjjieeaa
