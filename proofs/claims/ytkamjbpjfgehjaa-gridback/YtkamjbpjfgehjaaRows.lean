/-
  No cell of these rows narrows 'for every input' (looked for: loops, veiled, ifaces, maps, wideKeys, modest, calm, conditions, laid).
  DERIVED. THE GIVEN ROWS OF THIS SEAT. 16 by the template 'for every input the law returns true; each argument reads behind the call as it read before'; 0 by the template 'total and deterministic' (their statements: YtkamjbpjfgehjaaTotals.lean).
  GIVEN WITH THE SEED: the statements are not yours to turn. If you find one false, say at which input.
  Laid BY PROGRAM, IN A SANDBOX (cutbox-rows.mjs): the forced cells as the released guide's own fill.sh prints them over the translation 42cc041d7d87421b… (all of the seat's roots in one cut). By AI agents, Wed Nov 11 2026. No macro, syntax, notation, axiom, sorry.
-/
import Derived.Test.YtkamjbpjfgehjaaChecked
import GoSem.Claim
import GoSem.ClaimJoined
import GoSem.ClaimMapViews
import Derived.JoinedTies
import Derived.KernelRfl
namespace Go.Proofs.Ytkamjbpjfgehjaa
/- THE CELL 'sum', in the pinned program and in every row, IS THE sha256 OF THE DUMP (.gsa) THAT YtkamjbpjfgehjaaProg.lean LOADS. Nothing in Lean hashes anything: it is a label: what it is worth is what the hold of that sum in a sandbox is worth. -/
noncomputable def Try.pinned : Pinned := { name := "ytkamjbpjfgehjaa", sum := "42cc041d7d87421b41678a21ea7f0124be7c8c490b39a8410b471f360e12fd4a", checked := Try.checked }
namespace Rows
def none {H : Type} : Left H := { results := [], args := [] }

/-- 'skeplaw07.GridMay': WHATEVER THE INPUT: true; the input reads as it did. -/
def gridMaySpec : ChangeSpec := { name := "gridMay", fn := fun _ => fun
  | [d] => { results := [.lit (.bool true)], args := [d] }
  | _ => none }
def gridMayRow : OpenClaim := { program := "ytkamjbpjfgehjaa", sum := "42cc041d7d87421b41678a21ea7f0124be7c8c490b39a8410b471f360e12fd4a", func := "skep/skeplaw07.GridMay", spec := "gridMay", unfollowed := true, recurses := true, apart := false }
def GridMaySaid : Prop := gridMayRow.holds Try.pinned (OpenSpec.ofChange gridMaySpec)

/-- ITS FALSE NEIGHBOUR: 'it returns false'. Refute it at one input. -/
def gridMayWrong : ChangeSpec := { name := "gridMay", fn := fun _ => fun
  | [d] => { results := [.lit (.bool false)], args := [d] }
  | _ => none }
def GridMayWrongFalsely : Prop := gridMayRow.holds Try.pinned (OpenSpec.ofChange gridMayWrong)

/-- 'skeplaw07.GridCells': WHATEVER THE INPUT: true; the input reads as it did. -/
def gridCellsSpec : ChangeSpec := { name := "gridCells", fn := fun _ => fun
  | [d1, d2] => { results := [.lit (.bool true)], args := [d1, d2] }
  | _ => none }
def gridCellsRow : OpenClaim := { program := "ytkamjbpjfgehjaa", sum := "42cc041d7d87421b41678a21ea7f0124be7c8c490b39a8410b471f360e12fd4a", func := "skep/skeplaw07.GridCells", spec := "gridCells", unfollowed := true, recurses := true, apart := false }
def GridCellsSaid : Prop := gridCellsRow.holds Try.pinned (OpenSpec.ofChange gridCellsSpec)

/-- ITS FALSE NEIGHBOUR: 'it returns false'. Refute it at one input. -/
def gridCellsWrong : ChangeSpec := { name := "gridCells", fn := fun _ => fun
  | [d1, d2] => { results := [.lit (.bool false)], args := [d1, d2] }
  | _ => none }
def GridCellsWrongFalsely : Prop := gridCellsRow.holds Try.pinned (OpenSpec.ofChange gridCellsWrong)

/-- 'skeplaw07.GridPoses': WHATEVER THE INPUT: true; the input reads as it did. -/
def gridPosesSpec : ChangeSpec := { name := "gridPoses", fn := fun _ => fun
  | [d1, d2, d3, d4] => { results := [.lit (.bool true)], args := [d1, d2, d3, d4] }
  | _ => none }
def gridPosesRow : OpenClaim := { program := "ytkamjbpjfgehjaa", sum := "42cc041d7d87421b41678a21ea7f0124be7c8c490b39a8410b471f360e12fd4a", func := "skep/skeplaw07.GridPoses", spec := "gridPoses", unfollowed := true, recurses := true, apart := false }
def GridPosesSaid : Prop := gridPosesRow.holds Try.pinned (OpenSpec.ofChange gridPosesSpec)

/-- ITS FALSE NEIGHBOUR: 'it returns false'. Refute it at one input. -/
def gridPosesWrong : ChangeSpec := { name := "gridPoses", fn := fun _ => fun
  | [d1, d2, d3, d4] => { results := [.lit (.bool false)], args := [d1, d2, d3, d4] }
  | _ => none }
def GridPosesWrongFalsely : Prop := gridPosesRow.holds Try.pinned (OpenSpec.ofChange gridPosesWrong)

/-- 'skeplaw07.GridLegal': WHATEVER THE INPUT: true; the input reads as it did. -/
def gridLegalSpec : ChangeSpec := { name := "gridLegal", fn := fun _ => fun
  | [d1, d2] => { results := [.lit (.bool true)], args := [d1, d2] }
  | _ => none }
def gridLegalRow : OpenClaim := { program := "ytkamjbpjfgehjaa", sum := "42cc041d7d87421b41678a21ea7f0124be7c8c490b39a8410b471f360e12fd4a", func := "skep/skeplaw07.GridLegal", spec := "gridLegal", unfollowed := true, recurses := true, apart := false }
def GridLegalSaid : Prop := gridLegalRow.holds Try.pinned (OpenSpec.ofChange gridLegalSpec)

/-- ITS FALSE NEIGHBOUR: 'it returns false'. Refute it at one input. -/
def gridLegalWrong : ChangeSpec := { name := "gridLegal", fn := fun _ => fun
  | [d1, d2] => { results := [.lit (.bool false)], args := [d1, d2] }
  | _ => none }
def GridLegalWrongFalsely : Prop := gridLegalRow.holds Try.pinned (OpenSpec.ofChange gridLegalWrong)

/-- 'skeplaw07.GridMoves': WHATEVER THE INPUT: true; the input reads as it did. -/
def gridMovesSpec : ChangeSpec := { name := "gridMoves", fn := fun _ => fun
  | [d1, d2, d3] => { results := [.lit (.bool true)], args := [d1, d2, d3] }
  | _ => none }
def gridMovesRow : OpenClaim := { program := "ytkamjbpjfgehjaa", sum := "42cc041d7d87421b41678a21ea7f0124be7c8c490b39a8410b471f360e12fd4a", func := "skep/skeplaw07.GridMoves", spec := "gridMoves", unfollowed := true, recurses := true, apart := false }
def GridMovesSaid : Prop := gridMovesRow.holds Try.pinned (OpenSpec.ofChange gridMovesSpec)

/-- ITS FALSE NEIGHBOUR: 'it returns false'. Refute it at one input. -/
def gridMovesWrong : ChangeSpec := { name := "gridMoves", fn := fun _ => fun
  | [d1, d2, d3] => { results := [.lit (.bool false)], args := [d1, d2, d3] }
  | _ => none }
def GridMovesWrongFalsely : Prop := gridMovesRow.holds Try.pinned (OpenSpec.ofChange gridMovesWrong)

/-- 'skeplaw07.GridBack': WHATEVER THE INPUT: true; the input reads as it did. -/
def gridBackSpec : ChangeSpec := { name := "gridBack", fn := fun _ => fun
  | [d1, d2] => { results := [.lit (.bool true)], args := [d1, d2] }
  | _ => none }
def gridBackRow : OpenClaim := { program := "ytkamjbpjfgehjaa", sum := "42cc041d7d87421b41678a21ea7f0124be7c8c490b39a8410b471f360e12fd4a", func := "skep/skeplaw07.GridBack", spec := "gridBack", unfollowed := true, recurses := true, apart := false }
def GridBackSaid : Prop := gridBackRow.holds Try.pinned (OpenSpec.ofChange gridBackSpec)

/-- ITS FALSE NEIGHBOUR: 'it returns false'. Refute it at one input. -/
def gridBackWrong : ChangeSpec := { name := "gridBack", fn := fun _ => fun
  | [d1, d2] => { results := [.lit (.bool false)], args := [d1, d2] }
  | _ => none }
def GridBackWrongFalsely : Prop := gridBackRow.holds Try.pinned (OpenSpec.ofChange gridBackWrong)

/-- 'skeplaw07.GridAll': WHATEVER THE INPUT: true; the input reads as it did. -/
def gridAllSpec : ChangeSpec := { name := "gridAll", fn := fun _ => fun
  | [d1, d2] => { results := [.lit (.bool true)], args := [d1, d2] }
  | _ => none }
def gridAllRow : OpenClaim := { program := "ytkamjbpjfgehjaa", sum := "42cc041d7d87421b41678a21ea7f0124be7c8c490b39a8410b471f360e12fd4a", func := "skep/skeplaw07.GridAll", spec := "gridAll", unfollowed := true, recurses := true, apart := false }
def GridAllSaid : Prop := gridAllRow.holds Try.pinned (OpenSpec.ofChange gridAllSpec)

/-- ITS FALSE NEIGHBOUR: 'it returns false'. Refute it at one input. -/
def gridAllWrong : ChangeSpec := { name := "gridAll", fn := fun _ => fun
  | [d1, d2] => { results := [.lit (.bool false)], args := [d1, d2] }
  | _ => none }
def GridAllWrongFalsely : Prop := gridAllRow.holds Try.pinned (OpenSpec.ofChange gridAllWrong)

/-- 'skeplaw07.GridOwn': WHATEVER THE INPUT: true; the input reads as it did. -/
def gridOwnSpec : ChangeSpec := { name := "gridOwn", fn := fun _ => fun
  | [d1, d2] => { results := [.lit (.bool true)], args := [d1, d2] }
  | _ => none }
def gridOwnRow : OpenClaim := { program := "ytkamjbpjfgehjaa", sum := "42cc041d7d87421b41678a21ea7f0124be7c8c490b39a8410b471f360e12fd4a", func := "skep/skeplaw07.GridOwn", spec := "gridOwn", unfollowed := true, recurses := true, apart := false }
def GridOwnSaid : Prop := gridOwnRow.holds Try.pinned (OpenSpec.ofChange gridOwnSpec)

/-- ITS FALSE NEIGHBOUR: 'it returns false'. Refute it at one input. -/
def gridOwnWrong : ChangeSpec := { name := "gridOwn", fn := fun _ => fun
  | [d1, d2] => { results := [.lit (.bool false)], args := [d1, d2] }
  | _ => none }
def GridOwnWrongFalsely : Prop := gridOwnRow.holds Try.pinned (OpenSpec.ofChange gridOwnWrong)

/-- 'skeplaw07.GridSteps': WHATEVER THE INPUT: true; the input reads as it did. -/
def gridStepsSpec : ChangeSpec := { name := "gridSteps", fn := fun _ => fun
  | [d1, d2, d3, d4] => { results := [.lit (.bool true)], args := [d1, d2, d3, d4] }
  | _ => none }
def gridStepsRow : OpenClaim := { program := "ytkamjbpjfgehjaa", sum := "42cc041d7d87421b41678a21ea7f0124be7c8c490b39a8410b471f360e12fd4a", func := "skep/skeplaw07.GridSteps", spec := "gridSteps", unfollowed := true, recurses := true, apart := false }
def GridStepsSaid : Prop := gridStepsRow.holds Try.pinned (OpenSpec.ofChange gridStepsSpec)

/-- ITS FALSE NEIGHBOUR: 'it returns false'. Refute it at one input. -/
def gridStepsWrong : ChangeSpec := { name := "gridSteps", fn := fun _ => fun
  | [d1, d2, d3, d4] => { results := [.lit (.bool false)], args := [d1, d2, d3, d4] }
  | _ => none }
def GridStepsWrongFalsely : Prop := gridStepsRow.holds Try.pinned (OpenSpec.ofChange gridStepsWrong)

/-- 'skeplaw08.StacksPlays': WHATEVER THE INPUT: true; the input reads as it did. -/
def stacksPlaysSpec : ChangeSpec := { name := "stacksPlays", fn := fun _ => fun
  | [d1, d2] => { results := [.lit (.bool true)], args := [d1, d2] }
  | _ => none }
def stacksPlaysRow : OpenClaim := { program := "ytkamjbpjfgehjaa", sum := "42cc041d7d87421b41678a21ea7f0124be7c8c490b39a8410b471f360e12fd4a", func := "skep/skeplaw08.StacksPlays", spec := "stacksPlays", unfollowed := true, recurses := true, apart := false }
def StacksPlaysSaid : Prop := stacksPlaysRow.holds Try.pinned (OpenSpec.ofChange stacksPlaysSpec)

/-- ITS FALSE NEIGHBOUR: 'it returns false'. Refute it at one input. -/
def stacksPlaysWrong : ChangeSpec := { name := "stacksPlays", fn := fun _ => fun
  | [d1, d2] => { results := [.lit (.bool false)], args := [d1, d2] }
  | _ => none }
def StacksPlaysWrongFalsely : Prop := stacksPlaysRow.holds Try.pinned (OpenSpec.ofChange stacksPlaysWrong)

/-- 'skeplaw08.StacksFinds': WHATEVER THE INPUT: true; the input reads as it did. -/
def stacksFindsSpec : ChangeSpec := { name := "stacksFinds", fn := fun _ => fun
  | [d1, d2, d3] => { results := [.lit (.bool true)], args := [d1, d2, d3] }
  | _ => none }
def stacksFindsRow : OpenClaim := { program := "ytkamjbpjfgehjaa", sum := "42cc041d7d87421b41678a21ea7f0124be7c8c490b39a8410b471f360e12fd4a", func := "skep/skeplaw08.StacksFinds", spec := "stacksFinds", recurses := true, apart := false }
def StacksFindsSaid : Prop := stacksFindsRow.holds Try.pinned (OpenSpec.ofChange stacksFindsSpec)

/-- ITS FALSE NEIGHBOUR: 'it returns false'. Refute it at one input. -/
def stacksFindsWrong : ChangeSpec := { name := "stacksFinds", fn := fun _ => fun
  | [d1, d2, d3] => { results := [.lit (.bool false)], args := [d1, d2, d3] }
  | _ => none }
def StacksFindsWrongFalsely : Prop := stacksFindsRow.holds Try.pinned (OpenSpec.ofChange stacksFindsWrong)

/-- 'skeplaw08.StacksKept': WHATEVER THE INPUT: true; the input reads as it did. -/
def stacksKeptSpec : ChangeSpec := { name := "stacksKept", fn := fun _ => fun
  | [d1, d2] => { results := [.lit (.bool true)], args := [d1, d2] }
  | _ => none }
def stacksKeptRow : OpenClaim := { program := "ytkamjbpjfgehjaa", sum := "42cc041d7d87421b41678a21ea7f0124be7c8c490b39a8410b471f360e12fd4a", func := "skep/skeplaw08.StacksKept", spec := "stacksKept", recurses := true, apart := false }
def StacksKeptSaid : Prop := stacksKeptRow.holds Try.pinned (OpenSpec.ofChange stacksKeptSpec)

/-- ITS FALSE NEIGHBOUR: 'it returns false'. Refute it at one input. -/
def stacksKeptWrong : ChangeSpec := { name := "stacksKept", fn := fun _ => fun
  | [d1, d2] => { results := [.lit (.bool false)], args := [d1, d2] }
  | _ => none }
def StacksKeptWrongFalsely : Prop := stacksKeptRow.holds Try.pinned (OpenSpec.ofChange stacksKeptWrong)

/-- 'skeplaw08.StacksBack': WHATEVER THE INPUT: true; the input reads as it did. -/
def stacksBackSpec : ChangeSpec := { name := "stacksBack", fn := fun _ => fun
  | [d1, d2, d3, d4] => { results := [.lit (.bool true)], args := [d1, d2, d3, d4] }
  | _ => none }
def stacksBackRow : OpenClaim := { program := "ytkamjbpjfgehjaa", sum := "42cc041d7d87421b41678a21ea7f0124be7c8c490b39a8410b471f360e12fd4a", func := "skep/skeplaw08.StacksBack", spec := "stacksBack", unfollowed := true, recurses := true, apart := false }
def StacksBackSaid : Prop := stacksBackRow.holds Try.pinned (OpenSpec.ofChange stacksBackSpec)

/-- ITS FALSE NEIGHBOUR: 'it returns false'. Refute it at one input. -/
def stacksBackWrong : ChangeSpec := { name := "stacksBack", fn := fun _ => fun
  | [d1, d2, d3, d4] => { results := [.lit (.bool false)], args := [d1, d2, d3, d4] }
  | _ => none }
def StacksBackWrongFalsely : Prop := stacksBackRow.holds Try.pinned (OpenSpec.ofChange stacksBackWrong)

/-- 'skeplaw08.StacksFull': WHATEVER THE INPUT: true; the input reads as it did. -/
def stacksFullSpec : ChangeSpec := { name := "stacksFull", fn := fun _ => fun
  | [d1, d2] => { results := [.lit (.bool true)], args := [d1, d2] }
  | _ => none }
def stacksFullRow : OpenClaim := { program := "ytkamjbpjfgehjaa", sum := "42cc041d7d87421b41678a21ea7f0124be7c8c490b39a8410b471f360e12fd4a", func := "skep/skeplaw08.StacksFull", spec := "stacksFull", unfollowed := true, recurses := true, apart := false }
def StacksFullSaid : Prop := stacksFullRow.holds Try.pinned (OpenSpec.ofChange stacksFullSpec)

/-- ITS FALSE NEIGHBOUR: 'it returns false'. Refute it at one input. -/
def stacksFullWrong : ChangeSpec := { name := "stacksFull", fn := fun _ => fun
  | [d1, d2] => { results := [.lit (.bool false)], args := [d1, d2] }
  | _ => none }
def StacksFullWrongFalsely : Prop := stacksFullRow.holds Try.pinned (OpenSpec.ofChange stacksFullWrong)

/-- 'skeplaw08.StacksOwn': WHATEVER THE INPUT: true; the input reads as it did. -/
def stacksOwnSpec : ChangeSpec := { name := "stacksOwn", fn := fun _ => fun
  | [d1, d2] => { results := [.lit (.bool true)], args := [d1, d2] }
  | _ => none }
def stacksOwnRow : OpenClaim := { program := "ytkamjbpjfgehjaa", sum := "42cc041d7d87421b41678a21ea7f0124be7c8c490b39a8410b471f360e12fd4a", func := "skep/skeplaw08.StacksOwn", spec := "stacksOwn", unfollowed := true, recurses := true, apart := false }
def StacksOwnSaid : Prop := stacksOwnRow.holds Try.pinned (OpenSpec.ofChange stacksOwnSpec)

/-- ITS FALSE NEIGHBOUR: 'it returns false'. Refute it at one input. -/
def stacksOwnWrong : ChangeSpec := { name := "stacksOwn", fn := fun _ => fun
  | [d1, d2] => { results := [.lit (.bool false)], args := [d1, d2] }
  | _ => none }
def StacksOwnWrongFalsely : Prop := stacksOwnRow.holds Try.pinned (OpenSpec.ofChange stacksOwnWrong)

/-- 'skeplaw08.StacksTurned': WHATEVER THE INPUT: true; the input reads as it did. -/
def stacksTurnedSpec : ChangeSpec := { name := "stacksTurned", fn := fun _ => fun
  | [d1, d2, d3] => { results := [.lit (.bool true)], args := [d1, d2, d3] }
  | _ => none }
def stacksTurnedRow : OpenClaim := { program := "ytkamjbpjfgehjaa", sum := "42cc041d7d87421b41678a21ea7f0124be7c8c490b39a8410b471f360e12fd4a", func := "skep/skeplaw08.StacksTurned", spec := "stacksTurned", recurses := true, apart := false }
def StacksTurnedSaid : Prop := stacksTurnedRow.holds Try.pinned (OpenSpec.ofChange stacksTurnedSpec)

/-- ITS FALSE NEIGHBOUR: 'it returns false'. Refute it at one input. -/
def stacksTurnedWrong : ChangeSpec := { name := "stacksTurned", fn := fun _ => fun
  | [d1, d2, d3] => { results := [.lit (.bool false)], args := [d1, d2, d3] }
  | _ => none }
def StacksTurnedWrongFalsely : Prop := stacksTurnedRow.holds Try.pinned (OpenSpec.ofChange stacksTurnedWrong)

/- THE SECOND FORM. 'bulk': how many values and letters a reading holds, each counted each time it is reached (what is shared counts as often as it is met; a slice's spare places count too). A statement '..UptoSaid' is the law's where the arguments, and the package variables that the reading takes, are together of bulk at most 1048576: NARROWER than '..Said'. Prove '..Said' where nothing that the law and all that it calls make is longer than what came in: it says more and counts as full. Else prove '..UptoSaid'. A law counts once. -/
mutual
def uptoBulk {H : Type} : DataW H → Nat
  | .lit (.string bytes) => bytes.length + 1
  | .lit _ => 1
  | .nil => 1
  | .ptr d => uptoBulk d + 1
  | .slice elems spare => uptoBulkAll elems + uptoBulkAll spare + 1
  | .agg parts => uptoBulkAll parts + 1
  | .iface _ d => uptoBulk d + 1
  | .map entries => uptoBulkEntries entries + 1
  | .held _ => 1
def uptoBulkAll {H : Type} : List (DataW H) → Nat
  | [] => 0
  | d :: r => uptoBulk d + uptoBulkAll r
def uptoBulkEntries {H : Type} : List (Lit × DataW H) → Nat
  | [] => 0
  | x :: r => uptoBulkEntry x + uptoBulkEntries r
def uptoBulkEntry {H : Type} : Lit × DataW H → Nat
  | (.string bytes, d) => bytes.length + uptoBulk d + 1
  | (_, d) => uptoBulk d + 1
 end
def uptoSmall : (H : Type) → List (DataW H) → Bool := fun _ ds => decide (uptoBulkAll ds ≤ 1048576)
def OpenSpec.upto (s : _root_.Go.ChangeSpec) : _root_.Go.OpenSpec := { _root_.Go.OpenSpec.ofChange s with cond := some uptoSmall }

/-- 'skeplaw07.GridMay', WHERE WHAT IT READS IS OF BULK AT MOST 1048576: true; the input reads as it did. -/
def gridMayUptoRow : OpenClaim := { program := "ytkamjbpjfgehjaa", sum := "42cc041d7d87421b41678a21ea7f0124be7c8c490b39a8410b471f360e12fd4a", func := "skep/skeplaw07.GridMay", spec := "gridMay", unfollowed := true, recurses := true, apart := false, narrowed := true }
def GridMayUptoSaid : Prop := gridMayUptoRow.holds Try.pinned (OpenSpec.upto gridMaySpec)

/-- 'skeplaw07.GridCells', WHERE WHAT IT READS IS OF BULK AT MOST 1048576: true; the input reads as it did. -/
def gridCellsUptoRow : OpenClaim := { program := "ytkamjbpjfgehjaa", sum := "42cc041d7d87421b41678a21ea7f0124be7c8c490b39a8410b471f360e12fd4a", func := "skep/skeplaw07.GridCells", spec := "gridCells", unfollowed := true, recurses := true, apart := false, narrowed := true }
def GridCellsUptoSaid : Prop := gridCellsUptoRow.holds Try.pinned (OpenSpec.upto gridCellsSpec)

/-- 'skeplaw07.GridPoses', WHERE WHAT IT READS IS OF BULK AT MOST 1048576: true; the input reads as it did. -/
def gridPosesUptoRow : OpenClaim := { program := "ytkamjbpjfgehjaa", sum := "42cc041d7d87421b41678a21ea7f0124be7c8c490b39a8410b471f360e12fd4a", func := "skep/skeplaw07.GridPoses", spec := "gridPoses", unfollowed := true, recurses := true, apart := false, narrowed := true }
def GridPosesUptoSaid : Prop := gridPosesUptoRow.holds Try.pinned (OpenSpec.upto gridPosesSpec)

/-- 'skeplaw07.GridLegal', WHERE WHAT IT READS IS OF BULK AT MOST 1048576: true; the input reads as it did. -/
def gridLegalUptoRow : OpenClaim := { program := "ytkamjbpjfgehjaa", sum := "42cc041d7d87421b41678a21ea7f0124be7c8c490b39a8410b471f360e12fd4a", func := "skep/skeplaw07.GridLegal", spec := "gridLegal", unfollowed := true, recurses := true, apart := false, narrowed := true }
def GridLegalUptoSaid : Prop := gridLegalUptoRow.holds Try.pinned (OpenSpec.upto gridLegalSpec)

/-- 'skeplaw07.GridMoves', WHERE WHAT IT READS IS OF BULK AT MOST 1048576: true; the input reads as it did. -/
def gridMovesUptoRow : OpenClaim := { program := "ytkamjbpjfgehjaa", sum := "42cc041d7d87421b41678a21ea7f0124be7c8c490b39a8410b471f360e12fd4a", func := "skep/skeplaw07.GridMoves", spec := "gridMoves", unfollowed := true, recurses := true, apart := false, narrowed := true }
def GridMovesUptoSaid : Prop := gridMovesUptoRow.holds Try.pinned (OpenSpec.upto gridMovesSpec)

/-- 'skeplaw07.GridBack', WHERE WHAT IT READS IS OF BULK AT MOST 1048576: true; the input reads as it did. -/
def gridBackUptoRow : OpenClaim := { program := "ytkamjbpjfgehjaa", sum := "42cc041d7d87421b41678a21ea7f0124be7c8c490b39a8410b471f360e12fd4a", func := "skep/skeplaw07.GridBack", spec := "gridBack", unfollowed := true, recurses := true, apart := false, narrowed := true }
def GridBackUptoSaid : Prop := gridBackUptoRow.holds Try.pinned (OpenSpec.upto gridBackSpec)

/-- 'skeplaw07.GridAll', WHERE WHAT IT READS IS OF BULK AT MOST 1048576: true; the input reads as it did. -/
def gridAllUptoRow : OpenClaim := { program := "ytkamjbpjfgehjaa", sum := "42cc041d7d87421b41678a21ea7f0124be7c8c490b39a8410b471f360e12fd4a", func := "skep/skeplaw07.GridAll", spec := "gridAll", unfollowed := true, recurses := true, apart := false, narrowed := true }
def GridAllUptoSaid : Prop := gridAllUptoRow.holds Try.pinned (OpenSpec.upto gridAllSpec)

/-- 'skeplaw07.GridOwn', WHERE WHAT IT READS IS OF BULK AT MOST 1048576: true; the input reads as it did. -/
def gridOwnUptoRow : OpenClaim := { program := "ytkamjbpjfgehjaa", sum := "42cc041d7d87421b41678a21ea7f0124be7c8c490b39a8410b471f360e12fd4a", func := "skep/skeplaw07.GridOwn", spec := "gridOwn", unfollowed := true, recurses := true, apart := false, narrowed := true }
def GridOwnUptoSaid : Prop := gridOwnUptoRow.holds Try.pinned (OpenSpec.upto gridOwnSpec)

/-- 'skeplaw07.GridSteps', WHERE WHAT IT READS IS OF BULK AT MOST 1048576: true; the input reads as it did. -/
def gridStepsUptoRow : OpenClaim := { program := "ytkamjbpjfgehjaa", sum := "42cc041d7d87421b41678a21ea7f0124be7c8c490b39a8410b471f360e12fd4a", func := "skep/skeplaw07.GridSteps", spec := "gridSteps", unfollowed := true, recurses := true, apart := false, narrowed := true }
def GridStepsUptoSaid : Prop := gridStepsUptoRow.holds Try.pinned (OpenSpec.upto gridStepsSpec)

/-- 'skeplaw08.StacksPlays', WHERE WHAT IT READS IS OF BULK AT MOST 1048576: true; the input reads as it did. -/
def stacksPlaysUptoRow : OpenClaim := { program := "ytkamjbpjfgehjaa", sum := "42cc041d7d87421b41678a21ea7f0124be7c8c490b39a8410b471f360e12fd4a", func := "skep/skeplaw08.StacksPlays", spec := "stacksPlays", unfollowed := true, recurses := true, apart := false, narrowed := true }
def StacksPlaysUptoSaid : Prop := stacksPlaysUptoRow.holds Try.pinned (OpenSpec.upto stacksPlaysSpec)

/-- 'skeplaw08.StacksFinds', WHERE WHAT IT READS IS OF BULK AT MOST 1048576: true; the input reads as it did. -/
def stacksFindsUptoRow : OpenClaim := { program := "ytkamjbpjfgehjaa", sum := "42cc041d7d87421b41678a21ea7f0124be7c8c490b39a8410b471f360e12fd4a", func := "skep/skeplaw08.StacksFinds", spec := "stacksFinds", recurses := true, apart := false, narrowed := true }
def StacksFindsUptoSaid : Prop := stacksFindsUptoRow.holds Try.pinned (OpenSpec.upto stacksFindsSpec)

/-- 'skeplaw08.StacksKept', WHERE WHAT IT READS IS OF BULK AT MOST 1048576: true; the input reads as it did. -/
def stacksKeptUptoRow : OpenClaim := { program := "ytkamjbpjfgehjaa", sum := "42cc041d7d87421b41678a21ea7f0124be7c8c490b39a8410b471f360e12fd4a", func := "skep/skeplaw08.StacksKept", spec := "stacksKept", recurses := true, apart := false, narrowed := true }
def StacksKeptUptoSaid : Prop := stacksKeptUptoRow.holds Try.pinned (OpenSpec.upto stacksKeptSpec)

/-- 'skeplaw08.StacksBack', WHERE WHAT IT READS IS OF BULK AT MOST 1048576: true; the input reads as it did. -/
def stacksBackUptoRow : OpenClaim := { program := "ytkamjbpjfgehjaa", sum := "42cc041d7d87421b41678a21ea7f0124be7c8c490b39a8410b471f360e12fd4a", func := "skep/skeplaw08.StacksBack", spec := "stacksBack", unfollowed := true, recurses := true, apart := false, narrowed := true }
def StacksBackUptoSaid : Prop := stacksBackUptoRow.holds Try.pinned (OpenSpec.upto stacksBackSpec)

/-- 'skeplaw08.StacksFull', WHERE WHAT IT READS IS OF BULK AT MOST 1048576: true; the input reads as it did. -/
def stacksFullUptoRow : OpenClaim := { program := "ytkamjbpjfgehjaa", sum := "42cc041d7d87421b41678a21ea7f0124be7c8c490b39a8410b471f360e12fd4a", func := "skep/skeplaw08.StacksFull", spec := "stacksFull", unfollowed := true, recurses := true, apart := false, narrowed := true }
def StacksFullUptoSaid : Prop := stacksFullUptoRow.holds Try.pinned (OpenSpec.upto stacksFullSpec)

/-- 'skeplaw08.StacksOwn', WHERE WHAT IT READS IS OF BULK AT MOST 1048576: true; the input reads as it did. -/
def stacksOwnUptoRow : OpenClaim := { program := "ytkamjbpjfgehjaa", sum := "42cc041d7d87421b41678a21ea7f0124be7c8c490b39a8410b471f360e12fd4a", func := "skep/skeplaw08.StacksOwn", spec := "stacksOwn", unfollowed := true, recurses := true, apart := false, narrowed := true }
def StacksOwnUptoSaid : Prop := stacksOwnUptoRow.holds Try.pinned (OpenSpec.upto stacksOwnSpec)

/-- 'skeplaw08.StacksTurned', WHERE WHAT IT READS IS OF BULK AT MOST 1048576: true; the input reads as it did. -/
def stacksTurnedUptoRow : OpenClaim := { program := "ytkamjbpjfgehjaa", sum := "42cc041d7d87421b41678a21ea7f0124be7c8c490b39a8410b471f360e12fd4a", func := "skep/skeplaw08.StacksTurned", spec := "stacksTurned", recurses := true, apart := false, narrowed := true }
def StacksTurnedUptoSaid : Prop := stacksTurnedUptoRow.holds Try.pinned (OpenSpec.upto stacksTurnedSpec)

end Rows
end Go.Proofs.Ytkamjbpjfgehjaa
