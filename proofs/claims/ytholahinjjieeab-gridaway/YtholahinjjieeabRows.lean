/-
  No cell of these rows narrows 'for every input' (looked for: loops, veiled, ifaces, maps, wideKeys, modest, calm, conditions, laid).
  DERIVED. THE GIVEN ROWS OF THIS SEAT. 5 by the template 'for every input the law returns true; each argument reads behind the call as it read before'; 0 by the template 'total and deterministic' (their statements: YtholahinjjieeabTotals.lean).
  GIVEN WITH THE SEED: the statements are not yours to turn. If you find one false, say at which input.
  Laid BY PROGRAM, IN A SANDBOX (cutbox-rows.mjs): the forced cells as the released guide's own fill.sh prints them over the translation 7cbd70508299bcb7… (all of the seat's roots in one cut). By AI agents, Wed Nov 11 2026. No macro, syntax, notation, axiom, sorry.
-/
import Derived.Test.YtholahinjjieeabChecked
import GoSem.Claim
import GoSem.ClaimJoined
import GoSem.ClaimMapViews
import Derived.JoinedTies
import Derived.KernelRfl
namespace Go.Proofs.Ytholahinjjieeab
/- THE CELL 'sum', in the pinned program and in every row, IS THE sha256 OF THE DUMP (.gsa) THAT YtholahinjjieeabProg.lean LOADS. Nothing in Lean hashes anything: it is a label: what it is worth is what the hold of that sum in a sandbox is worth. -/
noncomputable def Try.pinned : Pinned := { name := "ytholahinjjieeab", sum := "7cbd70508299bcb749a3d7d512c86c780178f4a1fde25cdf17e58a37c24ded58", checked := Try.checked }
namespace Rows
def none {H : Type} : Left H := { results := [], args := [] }

/-- 'skeplaw07.GridBack': WHATEVER THE INPUT: true; the input reads as it did. -/
def gridBackSpec : ChangeSpec := { name := "gridBack", fn := fun _ => fun
  | [d1, d2] => { results := [.lit (.bool true)], args := [d1, d2] }
  | _ => none }
def gridBackRow : OpenClaim := { program := "ytholahinjjieeab", sum := "7cbd70508299bcb749a3d7d512c86c780178f4a1fde25cdf17e58a37c24ded58", func := "skep/skeplaw07.GridBack", spec := "gridBack", unfollowed := true, recurses := true, apart := false }
def GridBackSaid : Prop := gridBackRow.holds Try.pinned (OpenSpec.ofChange gridBackSpec)

/-- ITS FALSE NEIGHBOUR: 'it returns false'. Refute it at one input. -/
def gridBackWrong : ChangeSpec := { name := "gridBack", fn := fun _ => fun
  | [d1, d2] => { results := [.lit (.bool false)], args := [d1, d2] }
  | _ => none }
def GridBackWrongFalsely : Prop := gridBackRow.holds Try.pinned (OpenSpec.ofChange gridBackWrong)

/-- 'skeplaw07.GridAll': WHATEVER THE INPUT: true; the input reads as it did. -/
def gridAllSpec : ChangeSpec := { name := "gridAll", fn := fun _ => fun
  | [d1, d2] => { results := [.lit (.bool true)], args := [d1, d2] }
  | _ => none }
def gridAllRow : OpenClaim := { program := "ytholahinjjieeab", sum := "7cbd70508299bcb749a3d7d512c86c780178f4a1fde25cdf17e58a37c24ded58", func := "skep/skeplaw07.GridAll", spec := "gridAll", unfollowed := true, recurses := true, apart := false }
def GridAllSaid : Prop := gridAllRow.holds Try.pinned (OpenSpec.ofChange gridAllSpec)

/-- ITS FALSE NEIGHBOUR: 'it returns false'. Refute it at one input. -/
def gridAllWrong : ChangeSpec := { name := "gridAll", fn := fun _ => fun
  | [d1, d2] => { results := [.lit (.bool false)], args := [d1, d2] }
  | _ => none }
def GridAllWrongFalsely : Prop := gridAllRow.holds Try.pinned (OpenSpec.ofChange gridAllWrong)

/-- 'skeplaw07.GridAway': WHATEVER THE INPUT: true; the input reads as it did. -/
def gridAwaySpec : ChangeSpec := { name := "gridAway", fn := fun _ => fun
  | [d1, d2, d3] => { results := [.lit (.bool true)], args := [d1, d2, d3] }
  | _ => none }
def gridAwayRow : OpenClaim := { program := "ytholahinjjieeab", sum := "7cbd70508299bcb749a3d7d512c86c780178f4a1fde25cdf17e58a37c24ded58", func := "skep/skeplaw07.GridAway", spec := "gridAway", unfollowed := true, recurses := true, apart := false }
def GridAwaySaid : Prop := gridAwayRow.holds Try.pinned (OpenSpec.ofChange gridAwaySpec)

/-- ITS FALSE NEIGHBOUR: 'it returns false'. Refute it at one input. -/
def gridAwayWrong : ChangeSpec := { name := "gridAway", fn := fun _ => fun
  | [d1, d2, d3] => { results := [.lit (.bool false)], args := [d1, d2, d3] }
  | _ => none }
def GridAwayWrongFalsely : Prop := gridAwayRow.holds Try.pinned (OpenSpec.ofChange gridAwayWrong)

/-- 'skeplaw07.GridOwn': WHATEVER THE INPUT: true; the input reads as it did. -/
def gridOwnSpec : ChangeSpec := { name := "gridOwn", fn := fun _ => fun
  | [d1, d2] => { results := [.lit (.bool true)], args := [d1, d2] }
  | _ => none }
def gridOwnRow : OpenClaim := { program := "ytholahinjjieeab", sum := "7cbd70508299bcb749a3d7d512c86c780178f4a1fde25cdf17e58a37c24ded58", func := "skep/skeplaw07.GridOwn", spec := "gridOwn", unfollowed := true, recurses := true, apart := false }
def GridOwnSaid : Prop := gridOwnRow.holds Try.pinned (OpenSpec.ofChange gridOwnSpec)

/-- ITS FALSE NEIGHBOUR: 'it returns false'. Refute it at one input. -/
def gridOwnWrong : ChangeSpec := { name := "gridOwn", fn := fun _ => fun
  | [d1, d2] => { results := [.lit (.bool false)], args := [d1, d2] }
  | _ => none }
def GridOwnWrongFalsely : Prop := gridOwnRow.holds Try.pinned (OpenSpec.ofChange gridOwnWrong)

/-- 'skeplaw07.GridSteps': WHATEVER THE INPUT: true; the input reads as it did. -/
def gridStepsSpec : ChangeSpec := { name := "gridSteps", fn := fun _ => fun
  | [d1, d2, d3, d4] => { results := [.lit (.bool true)], args := [d1, d2, d3, d4] }
  | _ => none }
def gridStepsRow : OpenClaim := { program := "ytholahinjjieeab", sum := "7cbd70508299bcb749a3d7d512c86c780178f4a1fde25cdf17e58a37c24ded58", func := "skep/skeplaw07.GridSteps", spec := "gridSteps", unfollowed := true, recurses := true, apart := false }
def GridStepsSaid : Prop := gridStepsRow.holds Try.pinned (OpenSpec.ofChange gridStepsSpec)

/-- ITS FALSE NEIGHBOUR: 'it returns false'. Refute it at one input. -/
def gridStepsWrong : ChangeSpec := { name := "gridSteps", fn := fun _ => fun
  | [d1, d2, d3, d4] => { results := [.lit (.bool false)], args := [d1, d2, d3, d4] }
  | _ => none }
def GridStepsWrongFalsely : Prop := gridStepsRow.holds Try.pinned (OpenSpec.ofChange gridStepsWrong)

/- THE SECOND FORM. 'bulk': how many values and letters a reading holds, each counted each time it is reached (what is shared counts as often as it is met; a slice's spare places count too). A statement '..UptoSaid' is the law's where the arguments, and the package variables that the reading takes, are together of bulk at most 1048576: NARROWER than '..Said'. Prove '..Said' where nothing that the law and all that it calls make is longer than what came in: it says more and counts as full. Else prove '..UptoSaid'. A law counts once. -/
mutual
def uptoBulk {H : Type} : DataW H → Nat
  | .lit (.string bytes) => bytes.length + 1
  | .lit _ => 1
  | .nil => 1
  | .ptr d => uptoBulk d + 1
  | .slice elems spare => uptoBulkAll elems + uptoBulkAll spare + 1
  | .agg parts => uptoBulkAll parts + 1
  | .iface _ d => uptoBulk d + 1
  | .map entries => uptoBulkEntries entries + 1
  | .held _ => 1
def uptoBulkAll {H : Type} : List (DataW H) → Nat
  | [] => 0
  | d :: r => uptoBulk d + uptoBulkAll r
def uptoBulkEntries {H : Type} : List (Lit × DataW H) → Nat
  | [] => 0
  | x :: r => uptoBulkEntry x + uptoBulkEntries r
def uptoBulkEntry {H : Type} : Lit × DataW H → Nat
  | (.string bytes, d) => bytes.length + uptoBulk d + 1
  | (_, d) => uptoBulk d + 1
 end
def uptoSmall : (H : Type) → List (DataW H) → Bool := fun _ ds => decide (uptoBulkAll ds ≤ 1048576)
def OpenSpec.upto (s : _root_.Go.ChangeSpec) : _root_.Go.OpenSpec := { _root_.Go.OpenSpec.ofChange s with cond := some uptoSmall }

/-- 'skeplaw07.GridBack', WHERE WHAT IT READS IS OF BULK AT MOST 1048576: true; the input reads as it did. -/
def gridBackUptoRow : OpenClaim := { program := "ytholahinjjieeab", sum := "7cbd70508299bcb749a3d7d512c86c780178f4a1fde25cdf17e58a37c24ded58", func := "skep/skeplaw07.GridBack", spec := "gridBack", unfollowed := true, recurses := true, apart := false, narrowed := true }
def GridBackUptoSaid : Prop := gridBackUptoRow.holds Try.pinned (OpenSpec.upto gridBackSpec)

/-- 'skeplaw07.GridAll', WHERE WHAT IT READS IS OF BULK AT MOST 1048576: true; the input reads as it did. -/
def gridAllUptoRow : OpenClaim := { program := "ytholahinjjieeab", sum := "7cbd70508299bcb749a3d7d512c86c780178f4a1fde25cdf17e58a37c24ded58", func := "skep/skeplaw07.GridAll", spec := "gridAll", unfollowed := true, recurses := true, apart := false, narrowed := true }
def GridAllUptoSaid : Prop := gridAllUptoRow.holds Try.pinned (OpenSpec.upto gridAllSpec)

/-- 'skeplaw07.GridAway', WHERE WHAT IT READS IS OF BULK AT MOST 1048576: true; the input reads as it did. -/
def gridAwayUptoRow : OpenClaim := { program := "ytholahinjjieeab", sum := "7cbd70508299bcb749a3d7d512c86c780178f4a1fde25cdf17e58a37c24ded58", func := "skep/skeplaw07.GridAway", spec := "gridAway", unfollowed := true, recurses := true, apart := false, narrowed := true }
def GridAwayUptoSaid : Prop := gridAwayUptoRow.holds Try.pinned (OpenSpec.upto gridAwaySpec)

/-- 'skeplaw07.GridOwn', WHERE WHAT IT READS IS OF BULK AT MOST 1048576: true; the input reads as it did. -/
def gridOwnUptoRow : OpenClaim := { program := "ytholahinjjieeab", sum := "7cbd70508299bcb749a3d7d512c86c780178f4a1fde25cdf17e58a37c24ded58", func := "skep/skeplaw07.GridOwn", spec := "gridOwn", unfollowed := true, recurses := true, apart := false, narrowed := true }
def GridOwnUptoSaid : Prop := gridOwnUptoRow.holds Try.pinned (OpenSpec.upto gridOwnSpec)

/-- 'skeplaw07.GridSteps', WHERE WHAT IT READS IS OF BULK AT MOST 1048576: true; the input reads as it did. -/
def gridStepsUptoRow : OpenClaim := { program := "ytholahinjjieeab", sum := "7cbd70508299bcb749a3d7d512c86c780178f4a1fde25cdf17e58a37c24ded58", func := "skep/skeplaw07.GridSteps", spec := "gridSteps", unfollowed := true, recurses := true, apart := false, narrowed := true }
def GridStepsUptoSaid : Prop := gridStepsUptoRow.holds Try.pinned (OpenSpec.upto gridStepsSpec)

end Rows
end Go.Proofs.Ytholahinjjieeab
