/-
  No cell of these rows narrows 'for every input' (looked for: loops, veiled, ifaces, maps, wideKeys, modest, calm, conditions, laid).
  DERIVED. THE GIVEN ROWS OF THIS SEAT. 10 by the template 'for every input the law returns true; each argument reads behind the call as it read before'; 0 by the template 'total and deterministic' (their statements: YtnilbgmmcmjciaaTotals.lean).
  GIVEN WITH THE SEED: the statements are not yours to turn. If you find one false, say at which input.
  Laid BY PROGRAM, IN A SANDBOX (cutbox-rows.mjs): the forced cells as the released guide's own fill.sh prints them over the translation 1d7ed2c06aa3e29b… (all of the seat's roots in one cut). By AI agents, Wed Nov 11 2026. No macro, syntax, notation, axiom, sorry.
-/
import Derived.Test.YtnilbgmmcmjciaaChecked
import GoSem.Claim
import GoSem.ClaimJoined
import GoSem.ClaimMapViews
import Derived.JoinedTies
import Derived.KernelRfl
namespace Go.Proofs.Ytnilbgmmcmjciaa
/- THE CELL 'sum', in the pinned program and in every row, IS THE sha256 OF THE DUMP (.gsa) THAT YtnilbgmmcmjciaaProg.lean LOADS. Nothing in Lean hashes anything: it is a label: what it is worth is what the hold of that sum in a sandbox is worth. -/
noncomputable def Try.pinned : Pinned := { name := "ytnilbgmmcmjciaa", sum := "1d7ed2c06aa3e29baf977cabc95e2066357d64ba7d24871efbd5e58190b42e4a", checked := Try.checked }
namespace Rows
def none {H : Type} : Left H := { results := [], args := [] }

/-- 'skeplaw08.StacksPlays': WHATEVER THE INPUT: true; the input reads as it did. -/
def stacksPlaysSpec : ChangeSpec := { name := "stacksPlays", fn := fun _ => fun
  | [d1, d2] => { results := [.lit (.bool true)], args := [d1, d2] }
  | _ => none }
def stacksPlaysRow : OpenClaim := { program := "ytnilbgmmcmjciaa", sum := "1d7ed2c06aa3e29baf977cabc95e2066357d64ba7d24871efbd5e58190b42e4a", func := "skep/skeplaw08.StacksPlays", spec := "stacksPlays", unfollowed := true, recurses := true, apart := false }
def StacksPlaysSaid : Prop := stacksPlaysRow.holds Try.pinned (OpenSpec.ofChange stacksPlaysSpec)

/-- ITS FALSE NEIGHBOUR: 'it returns false'. Refute it at one input. -/
def stacksPlaysWrong : ChangeSpec := { name := "stacksPlays", fn := fun _ => fun
  | [d1, d2] => { results := [.lit (.bool false)], args := [d1, d2] }
  | _ => none }
def StacksPlaysWrongFalsely : Prop := stacksPlaysRow.holds Try.pinned (OpenSpec.ofChange stacksPlaysWrong)

/-- 'skeplaw08.StacksFinds': WHATEVER THE INPUT: true; the input reads as it did. -/
def stacksFindsSpec : ChangeSpec := { name := "stacksFinds", fn := fun _ => fun
  | [d1, d2, d3] => { results := [.lit (.bool true)], args := [d1, d2, d3] }
  | _ => none }
def stacksFindsRow : OpenClaim := { program := "ytnilbgmmcmjciaa", sum := "1d7ed2c06aa3e29baf977cabc95e2066357d64ba7d24871efbd5e58190b42e4a", func := "skep/skeplaw08.StacksFinds", spec := "stacksFinds", recurses := true, apart := false }
def StacksFindsSaid : Prop := stacksFindsRow.holds Try.pinned (OpenSpec.ofChange stacksFindsSpec)

/-- ITS FALSE NEIGHBOUR: 'it returns false'. Refute it at one input. -/
def stacksFindsWrong : ChangeSpec := { name := "stacksFinds", fn := fun _ => fun
  | [d1, d2, d3] => { results := [.lit (.bool false)], args := [d1, d2, d3] }
  | _ => none }
def StacksFindsWrongFalsely : Prop := stacksFindsRow.holds Try.pinned (OpenSpec.ofChange stacksFindsWrong)

/-- 'skeplaw08.StacksOwn': WHATEVER THE INPUT: true; the input reads as it did. -/
def stacksOwnSpec : ChangeSpec := { name := "stacksOwn", fn := fun _ => fun
  | [d1, d2] => { results := [.lit (.bool true)], args := [d1, d2] }
  | _ => none }
def stacksOwnRow : OpenClaim := { program := "ytnilbgmmcmjciaa", sum := "1d7ed2c06aa3e29baf977cabc95e2066357d64ba7d24871efbd5e58190b42e4a", func := "skep/skeplaw08.StacksOwn", spec := "stacksOwn", unfollowed := true, recurses := true, apart := false }
def StacksOwnSaid : Prop := stacksOwnRow.holds Try.pinned (OpenSpec.ofChange stacksOwnSpec)

/-- ITS FALSE NEIGHBOUR: 'it returns false'. Refute it at one input. -/
def stacksOwnWrong : ChangeSpec := { name := "stacksOwn", fn := fun _ => fun
  | [d1, d2] => { results := [.lit (.bool false)], args := [d1, d2] }
  | _ => none }
def StacksOwnWrongFalsely : Prop := stacksOwnRow.holds Try.pinned (OpenSpec.ofChange stacksOwnWrong)

/-- 'skeplaw14.DigJobs': WHATEVER THE INPUT: true; the input reads as it did. -/
def digJobsSpec : ChangeSpec := { name := "digJobs", fn := fun _ => fun
  | [d1, d2, d3, d4, d5] => { results := [.lit (.bool true)], args := [d1, d2, d3, d4, d5] }
  | _ => none }
def digJobsRow : OpenClaim := { program := "ytnilbgmmcmjciaa", sum := "1d7ed2c06aa3e29baf977cabc95e2066357d64ba7d24871efbd5e58190b42e4a", func := "skep/skeplaw14.DigJobs", spec := "digJobs", unfollowed := true, recurses := true, apart := false }
def DigJobsSaid : Prop := digJobsRow.holds Try.pinned (OpenSpec.ofChange digJobsSpec)

/-- ITS FALSE NEIGHBOUR: 'it returns false'. Refute it at one input. -/
def digJobsWrong : ChangeSpec := { name := "digJobs", fn := fun _ => fun
  | [d1, d2, d3, d4, d5] => { results := [.lit (.bool false)], args := [d1, d2, d3, d4, d5] }
  | _ => none }
def DigJobsWrongFalsely : Prop := digJobsRow.holds Try.pinned (OpenSpec.ofChange digJobsWrong)

/-- 'skeplaw14.DigPlaces': WHATEVER THE INPUT: true; the input reads as it did. -/
def digPlacesSpec : ChangeSpec := { name := "digPlaces", fn := fun _ => fun
  | [d1, d2, d3, d4] => { results := [.lit (.bool true)], args := [d1, d2, d3, d4] }
  | _ => none }
def digPlacesRow : OpenClaim := { program := "ytnilbgmmcmjciaa", sum := "1d7ed2c06aa3e29baf977cabc95e2066357d64ba7d24871efbd5e58190b42e4a", func := "skep/skeplaw14.DigPlaces", spec := "digPlaces", unfollowed := true, recurses := true, apart := false }
def DigPlacesSaid : Prop := digPlacesRow.holds Try.pinned (OpenSpec.ofChange digPlacesSpec)

/-- ITS FALSE NEIGHBOUR: 'it returns false'. Refute it at one input. -/
def digPlacesWrong : ChangeSpec := { name := "digPlaces", fn := fun _ => fun
  | [d1, d2, d3, d4] => { results := [.lit (.bool false)], args := [d1, d2, d3, d4] }
  | _ => none }
def DigPlacesWrongFalsely : Prop := digPlacesRow.holds Try.pinned (OpenSpec.ofChange digPlacesWrong)

/-- 'skeplaw14.DigDone': WHATEVER THE INPUT: true; the input reads as it did. -/
def digDoneSpec : ChangeSpec := { name := "digDone", fn := fun _ => fun
  | [d1, d2, d3, d4] => { results := [.lit (.bool true)], args := [d1, d2, d3, d4] }
  | _ => none }
def digDoneRow : OpenClaim := { program := "ytnilbgmmcmjciaa", sum := "1d7ed2c06aa3e29baf977cabc95e2066357d64ba7d24871efbd5e58190b42e4a", func := "skep/skeplaw14.DigDone", spec := "digDone", unfollowed := true, recurses := true, apart := false }
def DigDoneSaid : Prop := digDoneRow.holds Try.pinned (OpenSpec.ofChange digDoneSpec)

/-- ITS FALSE NEIGHBOUR: 'it returns false'. Refute it at one input. -/
def digDoneWrong : ChangeSpec := { name := "digDone", fn := fun _ => fun
  | [d1, d2, d3, d4] => { results := [.lit (.bool false)], args := [d1, d2, d3, d4] }
  | _ => none }
def DigDoneWrongFalsely : Prop := digDoneRow.holds Try.pinned (OpenSpec.ofChange digDoneWrong)

/-- 'skeplaw14.DigNear': WHATEVER THE INPUT: true; the input reads as it did. -/
def digNearSpec : ChangeSpec := { name := "digNear", fn := fun _ => fun
  | [d1, d2, d3] => { results := [.lit (.bool true)], args := [d1, d2, d3] }
  | _ => none }
def digNearRow : OpenClaim := { program := "ytnilbgmmcmjciaa", sum := "1d7ed2c06aa3e29baf977cabc95e2066357d64ba7d24871efbd5e58190b42e4a", func := "skep/skeplaw14.DigNear", spec := "digNear", unfollowed := true, recurses := true, apart := false }
def DigNearSaid : Prop := digNearRow.holds Try.pinned (OpenSpec.ofChange digNearSpec)

/-- ITS FALSE NEIGHBOUR: 'it returns false'. Refute it at one input. -/
def digNearWrong : ChangeSpec := { name := "digNear", fn := fun _ => fun
  | [d1, d2, d3] => { results := [.lit (.bool false)], args := [d1, d2, d3] }
  | _ => none }
def DigNearWrongFalsely : Prop := digNearRow.holds Try.pinned (OpenSpec.ofChange digNearWrong)

/-- 'skeplaw14.DigRefuses': WHATEVER THE INPUT: true; the input reads as it did. -/
def digRefusesSpec : ChangeSpec := { name := "digRefuses", fn := fun _ => fun
  | [d1, d2, d3] => { results := [.lit (.bool true)], args := [d1, d2, d3] }
  | _ => none }
def digRefusesRow : OpenClaim := { program := "ytnilbgmmcmjciaa", sum := "1d7ed2c06aa3e29baf977cabc95e2066357d64ba7d24871efbd5e58190b42e4a", func := "skep/skeplaw14.DigRefuses", spec := "digRefuses", unfollowed := true, recurses := true, apart := false }
def DigRefusesSaid : Prop := digRefusesRow.holds Try.pinned (OpenSpec.ofChange digRefusesSpec)

/-- ITS FALSE NEIGHBOUR: 'it returns false'. Refute it at one input. -/
def digRefusesWrong : ChangeSpec := { name := "digRefuses", fn := fun _ => fun
  | [d1, d2, d3] => { results := [.lit (.bool false)], args := [d1, d2, d3] }
  | _ => none }
def DigRefusesWrongFalsely : Prop := digRefusesRow.holds Try.pinned (OpenSpec.ofChange digRefusesWrong)

/-- 'skeplaw14.DigRows': WHATEVER THE INPUT: true; the input reads as it did. -/
def digRowsSpec : ChangeSpec := { name := "digRows", fn := fun _ => fun
  | [d1, d2, d3] => { results := [.lit (.bool true)], args := [d1, d2, d3] }
  | _ => none }
def digRowsRow : OpenClaim := { program := "ytnilbgmmcmjciaa", sum := "1d7ed2c06aa3e29baf977cabc95e2066357d64ba7d24871efbd5e58190b42e4a", func := "skep/skeplaw14.DigRows", spec := "digRows", unfollowed := true, recurses := true, apart := false }
def DigRowsSaid : Prop := digRowsRow.holds Try.pinned (OpenSpec.ofChange digRowsSpec)

/-- ITS FALSE NEIGHBOUR: 'it returns false'. Refute it at one input. -/
def digRowsWrong : ChangeSpec := { name := "digRows", fn := fun _ => fun
  | [d1, d2, d3] => { results := [.lit (.bool false)], args := [d1, d2, d3] }
  | _ => none }
def DigRowsWrongFalsely : Prop := digRowsRow.holds Try.pinned (OpenSpec.ofChange digRowsWrong)

/-- 'skeplaw14.DigMore': WHATEVER THE INPUT: true; the input reads as it did. -/
def digMoreSpec : ChangeSpec := { name := "digMore", fn := fun _ => fun
  | [d1, d2, d3, d4] => { results := [.lit (.bool true)], args := [d1, d2, d3, d4] }
  | _ => none }
def digMoreRow : OpenClaim := { program := "ytnilbgmmcmjciaa", sum := "1d7ed2c06aa3e29baf977cabc95e2066357d64ba7d24871efbd5e58190b42e4a", func := "skep/skeplaw14.DigMore", spec := "digMore", unfollowed := true, recurses := true, apart := false }
def DigMoreSaid : Prop := digMoreRow.holds Try.pinned (OpenSpec.ofChange digMoreSpec)

/-- ITS FALSE NEIGHBOUR: 'it returns false'. Refute it at one input. -/
def digMoreWrong : ChangeSpec := { name := "digMore", fn := fun _ => fun
  | [d1, d2, d3, d4] => { results := [.lit (.bool false)], args := [d1, d2, d3, d4] }
  | _ => none }
def DigMoreWrongFalsely : Prop := digMoreRow.holds Try.pinned (OpenSpec.ofChange digMoreWrong)

/- THE SECOND FORM. 'bulk': how many values and letters a reading holds, each counted each time it is reached (what is shared counts as often as it is met; a slice's spare places count too). A statement '..UptoSaid' is the law's where the arguments, and the package variables that the reading takes, are together of bulk at most 1048576: NARROWER than '..Said'. Prove '..Said' where nothing that the law and all that it calls make is longer than what came in: it says more and counts as full. Else prove '..UptoSaid'. A law counts once. -/
mutual
def uptoBulk {H : Type} : DataW H → Nat
  | .lit (.string bytes) => bytes.length + 1
  | .lit _ => 1
  | .nil => 1
  | .ptr d => uptoBulk d + 1
  | .slice elems spare => uptoBulkAll elems + uptoBulkAll spare + 1
  | .agg parts => uptoBulkAll parts + 1
  | .iface _ d => uptoBulk d + 1
  | .map entries => uptoBulkEntries entries + 1
  | .held _ => 1
def uptoBulkAll {H : Type} : List (DataW H) → Nat
  | [] => 0
  | d :: r => uptoBulk d + uptoBulkAll r
def uptoBulkEntries {H : Type} : List (Lit × DataW H) → Nat
  | [] => 0
  | x :: r => uptoBulkEntry x + uptoBulkEntries r
def uptoBulkEntry {H : Type} : Lit × DataW H → Nat
  | (.string bytes, d) => bytes.length + uptoBulk d + 1
  | (_, d) => uptoBulk d + 1
 end
def uptoSmall : (H : Type) → List (DataW H) → Bool := fun _ ds => decide (uptoBulkAll ds ≤ 1048576)
def OpenSpec.upto (s : _root_.Go.ChangeSpec) : _root_.Go.OpenSpec := { _root_.Go.OpenSpec.ofChange s with cond := some uptoSmall }

/-- 'skeplaw08.StacksPlays', WHERE WHAT IT READS IS OF BULK AT MOST 1048576: true; the input reads as it did. -/
def stacksPlaysUptoRow : OpenClaim := { program := "ytnilbgmmcmjciaa", sum := "1d7ed2c06aa3e29baf977cabc95e2066357d64ba7d24871efbd5e58190b42e4a", func := "skep/skeplaw08.StacksPlays", spec := "stacksPlays", unfollowed := true, recurses := true, apart := false, narrowed := true }
def StacksPlaysUptoSaid : Prop := stacksPlaysUptoRow.holds Try.pinned (OpenSpec.upto stacksPlaysSpec)

/-- 'skeplaw08.StacksFinds', WHERE WHAT IT READS IS OF BULK AT MOST 1048576: true; the input reads as it did. -/
def stacksFindsUptoRow : OpenClaim := { program := "ytnilbgmmcmjciaa", sum := "1d7ed2c06aa3e29baf977cabc95e2066357d64ba7d24871efbd5e58190b42e4a", func := "skep/skeplaw08.StacksFinds", spec := "stacksFinds", recurses := true, apart := false, narrowed := true }
def StacksFindsUptoSaid : Prop := stacksFindsUptoRow.holds Try.pinned (OpenSpec.upto stacksFindsSpec)

/-- 'skeplaw08.StacksOwn', WHERE WHAT IT READS IS OF BULK AT MOST 1048576: true; the input reads as it did. -/
def stacksOwnUptoRow : OpenClaim := { program := "ytnilbgmmcmjciaa", sum := "1d7ed2c06aa3e29baf977cabc95e2066357d64ba7d24871efbd5e58190b42e4a", func := "skep/skeplaw08.StacksOwn", spec := "stacksOwn", unfollowed := true, recurses := true, apart := false, narrowed := true }
def StacksOwnUptoSaid : Prop := stacksOwnUptoRow.holds Try.pinned (OpenSpec.upto stacksOwnSpec)

/-- 'skeplaw14.DigJobs', WHERE WHAT IT READS IS OF BULK AT MOST 1048576: true; the input reads as it did. -/
def digJobsUptoRow : OpenClaim := { program := "ytnilbgmmcmjciaa", sum := "1d7ed2c06aa3e29baf977cabc95e2066357d64ba7d24871efbd5e58190b42e4a", func := "skep/skeplaw14.DigJobs", spec := "digJobs", unfollowed := true, recurses := true, apart := false, narrowed := true }
def DigJobsUptoSaid : Prop := digJobsUptoRow.holds Try.pinned (OpenSpec.upto digJobsSpec)

/-- 'skeplaw14.DigPlaces', WHERE WHAT IT READS IS OF BULK AT MOST 1048576: true; the input reads as it did. -/
def digPlacesUptoRow : OpenClaim := { program := "ytnilbgmmcmjciaa", sum := "1d7ed2c06aa3e29baf977cabc95e2066357d64ba7d24871efbd5e58190b42e4a", func := "skep/skeplaw14.DigPlaces", spec := "digPlaces", unfollowed := true, recurses := true, apart := false, narrowed := true }
def DigPlacesUptoSaid : Prop := digPlacesUptoRow.holds Try.pinned (OpenSpec.upto digPlacesSpec)

/-- 'skeplaw14.DigDone', WHERE WHAT IT READS IS OF BULK AT MOST 1048576: true; the input reads as it did. -/
def digDoneUptoRow : OpenClaim := { program := "ytnilbgmmcmjciaa", sum := "1d7ed2c06aa3e29baf977cabc95e2066357d64ba7d24871efbd5e58190b42e4a", func := "skep/skeplaw14.DigDone", spec := "digDone", unfollowed := true, recurses := true, apart := false, narrowed := true }
def DigDoneUptoSaid : Prop := digDoneUptoRow.holds Try.pinned (OpenSpec.upto digDoneSpec)

/-- 'skeplaw14.DigNear', WHERE WHAT IT READS IS OF BULK AT MOST 1048576: true; the input reads as it did. -/
def digNearUptoRow : OpenClaim := { program := "ytnilbgmmcmjciaa", sum := "1d7ed2c06aa3e29baf977cabc95e2066357d64ba7d24871efbd5e58190b42e4a", func := "skep/skeplaw14.DigNear", spec := "digNear", unfollowed := true, recurses := true, apart := false, narrowed := true }
def DigNearUptoSaid : Prop := digNearUptoRow.holds Try.pinned (OpenSpec.upto digNearSpec)

/-- 'skeplaw14.DigRefuses', WHERE WHAT IT READS IS OF BULK AT MOST 1048576: true; the input reads as it did. -/
def digRefusesUptoRow : OpenClaim := { program := "ytnilbgmmcmjciaa", sum := "1d7ed2c06aa3e29baf977cabc95e2066357d64ba7d24871efbd5e58190b42e4a", func := "skep/skeplaw14.DigRefuses", spec := "digRefuses", unfollowed := true, recurses := true, apart := false, narrowed := true }
def DigRefusesUptoSaid : Prop := digRefusesUptoRow.holds Try.pinned (OpenSpec.upto digRefusesSpec)

/-- 'skeplaw14.DigRows', WHERE WHAT IT READS IS OF BULK AT MOST 1048576: true; the input reads as it did. -/
def digRowsUptoRow : OpenClaim := { program := "ytnilbgmmcmjciaa", sum := "1d7ed2c06aa3e29baf977cabc95e2066357d64ba7d24871efbd5e58190b42e4a", func := "skep/skeplaw14.DigRows", spec := "digRows", unfollowed := true, recurses := true, apart := false, narrowed := true }
def DigRowsUptoSaid : Prop := digRowsUptoRow.holds Try.pinned (OpenSpec.upto digRowsSpec)

/-- 'skeplaw14.DigMore', WHERE WHAT IT READS IS OF BULK AT MOST 1048576: true; the input reads as it did. -/
def digMoreUptoRow : OpenClaim := { program := "ytnilbgmmcmjciaa", sum := "1d7ed2c06aa3e29baf977cabc95e2066357d64ba7d24871efbd5e58190b42e4a", func := "skep/skeplaw14.DigMore", spec := "digMore", unfollowed := true, recurses := true, apart := false, narrowed := true }
def DigMoreUptoSaid : Prop := digMoreUptoRow.holds Try.pinned (OpenSpec.upto digMoreSpec)

end Rows
end Go.Proofs.Ytnilbgmmcmjciaa
