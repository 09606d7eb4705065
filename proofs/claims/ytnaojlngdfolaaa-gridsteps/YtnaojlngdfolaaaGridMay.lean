/-
  Whether a config may be.
-/
import Derived.Test.YtnaojlngdfolaaaGridAwake
namespace Go.Proofs.Ytnaojlngdfolaaa.Grid
set_option linter.unusedVariables false
set_option linter.unusedSimpArgs false
open Go Go.RowKit Go.Shelf Go.Proofs

theorem new_empty (c : Conf) (h1 : c.blocked = []) (h2 : c.ports = []) (h3 : c.robots = []) (h4 : c.stacks = []) : (newP c).isSome = limited c := by
  cases hl : limited c
  · unfold newP
    rw [if_neg (by rw [hl]; decide)]
    rfl
  · cases e : newP c with
    | some G => rfl
    | none =>
      refine absurd ?_ (new_none e)
      unfold mayR homes mayBeP
      rw [h1, h2, h3, h4]
      simp [hl]
end Go.Proofs.Ytnaojlngdfolaaa.Grid
