/-
  The chapter's own answer, further: the stack cells in order.
  The runs of a pose, in plain words: those ahead of the first one that is not legal.
  The chapter's own answer, further: the moves of a pose.
  A run of many cells, in plain words: as many runs of one; the numbers of the cells that are swept rise.
-/
import Derived.Test.YtedhoghleelhfaaGreatPRgK
import Derived.Test.YtedhoghleelhfaaGreatPGridRef6
import Derived.Test.YtedhoghleelhfaaGreatPRgD
import Derived.Deep.DeepCutAuto
import Derived.Deep.CutRange
namespace Go.Proofs.YtedhoghleelhfaaGreat.Grid
set_option linter.unusedVariables false
set_option linter.unusedSimpArgs false
open Go Go.RowKit Go.Shelf Go.Proofs
attribute [local go_sem] Oper.semAt_some

end Go.Proofs.YtedhoghleelhfaaGreat.Grid
namespace Go.Proofs.YtedhoghleelhfaaGreat.Grid
set_option linter.unusedVariables false
set_option linter.unusedSimpArgs false
open Go Go.RowKit Go.Shelf Go.Proofs

end Go.Proofs.YtedhoghleelhfaaGreat.Grid
namespace Go.Proofs.YtedhoghleelhfaaGreat.Grid
set_option linter.unusedVariables false
set_option linter.unusedSimpArgs false
open Go Go.RowKit Go.Shelf Go.Proofs
attribute [local go_sem] Oper.semAt_some

end Go.Proofs.YtedhoghleelhfaaGreat.Grid
namespace Go.Proofs.YtedhoghleelhfaaGreat.Grid
set_option linter.unusedVariables false
set_option linter.unusedSimpArgs false
open Go Go.RowKit Go.Shelf Go.Proofs

end Go.Proofs.YtedhoghleelhfaaGreat.Grid
