/-
  The chapter's own answer, further: the stack cells in order.
-/
import Derived.Test.YtebfjldbhmmmlaaDgK
import Derived.Test.YtebfjldbhmmmlaaGridRef6
namespace Go.Proofs.Ytebfjldbhmmmlaa.Grid
set_option linter.unusedVariables false
set_option linter.unusedSimpArgs false
open Go Go.RowKit Go.Shelf Go.Proofs
attribute [local go_sem] Oper.semAt_some

end Go.Proofs.Ytebfjldbhmmmlaa.Grid
