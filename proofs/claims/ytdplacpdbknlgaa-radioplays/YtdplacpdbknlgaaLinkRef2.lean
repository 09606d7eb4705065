/-
  The chapter's own link: Send, Got, Waits, Clear.
-/
import Derived.Test.YtdplacpdbknlgaaLinkRef
namespace Go.Proofs.Ytdplacpdbknlgaa.Lk
set_option linter.unusedVariables false
set_option linter.unusedSimpArgs false
open Go Go.RowKit Go.Shelf Go.Proofs Go.Proofs.Ytdplacpdbknlgaa.Tick Go.Proofs.Ytdplacpdbknlgaa.Plain
attribute [local go_sem] Oper.semAt_some

end Go.Proofs.Ytdplacpdbknlgaa.Lk
