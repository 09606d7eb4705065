/-
  What each call of the document's own answer (chapter 1) gives in the model, for every pair of numbers: the same plain functions.
-/
import Derived.Test.YtdplacpdbknlgaaTickCalls
namespace Go.Proofs.Ytdplacpdbknlgaa.Tick
open Go.RowKit
open Plain

end Go.Proofs.Ytdplacpdbknlgaa.Tick
