/-
  A robot's stretches are just the ticks that no other robot has: scripts of any length.
-/
import Derived.Test.YtddkgkafgjdheaaResvGapsWalkA
import Derived.Test.YtddkgkafgjdheaaResvGapsWalkB
namespace Go.Proofs.Ytddkgkafgjdheaa.Rs
set_option linter.unusedVariables false
set_option linter.unusedSimpArgs false
open Go Go.RowKit Go.Shelf Go.Proofs Hp
attribute [local go_sem] Oper.semAt_some

theorem gaps_law (R0 C0 : Int) (a : Option Addr) (n cap : Nat) (os : List Cl) (w : World) (hin : InS w a n cap os) : Calls Try.prog 6 #[.slice a n cap, .int .i64 R0, .int .i64 C0] w fun e w' => e = .returned (.bool true) ∧ Below w.heap.size w w' := by
  rcases Nat.lt_or_ge 30 os.length with h | h
  · exact gaps_long R0 C0 a n cap os w hin h
  · exact gaps_short R0 C0 a n cap os w hin h
end Go.Proofs.Ytddkgkafgjdheaa.Rs
