/-
  A claim is done wholly, or not at all: scripts of any length.
-/
import Derived.Test.YtddkgkafgjdheaaResvWholeWalkA
import Derived.Test.YtddkgkafgjdheaaResvWholeWalkB
namespace Go.Proofs.Ytddkgkafgjdheaa.Rs
set_option linter.unusedVariables false
set_option linter.unusedSimpArgs false
open Go Go.RowKit Go.Shelf Go.Proofs Hp
attribute [local go_sem] Oper.semAt_some

theorem whole_all (R : Int) (a2 : Option Addr) (n2 cap2 : Nat) (ws : List Wn) (a : Option Addr) (n cap : Nat) (os : List Cl) (w : World) (hin : InS w a n cap os) (hin2 : InW w a2 n2 cap2 ws) : Calls Try.prog 5 #[.slice a n cap, .int .i64 R, .slice a2 n2 cap2] w fun e w' => e = .returned (.bool true) ∧ Below w.heap.size w w' := by
  rcases Nat.lt_or_ge 30 os.length with h | h
  · exact whole_long R a2 n2 cap2 ws a n cap os w hin hin2 h
  · exact whole_short R a2 n2 cap2 ws a n cap os w hin hin2 h
end Go.Proofs.Ytddkgkafgjdheaa.Rs
