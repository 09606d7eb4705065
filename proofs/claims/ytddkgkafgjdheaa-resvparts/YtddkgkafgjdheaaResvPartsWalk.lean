/-
  What is claimed in parts, in any order, is as if it were claimed at once.
-/
import Derived.Test.YtddkgkafgjdheaaResvPartsWalkA
import Derived.Test.YtddkgkafgjdheaaResvPartsWalkB
namespace Go.Proofs.Ytddkgkafgjdheaa.Rs
set_option linter.unusedVariables false
set_option linter.unusedSimpArgs false
open Go Go.RowKit Go.Shelf Go.Proofs Hp
attribute [local go_sem] Oper.semAt_some

theorem parts_all (C0 : Int) (a2 : Option Addr) (n2 cap2 : Nat) (zs : List Int) (a : Option Addr) (n cap : Nat) (os : List Cl) (w : World) (hin : InS w a n cap os) (hin2 : InN w a2 n2 cap2 zs) : Calls Try.prog 11 #[.slice a n cap, .int .i64 C0, .slice a2 n2 cap2] w fun e w' => e = .returned (.bool true) ∧ Below w.heap.size w w' := by
  rcases Nat.lt_or_ge 20 os.length with h | h
  · exact parts_long C0 a2 n2 cap2 zs a n cap os w hin hin2 h
  · exact parts_short C0 a2 n2 cap2 zs a n cap os w hin hin2 h
end Go.Proofs.Ytddkgkafgjdheaa.Rs
