/-
  How many bins there are in the first stacks of a list.
-/
import Derived.Test.YtebfjldbhmmmlaaDigDoneMem
namespace Go.Proofs.Ytebfjldbhmmmlaa.Dig
set_option linter.unusedVariables false
set_option linter.unusedSimpArgs false
open Go Go.RowKit Go.Shelf Go.Proofs Go.Proofs.Ytebfjldbhmmmlaa.Grid
theorem total_take (l : List Stk) {j : Nat} (hj : j < l.length) : total (l.take (j + 1)) = total (l.take j) + (l[j]'hj).2.length := by
  unfold total
  rw [List.take_add_one, List.getElem?_eq_getElem hj, List.map_append, List.sum_append]
  simp
theorem total_take_le (l : List Stk) (j : Nat) : total (l.take j) ≤ total l := by
  have h : total (l.take j ++ l.drop j) = total (l.take j) + total (l.drop j) := by
    unfold total
    rw [List.map_append, List.sum_append]
  rw [List.take_append_drop] at h
  omega
end Go.Proofs.Ytebfjldbhmmmlaa.Dig
