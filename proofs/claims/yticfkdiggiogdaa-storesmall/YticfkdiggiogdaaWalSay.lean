/-
  Which of the texts that came in may be appended.
-/
import Derived.Test.YticfkdiggiogdaaWalTexts
namespace Go.Proofs.Yticfkdiggiogdaa.Wal
set_option linter.unusedVariables false
set_option linter.unusedSimpArgs false
open Go Go.RowKit Go.Shelf Go.Proofs
open Go.Proofs.Yticfkdiggiogdaa.Disk (Row getD_in ret_int add_add DiskIs Kept St now setSt owns_row owns_same)

def goodB (p : Piece) : Bool := decide (0 < p.zs.length ∧ p.zs.length < 3000)
def sayOf (ps : List Piece) : List Piece := (ps.take 40).filter goodB
theorem filter_next (ps : List Piece) (k : Nat) (h : k < ps.length) : (ps.take (k + 1)).filter goodB = if goodB ps[k] then (ps.take k).filter goodB ++ [ps[k]] else (ps.take k).filter goodB := by
  rw [List.take_succ_eq_append_getElem h, List.filter_append]
  by_cases g : goodB ps[k] = true
  · rw [if_pos g]; simp [List.filter, g]
  · rw [if_neg g]; simp [List.filter, g]
theorem sayOf_good (ps : List Piece) : ∀ p ∈ sayOf ps, 0 < p.zs.length ∧ p.zs.length < 3000 := by
  intro p hp
  have := (List.mem_filter.1 hp).2
  exact of_decide_eq_true this
theorem sayOf_length (ps : List Piece) : (sayOf ps).length ≤ 40 := by
  unfold sayOf
  have := List.length_filter_le goodB (ps.take 40)
  rw [List.length_take] at this
  omega
theorem sayOf_mem (ps : List Piece) : ∀ p ∈ sayOf ps, p ∈ ps := fun p hp => List.mem_of_mem_take (List.mem_filter.1 hp).1

end Go.Proofs.Yticfkdiggiogdaa.Wal
