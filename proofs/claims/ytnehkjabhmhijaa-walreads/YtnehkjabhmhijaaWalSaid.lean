/-
  What the document's records say, as texts.
-/
import Derived.Test.YtnehkjabhmhijaaWalRefRecs
namespace Go.Proofs.Ytnehkjabhmhijaa.Wal
set_option linter.unusedVariables false
set_option linter.unusedSimpArgs false
open Go Go.RowKit Go.Shelf Go.Proofs
open Go.Proofs.Ytnehkjabhmhijaa.Disk (Row getD_in ret_int add_add DiskIs Kept St now setSt owns_row owns_same wpList_append_bytes)

theorem cellsR_cons (p : Nat × Piece) (ps : List (Nat × Piece)) : cellsR (p :: ps) = [.int .i64 p.1, p.2.val] ++ cellsR ps := rfl
theorem cellsR_at (ps : List (Nat × Piece)) : ∀ (k : Nat) (h : k < ps.length), (cellsR ps)[k * 2]? = Option.some (.int .i64 (ps[k]).1) ∧ (cellsR ps)[k * 2 + 1]? = Option.some (ps[k]).2.val := by
  induction ps with
  | nil => intro k h; simp at h
  | cons p ps ih =>
    intro k h
    cases k with
    | zero => exact ⟨rfl, rfl⟩
    | succ k =>
      have := ih k (by simpa using h)
      rw [cellsR_cons, List.getElem?_append_right (by simp; omega), List.getElem?_append_right (by simp; omega)]
      simp only [List.length_cons, List.length_nil]
      rw [show (k + 1) * 2 - 2 = k * 2 by omega, show (k + 1) * 2 + 1 - 2 = k * 2 + 1 by omega]
      exact this
theorem cellsR_length (ps : List (Nat × Piece)) : (cellsR ps).length = ps.length * 2 := by
  induction ps with
  | nil => rfl
  | cons p ps ih => rw [cellsR_cons, List.length_append, ih]; simp; omega

end Go.Proofs.Ytnehkjabhmhijaa.Wal
