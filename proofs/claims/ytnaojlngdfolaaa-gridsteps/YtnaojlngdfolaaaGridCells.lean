/-
  Cells, poses, and what a grid says of one.
-/
import Derived.Test.YtnaojlngdfolaaaGridMem
namespace Go.Proofs.Ytnaojlngdfolaaa.Grid
set_option linter.unusedVariables false
set_option linter.unusedSimpArgs false
open Go Go.RowKit

def cellV (c : Cell) : Value := .agg #[.int .i64 c.1, .int .i64 c.2]
def poseV (p : Pose) : Value := .agg #[.int .i64 p.1.1, .int .i64 p.1.2, .bool p.2]
theorem w64_wrap (n : Int) : w64 n = wrap64 n := by unfold w64 wrap64; rfl

theorem below_row {B g : Nat} {w0 w : World} (hb : Below B w0 w) (hBg : B ≤ g) (cs : Array Value) : Below B w0 (w.setRow g cs) :=
  ⟨hb.os, hb.tape, hb.output, by rw [setRow_size]; exact hb.size, fun k hk => by rw [setRow_other _ _ _ _ (by omega)]; exact hb.block k hk⟩
theorem heap_new2 (w : World) (a b : Obj) : ((w.alloc a).alloc b).heap[w.heap.size + 1]? = some b := by
  have := heap_alloc_new (w.alloc a) b
  rwa [show (w.alloc a).heap.size = w.heap.size + 1 by simp] at this
theorem below_two (w : World) (a b : Obj) : Below w.heap.size w ((w.alloc a).alloc b) := below_new (below_new (Below.refl _ _) _) _
theorem info_cell : (Try.prog.info? 28).map (·.size) = some 2 := by kernel_rfl
theorem info_pose : (Try.prog.info? 30).map (·.size) = some 3 := by kernel_rfl
theorem east_any (x y : Int) (w : World) : Calls Try.prog 143 #[.agg #[.int .i64 x, .int .i64 y]] w fun e w' => e = .returned (.agg #[.int .i64 (w64 (x + 1)), .int .i64 y]) ∧ Below w.heap.size w w' := by
  go_enter Try.func143, Try.ntmps143
  go_wp2
  exact bodyPost_ret (results_cell_row rfl _ _ (w.heap.size + 1) 28 _ (0, 0) _ rfl (heap_new2 _ _ _) Try.underlying28 rfl info_cell) rfl ⟨by rw [w64_wrap], below_two _ _ _⟩
theorem south_any (x y : Int) (w : World) : Calls Try.prog 144 #[.agg #[.int .i64 x, .int .i64 y]] w fun e w' => e = .returned (.agg #[.int .i64 x, .int .i64 (w64 (y + 1))]) ∧ Below w.heap.size w w' := by
  go_enter Try.func144, Try.ntmps144
  go_wp2
  exact bodyPost_ret (results_cell_row rfl _ _ (w.heap.size + 1) 28 _ (0, 0) _ rfl (heap_new2 _ _ _) Try.underlying28 rfl info_cell) rfl ⟨by rw [w64_wrap], below_two _ _ _⟩
set_option maxHeartbeats 1000000 in
theorem second_any (x y : Int) (d : Bool) (w : World) : Calls Try.prog 125 #[.agg #[.int .i64 x, .int .i64 y, .bool d]] w fun e w' => e = .returned (.agg #[.int .i64 (second ((x, y), d)).1, .int .i64 (second ((x, y), d)).2]) ∧ Below w.heap.size w w' := by
  cases d
  all_goals
    go_enter Try.func125, Try.ntmps125
    go_wp2_with (first
      | (have X' := b1; refine wpList_store_row rfl 28 (.tmp 2) (.tmp 7) rfl (w.heap.size + 1) #[.int .i64 x, .int .i64 (w64 (y + 1))] rfl rfl 28 #[.int .i64 0, .int .i64 0] ((b1.block _ (by simp)).trans (heap_new2 _ _ _)) info_cell rfl (by simp [Value.oneCell']) ?_)
      | (have X' := b1; refine wpList_store_row rfl 28 (.tmp 2) (.tmp 10) rfl (w.heap.size + 1) #[.int .i64 (w64 (x + 1)), .int .i64 y] rfl rfl 28 #[.int .i64 0, .int .i64 0] ((b1.block _ (by simp)).trans (heap_new2 _ _ _)) info_cell rfl (by simp [Value.oneCell']) ?_)
      | (go_at_call 143; refine (east_any _ _ _).mono ?_; rintro e w1 ⟨rfl, b1⟩)
      | (go_at_call 144; refine (south_any _ _ _).mono ?_; rintro e w1 ⟨rfl, b1⟩))
    exact bodyPost_ret (results_cell_row rfl _ _ (w.heap.size + 1) 28 _ (0, 0) _ rfl (setRow_heap _ _ _ _ _ _ ((b1.block _ (by simp)).trans (heap_new2 _ _ _))) Try.underlying28 rfl info_cell) rfl ⟨rfl, below_row ((below_two _ _ _).trans (b1.mono (by simp; omega))) (by simp) _⟩
theorem upTo_any (v m : Int) (w : World) : Calls Try.prog 121 #[.int .i64 v, .int .i64 m] w fun e w' => e = .returned (.bool (upTo v m)) ∧ w' = w := by
  by_cases h1 : 1 ≤ v
  · by_cases h2 : v ≤ m
    all_goals
      have e : upTo v m = decide (v ≤ m) := by unfold upTo; simp [h1]
      rw [e]
      go_enter Try.func121, Try.ntmps121
      go_wp2
      go_ret
      exact ⟨ret_bool (by simp [h2]), rfl⟩
  · have e : upTo v m = false := by unfold upTo; simp [h1]
    rw [e]
    go_enter Try.func121, Try.ntmps121
    go_wp2
    go_ret
    exact ⟨rfl, rfl⟩
end Go.Proofs.Ytnaojlngdfolaaa.Grid
