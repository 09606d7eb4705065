/-
  The number of a cell.
-/
import Derived.Test.YtabbdclpjghdbaaRgA
namespace Go.Proofs.Ytabbdclpjghdbaa.Grid
set_option linter.unusedVariables false
set_option linter.unusedSimpArgs false
open Go Go.RowKit

set_option maxHeartbeats 8000000 in
theorem number_any (g u : Nat) (W H : Int) (us : List Int) (vp : Value) (x y : Int) (w : World) (hG : GridAt w g u W H us vp) :
    Calls Try.prog 60 #[.pointer (some ⟨g, 0, none⟩), .agg #[.int .i64 x, .int .i64 y]] w fun e w' => e = .returned (.int .i64 (number W H (x, y))) ∧ Below w.heap.size w w' := by
  have c0 := hG.c0
  have c1 := hG.c1
  have lg := hG.ltg
  have e0 : Hid (number W H (x, y) = if In W H (x, y) then y * W + x else -1) := rfl
  have e1 : Hid (In W H (x, y) ↔ 0 ≤ x ∧ x < W ∧ 0 ≤ y ∧ y < H) := Iff.rfl
  have e2 : Hid (In W H (x, y) → 0 ≤ y * W + x ∧ y * W + x < 256) := fun h => by have := hG.num_lt h; have := hG.le; simp only at *; omega
  generalize number W H (x, y) = r at *
  clear hG
  by_cases h1 : x < 0
  · go_enter Try.func60, Try.ntmps60
    go_wp2_with fail
    go_quiet (fail)
    go_wp2
    go_ret
    exact ⟨ret_int (by rw [e0.out, if_neg (by rw [e1.out]; omega)]), below_drewN (below_new (Below.refl _ _) _) _⟩
  · by_cases h2 : W ≤ x
    · go_enter Try.func60, Try.ntmps60
      go_wp2_with fail
      go_quiet (fail)
      go_wp2
      go_ret
      exact ⟨ret_int (by rw [e0.out, if_neg (by rw [e1.out]; omega)]), below_drewN (below_new (Below.refl _ _) _) _⟩
    · by_cases h3 : y < 0
      · go_enter Try.func60, Try.ntmps60
        go_wp2_with fail
        go_quiet (fail)
        go_wp2
        go_ret
        exact ⟨ret_int (by rw [e0.out, if_neg (by rw [e1.out]; omega)]), below_drewN (below_new (Below.refl _ _) _) _⟩
      · by_cases h4 : H ≤ y
        · go_enter Try.func60, Try.ntmps60
          go_wp2_with fail
          go_quiet (fail)
          go_wp2
          go_ret
          exact ⟨ret_int (by rw [e0.out, if_neg (by rw [e1.out]; omega)]), below_drewN (below_new (Below.refl _ _) _) _⟩
        · go_enter Try.func60, Try.ntmps60
          go_wp2_with fail
          go_quiet (fail)
          go_wp2
          go_quiet (fail)
          go_wp2
          go_ret
          refine ⟨ret_int ?_, below_drewN (below_drewN (below_new (Below.refl _ _) _) _) _⟩
          have hin : In W H (x, y) := e1.out.2 ⟨by omega, by omega, by omega, by omega⟩
          have hb := e2.out hin
          have h5 : 0 ≤ y * W := Int.mul_nonneg (by omega) (by omega)
          rw [e0.out, if_pos hin, ← w64_wrap, ← w64_wrap, w64_id (n := y * W) (by omega) (by omega), w64_id (by omega) (by omega)]
end Go.Proofs.Ytabbdclpjghdbaa.Grid
