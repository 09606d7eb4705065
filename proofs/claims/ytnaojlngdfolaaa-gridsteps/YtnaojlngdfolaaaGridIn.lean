/-
  Cells, poses and numbers that came in, opened.
-/
import Derived.Test.YtnaojlngdfolaaaRows
import Derived.Deep.Slices
import Derived.ChangeSame
import Derived.OpenShut
import Derived.WalkKit
import Derived.ProofKit
import Derived.ShutString
namespace Go.Proofs.Ytnaojlngdfolaaa.Grid
set_option linter.unusedVariables false
set_option linter.unusedSimpArgs false
open Go Go.RowKit Go.ChangeShapes Go.WideShapes
def In64 (x : Int) : Prop := -9223372036854775808 ≤ x ∧ x ≤ 9223372036854775807
theorem in_int {H : Type} {enc : TypeId × Value → H} {W : World} {n : Nat} {cs : List Value} {d : DataW H × List MemPlace} (h : DataW.trod enc Try.prog W 0 (fun _ => true) true n 3 cs = some d) :
    ∃ x, cs = [.int .i64 x] ∧ In64 x := by
  obtain ⟨x, q, e, f⟩ := DataW.trod_int Try.underlying3 h
  refine ⟨x, q, ?_⟩
  simp [Lit.wf, IntKind.min, IntKind.max, IntKind.bits, IntKind.signed] at f
  exact ⟨by omega, by omega⟩
set_option maxRecDepth 100000 in
theorem in_cell {H : Type} {enc : TypeId × Value → H} {W : World} {n : Nat} {cs : List Value} {d : DataW H × List MemPlace} (h : DataW.trod enc Try.prog W 0 (fun _ => true) true n 28 cs = some d) :
    ∃ x0 x1, cs = [.int .i64 x0, .int .i64 x1] ∧ In64 x0 ∧ In64 x1 := by
  obtain ⟨xs, k, hk, hxy, hlen, hxl, hf⟩ := DataW.trod_struct Try.underlying28 h
  rw [show Try.prog.cellsOf 28 = 2 by kernel_rfl] at hlen
  match cs, hlen with
  | [v0, v1], _ =>
    match xs, hxl with
    | [y0, y1], _ =>
      have g0 : DataW.trod enc Try.prog W 0 (fun _ => true) true k 3 [v0] = some y0 := by
        have q := hf 0 _ rfl
        simp only [show Try.prog.cellsOf 3 = 1 by kernel_rfl, List.drop_zero, List.drop_succ_cons, List.take_succ_cons, List.take_zero, List.getElem?_cons_zero, List.getElem?_cons_succ] at q
        exact q
      have g1 : DataW.trod enc Try.prog W 0 (fun _ => true) true k 3 [v1] = some y1 := by
        have q := hf 1 _ rfl
        simp only [show Try.prog.cellsOf 3 = 1 by kernel_rfl, List.drop_zero, List.drop_succ_cons, List.take_succ_cons, List.take_zero, List.getElem?_cons_zero, List.getElem?_cons_succ] at q
        exact q
      obtain ⟨x0, q0, o0⟩ := in_int g0
      simp only [List.cons.injEq, and_true] at q0
      obtain rfl := q0
      obtain ⟨x1, q1, o1⟩ := in_int g1
      simp only [List.cons.injEq, and_true] at q1
      obtain rfl := q1
      exact ⟨x0, x1, rfl, o0, o1⟩
end Go.Proofs.Ytnaojlngdfolaaa.Grid
