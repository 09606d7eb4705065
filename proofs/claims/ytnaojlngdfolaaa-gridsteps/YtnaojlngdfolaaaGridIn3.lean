/-
  A move that came in, opened.
-/
import Derived.Test.YtnaojlngdfolaaaGridIn2
import Derived.Test.YtnaojlngdfolaaaGridGather
namespace Go.Proofs.Ytnaojlngdfolaaa.Grid
set_option linter.unusedVariables false
set_option linter.unusedSimpArgs false
open Go Go.RowKit Go.ChangeShapes Go.WideShapes

set_option maxRecDepth 100000 in
theorem in_move {H : Type} {enc : TypeId × Value → H} {W : World} {n : Nat} {cs : List Value} {d : DataW H × List MemPlace} (h : DataW.trod enc Try.prog W 0 (fun _ => true) true n 56 cs = some d) : ∃ x : Move, cs = moveL x := by
  obtain ⟨xs, k, hk, hxy, hlen, hxl, hf⟩ := DataW.trod_struct Try.underlying56 h
  rw [show Try.prog.cellsOf 56 = 11 by kernel_rfl] at hlen
  match cs, hlen with
  | [v0, v1, v2, v3, v4, v5, v6, v7, v8, v9, v10], _ =>
    match xs, hxl with
    | [y0, y1, y2, y3, y4, y5, y6], _ =>
      have g0 : DataW.trod enc Try.prog W 0 (fun _ => true) true k 3 [v0] = some y0 := by
        have q := hf 0 _ rfl
        simp only [show Try.prog.cellsOf 3 = 1 by kernel_rfl, List.drop_zero, List.drop_succ_cons, List.take_succ_cons, List.take_zero, List.getElem?_cons_zero, List.getElem?_cons_succ] at q
        exact q
      have g1 : DataW.trod enc Try.prog W 0 (fun _ => true) true k 3 [v1] = some y1 := by
        have q := hf 1 _ rfl
        simp only [show Try.prog.cellsOf 3 = 1 by kernel_rfl, List.drop_zero, List.drop_succ_cons, List.take_succ_cons, List.take_zero, List.getElem?_cons_zero, List.getElem?_cons_succ] at q
        exact q
      have g2 : DataW.trod enc Try.prog W 0 (fun _ => true) true k 3 [v2] = some y2 := by
        have q := hf 2 _ rfl
        simp only [show Try.prog.cellsOf 3 = 1 by kernel_rfl, List.drop_zero, List.drop_succ_cons, List.take_succ_cons, List.take_zero, List.getElem?_cons_zero, List.getElem?_cons_succ] at q
        exact q
      have g3 : DataW.trod enc Try.prog W 0 (fun _ => true) true k 30 [v3, v4, v5] = some y3 := by
        have q := hf 3 _ rfl
        simp only [show Try.prog.cellsOf 30 = 3 by kernel_rfl, List.drop_zero, List.drop_succ_cons, List.take_succ_cons, List.take_zero, List.getElem?_cons_zero, List.getElem?_cons_succ] at q
        exact q
      have g4 : DataW.trod enc Try.prog W 0 (fun _ => true) true k 30 [v6, v7, v8] = some y4 := by
        have q := hf 4 _ rfl
        simp only [show Try.prog.cellsOf 30 = 3 by kernel_rfl, List.drop_zero, List.drop_succ_cons, List.take_succ_cons, List.take_zero, List.getElem?_cons_zero, List.getElem?_cons_succ] at q
        exact q
      have g5 : DataW.trod enc Try.prog W 0 (fun _ => true) true k 3 [v9] = some y5 := by
        have q := hf 5 _ rfl
        simp only [show Try.prog.cellsOf 3 = 1 by kernel_rfl, List.drop_zero, List.drop_succ_cons, List.take_succ_cons, List.take_zero, List.getElem?_cons_zero, List.getElem?_cons_succ] at q
        exact q
      have g6 : DataW.trod enc Try.prog W 0 (fun _ => true) true k 3 [v10] = some y6 := by
        have q := hf 6 _ rfl
        simp only [show Try.prog.cellsOf 3 = 1 by kernel_rfl, List.drop_zero, List.drop_succ_cons, List.take_succ_cons, List.take_zero, List.getElem?_cons_zero, List.getElem?_cons_succ] at q
        exact q
      obtain ⟨x0, q0, _⟩ := in_int g0
      simp only [List.cons.injEq, and_true] at q0
      obtain rfl := q0
      obtain ⟨x1, q1, _⟩ := in_int g1
      simp only [List.cons.injEq, and_true] at q1
      obtain rfl := q1
      obtain ⟨x2, q2, _⟩ := in_int g2
      simp only [List.cons.injEq, and_true] at q2
      obtain rfl := q2
      obtain ⟨x5, q5, _⟩ := in_int g5
      simp only [List.cons.injEq, and_true] at q5
      obtain rfl := q5
      obtain ⟨x6, q6, _⟩ := in_int g6
      simp only [List.cons.injEq, and_true] at q6
      obtain rfl := q6
      obtain ⟨a3, b3, c3, q3⟩ := in_pose g3
      simp only [List.cons.injEq, and_true] at q3
      obtain ⟨rfl, rfl, rfl⟩ := q3
      obtain ⟨a4, b4, c4, q4⟩ := in_pose g4
      simp only [List.cons.injEq, and_true] at q4
      obtain ⟨rfl, rfl, rfl⟩ := q4
      exact ⟨(x0, x1, x2, ((a3, b3), c3), ((a4, b4), c4), x5, x6), rfl⟩
end Go.Proofs.Ytnaojlngdfolaaa.Grid
