/-
  A script that came in, opened.
-/
import Derived.Test.YtabbdclpjghdbaaRgJ
import Derived.Test.YtabbdclpjghdbaaStkM4
namespace Go.Proofs.Ytabbdclpjghdbaa.Stk
set_option linter.unusedVariables false
set_option linter.unusedSimpArgs false
open Go Go.RowKit Go.ChangeShapes Go.WideShapes Go.Proofs.Ytabbdclpjghdbaa.Grid

set_option maxRecDepth 100000 in
theorem in_op {H : Type} {enc : TypeId × Value → H} {W : World} {n : Nat} {cs : List Value} {d : DataW H × List MemPlace} (h : DataW.trod enc Try.prog W 0 (fun _ => true) true n 41 cs = some d) : ∃ x : OpT, cs = [.int .i64 x.1, .int .i64 x.2.1, .int .i64 x.2.2.1, .int .i64 x.2.2.2] := by
  obtain ⟨xs, k, hk, hxy, hlen, hxl, hf⟩ := DataW.trod_struct Try.underlying41 h
  rw [show Try.prog.cellsOf 41 = 4 by kernel_rfl] at hlen
  match cs, hlen with
  | [v0, v1, v2, v3], _ =>
    match xs, hxl with
    | [y0, y1, y2], _ =>
      have g0 : DataW.trod enc Try.prog W 0 (fun _ => true) true k 3 [v0] = some y0 := by
        have q := hf 0 _ rfl
        simp only [show Try.prog.cellsOf 3 = 1 by kernel_rfl, List.drop_zero, List.drop_succ_cons, List.take_succ_cons, List.take_zero, List.getElem?_cons_zero, List.getElem?_cons_succ] at q
        exact q
      have g1 : DataW.trod enc Try.prog W 0 (fun _ => true) true k 3 [v1] = some y1 := by
        have q := hf 1 _ rfl
        simp only [show Try.prog.cellsOf 3 = 1 by kernel_rfl, List.drop_zero, List.drop_succ_cons, List.take_succ_cons, List.take_zero, List.getElem?_cons_zero, List.getElem?_cons_succ] at q
        exact q
      have g2 : DataW.trod enc Try.prog W 0 (fun _ => true) true k 39 [v2, v3] = some y2 := by
        have q := hf 2 _ rfl
        simp only [show Try.prog.cellsOf 39 = 2 by kernel_rfl, List.drop_zero, List.drop_succ_cons, List.take_succ_cons, List.take_zero, List.getElem?_cons_zero, List.getElem?_cons_succ] at q
        exact q
      obtain ⟨x0, q0, _⟩ := in_int g0
      simp only [List.cons.injEq, and_true] at q0
      obtain rfl := q0
      obtain ⟨x1, q1, _⟩ := in_int g1
      simp only [List.cons.injEq, and_true] at q1
      obtain rfl := q1
      obtain ⟨x2, x3, q2, _⟩ := in_cell g2
      simp only [List.cons.injEq, and_true] at q2
      obtain ⟨rfl, rfl⟩ := q2
      exact ⟨(x0, x1, (x2, x3)), rfl⟩
theorem in_ops {H : Type} {enc : TypeId × Value → H} {W : World} {fuel : Nat} {v : Value} {d : DataW H × List MemPlace} (h : DataW.trod enc Try.prog W 0 (fun _ => true) true fuel 27 [v] = some d) (hw : Wt 27 d.1) :
    ∃ xs, ListAt 4 opEl (Old W) xs v W ∧ xs.length ≤ 4398046511104 := by
  obtain ⟨xs, h1, _, h3⟩ := in_list opEl (fun _ => True) 4 (by decide) 27 41 Try.underlying27 (by kernel_rfl) (fun n cs d hl h _ => by
    obtain ⟨x, rfl⟩ := in_op h
    exact ⟨x, rfl, trivial⟩) h hw
  rw [show Try.prog.bytesOf 41 = 32 by kernel_rfl] at h3
  unfold reachBytes at h3
  exact ⟨xs, h1, by omega⟩
end Go.Proofs.Ytabbdclpjghdbaa.Stk
