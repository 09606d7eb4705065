/-
  Structs that came in, opened field by field.
-/
import Derived.Test.YthdgpadakmdlkaaCodecOpen
namespace Go.Proofs.Ythdgpadakmdlkaa.Codec
set_option linter.unusedVariables false
set_option linter.unusedSimpArgs false
open Go Go.RowKit Go.ChangeShapes Go.WideShapes Go.ChangeAt
theorem elInt {H : Type} {enc : TypeId × Value → H} {W : World} (n : Nat) (cs : List Value) (d : DataW H × List MemPlace) (hl : cs.length = 1) (h : DataW.trod enc Try.prog W 0 (fun _ => true) true n 3 cs = some d) : ∃ x, intEl (Old W) x cs.toArray W ∧ cNum.ok x ∧ (cNum.put x).length ≤ 10 * Rows.uptoBulk d.1 := by
  obtain ⟨x, rfl, o, l⟩ := up_int h
  exact ⟨x, rfl, o, l⟩
set_option maxRecDepth 100000 in
theorem upCell {H : Type} {enc : TypeId × Value → H} {W : World} {n : Nat} {cs : List Value} {d : DataW H × List MemPlace} (h : DataW.trod enc Try.prog W 0 (fun _ => true) true n 23 cs = some d) :
    ∃ x0 x1, cs = [.int .i64 x0, .int .i64 x1] ∧ cCell.ok (x0, x1) ∧ (cCell.put (x0, x1)).length ≤ 10 * Rows.uptoBulk d.1 := by
  obtain ⟨xs, k, hk, hxy, hlen, hxl, hf⟩ := DataW.trod_struct Try.underlying23 h
  rw [show Try.prog.cellsOf 23 = 2 by kernel_rfl] at hlen
  match cs, hlen with
  | [v0, v1], _ =>
    match xs, hxl with
    | [y0, y1], _ =>
      have g0 : DataW.trod enc Try.prog W 0 (fun _ => true) true k 3 [v0] = some y0 := by
        have q := hf 0 _ rfl
        simp only [show Try.prog.cellsOf 3 = 1 by kernel_rfl, List.drop_zero, List.drop_succ_cons, List.take_succ_cons, List.take_zero, List.getElem?_cons_zero, List.getElem?_cons_succ] at q
        exact q
      have g1 : DataW.trod enc Try.prog W 0 (fun _ => true) true k 3 [v1] = some y1 := by
        have q := hf 1 _ rfl
        simp only [show Try.prog.cellsOf 3 = 1 by kernel_rfl, List.drop_zero, List.drop_succ_cons, List.take_succ_cons, List.take_zero, List.getElem?_cons_zero, List.getElem?_cons_succ] at q
        exact q
      obtain ⟨x0, q0, o0, b0⟩ := up_int g0
      simp only [List.cons.injEq, and_true] at q0
      obtain rfl := q0
      obtain ⟨x1, q1, o1, b1⟩ := up_int g1
      simp only [List.cons.injEq, and_true] at q1
      obtain rfl := q1
      refine ⟨x0, x1, rfl, ⟨o0, o1⟩, ?_⟩
      · have e : cCell.put (x0, x1) = num x0 ++ (num x1) := rfl
        rw [e, hxy]
        simp only [Rows.uptoBulk, Rows.uptoBulkAll, List.map_cons, List.map_nil, List.length_append]
        omega
set_option maxRecDepth 100000 in
theorem upPose {H : Type} {enc : TypeId × Value → H} {W : World} {n : Nat} {cs : List Value} {d : DataW H × List MemPlace} (h : DataW.trod enc Try.prog W 0 (fun _ => true) true n 25 cs = some d) :
    ∃ x0 x1 x2, cs = [.int .i64 x0, .int .i64 x1, .bool x2] ∧ cPose.ok ((x0, x1), x2) ∧ (cPose.put ((x0, x1), x2)).length ≤ 10 * Rows.uptoBulk d.1 := by
  obtain ⟨xs, k, hk, hxy, hlen, hxl, hf⟩ := DataW.trod_struct Try.underlying25 h
  rw [show Try.prog.cellsOf 25 = 3 by kernel_rfl] at hlen
  match cs, hlen with
  | [v0, v1, v2], _ =>
    match xs, hxl with
    | [y0, y1], _ =>
      have g0 : DataW.trod enc Try.prog W 0 (fun _ => true) true k 23 [v0, v1] = some y0 := by
        have q := hf 0 _ rfl
        simp only [show Try.prog.cellsOf 23 = 2 by kernel_rfl, List.drop_zero, List.drop_succ_cons, List.take_succ_cons, List.take_zero, List.getElem?_cons_zero, List.getElem?_cons_succ] at q
        exact q
      have g1 : DataW.trod enc Try.prog W 0 (fun _ => true) true k 4 [v2] = some y1 := by
        have q := hf 1 _ rfl
        simp only [show Try.prog.cellsOf 4 = 1 by kernel_rfl, List.drop_zero, List.drop_succ_cons, List.take_succ_cons, List.take_zero, List.getElem?_cons_zero, List.getElem?_cons_succ] at q
        exact q
      obtain ⟨x0, x1, q0, o0, b0⟩ := upCell g0
      simp only [List.cons.injEq, and_true] at q0
      obtain ⟨rfl, rfl⟩ := q0
      obtain ⟨x2, q1, b1⟩ := up_bool g1
      have o1 : cFlag.ok x2 := trivial
      simp only [List.cons.injEq, and_true] at q1
      obtain rfl := q1
      refine ⟨x0, x1, x2, rfl, ⟨o0, o1⟩, ?_⟩
      · have e : cPose.put ((x0, x1), x2) = cCell.put (x0, x1) ++ (cFlag.put x2) := rfl
        rw [e, hxy]
        simp only [Rows.uptoBulk, Rows.uptoBulkAll, List.map_cons, List.map_nil, List.length_append]
        omega
set_option maxRecDepth 100000 in
theorem upMove {H : Type} {enc : TypeId × Value → H} {W : World} {n : Nat} {cs : List Value} {d : DataW H × List MemPlace} (h : DataW.trod enc Try.prog W 0 (fun _ => true) true n 42 cs = some d) :
    ∃ x0 x1 x2 x3 x4 x5 x6 x7 x8 x9 x10, cs = [.int .i64 x0, .int .i64 x1, .int .i64 x2, .int .i64 x3, .int .i64 x4, .bool x5, .int .i64 x6, .int .i64 x7, .bool x8, .int .i64 x9, .int .i64 x10] ∧ cMove.ok (x0, x1, x2, ((x3, x4), x5), ((x6, x7), x8), x9, x10) ∧ (cMove.put (x0, x1, x2, ((x3, x4), x5), ((x6, x7), x8), x9, x10)).length ≤ 10 * Rows.uptoBulk d.1 := by
  obtain ⟨xs, k, hk, hxy, hlen, hxl, hf⟩ := DataW.trod_struct Try.underlying42 h
  rw [show Try.prog.cellsOf 42 = 11 by kernel_rfl] at hlen
  match cs, hlen with
  | [v0, v1, v2, v3, v4, v5, v6, v7, v8, v9, v10], _ =>
    match xs, hxl with
    | [y0, y1, y2, y3, y4, y5, y6], _ =>
      have g0 : DataW.trod enc Try.prog W 0 (fun _ => true) true k 3 [v0] = some y0 := by
        have q := hf 0 _ rfl
        simp only [show Try.prog.cellsOf 3 = 1 by kernel_rfl, List.drop_zero, List.drop_succ_cons, List.take_succ_cons, List.take_zero, List.getElem?_cons_zero, List.getElem?_cons_succ] at q
        exact q
      have g1 : DataW.trod enc Try.prog W 0 (fun _ => true) true k 3 [v1] = some y1 := by
        have q := hf 1 _ rfl
        simp only [show Try.prog.cellsOf 3 = 1 by kernel_rfl, List.drop_zero, List.drop_succ_cons, List.take_succ_cons, List.take_zero, List.getElem?_cons_zero, List.getElem?_cons_succ] at q
        exact q
      have g2 : DataW.trod enc Try.prog W 0 (fun _ => true) true k 3 [v2] = some y2 := by
        have q := hf 2 _ rfl
        simp only [show Try.prog.cellsOf 3 = 1 by kernel_rfl, List.drop_zero, List.drop_succ_cons, List.take_succ_cons, List.take_zero, List.getElem?_cons_zero, List.getElem?_cons_succ] at q
        exact q
      have g3 : DataW.trod enc Try.prog W 0 (fun _ => true) true k 25 [v3, v4, v5] = some y3 := by
        have q := hf 3 _ rfl
        simp only [show Try.prog.cellsOf 25 = 3 by kernel_rfl, List.drop_zero, List.drop_succ_cons, List.take_succ_cons, List.take_zero, List.getElem?_cons_zero, List.getElem?_cons_succ] at q
        exact q
      have g4 : DataW.trod enc Try.prog W 0 (fun _ => true) true k 25 [v6, v7, v8] = some y4 := by
        have q := hf 4 _ rfl
        simp only [show Try.prog.cellsOf 25 = 3 by kernel_rfl, List.drop_zero, List.drop_succ_cons, List.take_succ_cons, List.take_zero, List.getElem?_cons_zero, List.getElem?_cons_succ] at q
        exact q
      have g5 : DataW.trod enc Try.prog W 0 (fun _ => true) true k 3 [v9] = some y5 := by
        have q := hf 5 _ rfl
        simp only [show Try.prog.cellsOf 3 = 1 by kernel_rfl, List.drop_zero, List.drop_succ_cons, List.take_succ_cons, List.take_zero, List.getElem?_cons_zero, List.getElem?_cons_succ] at q
        exact q
      have g6 : DataW.trod enc Try.prog W 0 (fun _ => true) true k 3 [v10] = some y6 := by
        have q := hf 6 _ rfl
        simp only [show Try.prog.cellsOf 3 = 1 by kernel_rfl, List.drop_zero, List.drop_succ_cons, List.take_succ_cons, List.take_zero, List.getElem?_cons_zero, List.getElem?_cons_succ] at q
        exact q
      obtain ⟨x0, q0, o0, b0⟩ := up_int g0
      simp only [List.cons.injEq, and_true] at q0
      obtain rfl := q0
      obtain ⟨x1, q1, o1, b1⟩ := up_int g1
      simp only [List.cons.injEq, and_true] at q1
      obtain rfl := q1
      obtain ⟨x2, q2, o2, b2⟩ := up_int g2
      simp only [List.cons.injEq, and_true] at q2
      obtain rfl := q2
      obtain ⟨x3, x4, x5, q3, o3, b3⟩ := upPose g3
      simp only [List.cons.injEq, and_true] at q3
      obtain ⟨rfl, rfl, rfl⟩ := q3
      obtain ⟨x6, x7, x8, q4, o4, b4⟩ := upPose g4
      simp only [List.cons.injEq, and_true] at q4
      obtain ⟨rfl, rfl, rfl⟩ := q4
      obtain ⟨x9, q5, o5, b5⟩ := up_int g5
      simp only [List.cons.injEq, and_true] at q5
      obtain rfl := q5
      obtain ⟨x10, q6, o6, b6⟩ := up_int g6
      simp only [List.cons.injEq, and_true] at q6
      obtain rfl := q6
      refine ⟨x0, x1, x2, x3, x4, x5, x6, x7, x8, x9, x10, rfl, ⟨o0, o1, o2, o3, o4, o5, o6⟩, ?_⟩
      · have e : cMove.put (x0, x1, x2, ((x3, x4), x5), ((x6, x7), x8), x9, x10) = num x0 ++ (num x1 ++ (num x2 ++ (cPose.put ((x3, x4), x5) ++ (cPose.put ((x6, x7), x8) ++ (num x9 ++ (num x10)))))) := rfl
        rw [e, hxy]
        simp only [Rows.uptoBulk, Rows.uptoBulkAll, List.map_cons, List.map_nil, List.length_append]
        omega
theorem elMove {H : Type} {enc : TypeId × Value → H} {W : World} (n : Nat) (cs : List Value) (d : DataW H × List MemPlace) (hl : cs.length = 11) (h : DataW.trod enc Try.prog W 0 (fun _ => true) true n 42 cs = some d) : ∃ x, moveEl (Old W) x cs.toArray W ∧ cMove.ok x ∧ (cMove.put x).length ≤ 10 * Rows.uptoBulk d.1 := by
  obtain ⟨x0, x1, x2, x3, x4, x5, x6, x7, x8, x9, x10, rfl, o, l⟩ := upMove h
  exact ⟨(x0, x1, x2, ((x3, x4), x5), ((x6, x7), x8), x9, x10), rfl, o, l⟩
set_option maxRecDepth 100000 in
theorem upOp {H : Type} {enc : TypeId × Value → H} {W : World} {n : Nat} {cs : List Value} {d : DataW H × List MemPlace} (h : DataW.trod enc Try.prog W 0 (fun _ => true) true n 81 cs = some d) :
    ∃ x0 x1 x2, cs = [.int .i64 x0, .int .i64 x1, .int .i64 x2] ∧ cOp.ok (x0, x1, x2) ∧ (cOp.put (x0, x1, x2)).length ≤ 10 * Rows.uptoBulk d.1 := by
  obtain ⟨xs, k, hk, hxy, hlen, hxl, hf⟩ := DataW.trod_struct Try.underlying81 h
  rw [show Try.prog.cellsOf 81 = 3 by kernel_rfl] at hlen
  match cs, hlen with
  | [v0, v1, v2], _ =>
    match xs, hxl with
    | [y0, y1, y2], _ =>
      have g0 : DataW.trod enc Try.prog W 0 (fun _ => true) true k 3 [v0] = some y0 := by
        have q := hf 0 _ rfl
        simp only [show Try.prog.cellsOf 3 = 1 by kernel_rfl, List.drop_zero, List.drop_succ_cons, List.take_succ_cons, List.take_zero, List.getElem?_cons_zero, List.getElem?_cons_succ] at q
        exact q
      have g1 : DataW.trod enc Try.prog W 0 (fun _ => true) true k 3 [v1] = some y1 := by
        have q := hf 1 _ rfl
        simp only [show Try.prog.cellsOf 3 = 1 by kernel_rfl, List.drop_zero, List.drop_succ_cons, List.take_succ_cons, List.take_zero, List.getElem?_cons_zero, List.getElem?_cons_succ] at q
        exact q
      have g2 : DataW.trod enc Try.prog W 0 (fun _ => true) true k 3 [v2] = some y2 := by
        have q := hf 2 _ rfl
        simp only [show Try.prog.cellsOf 3 = 1 by kernel_rfl, List.drop_zero, List.drop_succ_cons, List.take_succ_cons, List.take_zero, List.getElem?_cons_zero, List.getElem?_cons_succ] at q
        exact q
      obtain ⟨x0, q0, o0, b0⟩ := up_int g0
      simp only [List.cons.injEq, and_true] at q0
      obtain rfl := q0
      obtain ⟨x1, q1, o1, b1⟩ := up_int g1
      simp only [List.cons.injEq, and_true] at q1
      obtain rfl := q1
      obtain ⟨x2, q2, o2, b2⟩ := up_int g2
      simp only [List.cons.injEq, and_true] at q2
      obtain rfl := q2
      refine ⟨x0, x1, x2, rfl, ⟨o0, o1, o2⟩, ?_⟩
      · have e : cOp.put (x0, x1, x2) = num x0 ++ (num x1 ++ (num x2)) := rfl
        rw [e, hxy]
        simp only [Rows.uptoBulk, Rows.uptoBulkAll, List.map_cons, List.map_nil, List.length_append]
        omega
set_option maxRecDepth 100000 in
theorem upTele {H : Type} {enc : TypeId × Value → H} {W : World} {n : Nat} {cs : List Value} {d : DataW H × List MemPlace} (h : DataW.trod enc Try.prog W 0 (fun _ => true) true n 44 cs = some d) :
    ∃ x0 x1 x2 x3 x4 x5 x6 x7 x8 x9 x10 x11 x12 x13 x14 x15 x16 x17 x18, cs = [.int .i64 x0, .int .i64 x1, .int .i64 x2, .int .i64 x3, .int .i64 x4, .int .i64 x5, .int .i64 x6, .int .i64 x7, .int .i64 x8, .bool x9, .int .i64 x10, .int .i64 x11, .bool x12, .int .i64 x13, .int .i64 x14, .int .i64 x15, .int .i64 x16, .bool x17, .int .i64 x18] ∧ cTele.ok (x0, x1, x2, x3, (x4, x5, x6, ((x7, x8), x9), ((x10, x11), x12), x13, x14), ((x15, x16), x17), x18) ∧ (cTele.put (x0, x1, x2, x3, (x4, x5, x6, ((x7, x8), x9), ((x10, x11), x12), x13, x14), ((x15, x16), x17), x18)).length ≤ 10 * Rows.uptoBulk d.1 := by
  obtain ⟨xs, k, hk, hxy, hlen, hxl, hf⟩ := DataW.trod_struct Try.underlying44 h
  rw [show Try.prog.cellsOf 44 = 19 by kernel_rfl] at hlen
  match cs, hlen with
  | [v0, v1, v2, v3, v4, v5, v6, v7, v8, v9, v10, v11, v12, v13, v14, v15, v16, v17, v18], _ =>
    match xs, hxl with
    | [y0, y1, y2, y3, y4, y5, y6], _ =>
      have g0 : DataW.trod enc Try.prog W 0 (fun _ => true) true k 3 [v0] = some y0 := by
        have q := hf 0 _ rfl
        simp only [show Try.prog.cellsOf 3 = 1 by kernel_rfl, List.drop_zero, List.drop_succ_cons, List.take_succ_cons, List.take_zero, List.getElem?_cons_zero, List.getElem?_cons_succ] at q
        exact q
      have g1 : DataW.trod enc Try.prog W 0 (fun _ => true) true k 3 [v1] = some y1 := by
        have q := hf 1 _ rfl
        simp only [show Try.prog.cellsOf 3 = 1 by kernel_rfl, List.drop_zero, List.drop_succ_cons, List.take_succ_cons, List.take_zero, List.getElem?_cons_zero, List.getElem?_cons_succ] at q
        exact q
      have g2 : DataW.trod enc Try.prog W 0 (fun _ => true) true k 3 [v2] = some y2 := by
        have q := hf 2 _ rfl
        simp only [show Try.prog.cellsOf 3 = 1 by kernel_rfl, List.drop_zero, List.drop_succ_cons, List.take_succ_cons, List.take_zero, List.getElem?_cons_zero, List.getElem?_cons_succ] at q
        exact q
      have g3 : DataW.trod enc Try.prog W 0 (fun _ => true) true k 3 [v3] = some y3 := by
        have q := hf 3 _ rfl
        simp only [show Try.prog.cellsOf 3 = 1 by kernel_rfl, List.drop_zero, List.drop_succ_cons, List.take_succ_cons, List.take_zero, List.getElem?_cons_zero, List.getElem?_cons_succ] at q
        exact q
      have g4 : DataW.trod enc Try.prog W 0 (fun _ => true) true k 42 [v4, v5, v6, v7, v8, v9, v10, v11, v12, v13, v14] = some y4 := by
        have q := hf 4 _ rfl
        simp only [show Try.prog.cellsOf 42 = 11 by kernel_rfl, List.drop_zero, List.drop_succ_cons, List.take_succ_cons, List.take_zero, List.getElem?_cons_zero, List.getElem?_cons_succ] at q
        exact q
      have g5 : DataW.trod enc Try.prog W 0 (fun _ => true) true k 25 [v15, v16, v17] = some y5 := by
        have q := hf 5 _ rfl
        simp only [show Try.prog.cellsOf 25 = 3 by kernel_rfl, List.drop_zero, List.drop_succ_cons, List.take_succ_cons, List.take_zero, List.getElem?_cons_zero, List.getElem?_cons_succ] at q
        exact q
      have g6 : DataW.trod enc Try.prog W 0 (fun _ => true) true k 3 [v18] = some y6 := by
        have q := hf 6 _ rfl
        simp only [show Try.prog.cellsOf 3 = 1 by kernel_rfl, List.drop_zero, List.drop_succ_cons, List.take_succ_cons, List.take_zero, List.getElem?_cons_zero, List.getElem?_cons_succ] at q
        exact q
      obtain ⟨x0, q0, o0, b0⟩ := up_int g0
      simp only [List.cons.injEq, and_true] at q0
      obtain rfl := q0
      obtain ⟨x1, q1, o1, b1⟩ := up_int g1
      simp only [List.cons.injEq, and_true] at q1
      obtain rfl := q1
      obtain ⟨x2, q2, o2, b2⟩ := up_int g2
      simp only [List.cons.injEq, and_true] at q2
      obtain rfl := q2
      obtain ⟨x3, q3, o3, b3⟩ := up_int g3
      simp only [List.cons.injEq, and_true] at q3
      obtain rfl := q3
      obtain ⟨x4, x5, x6, x7, x8, x9, x10, x11, x12, x13, x14, q4, o4, b4⟩ := upMove g4
      simp only [List.cons.injEq, and_true] at q4
      obtain ⟨rfl, rfl, rfl, rfl, rfl, rfl, rfl, rfl, rfl, rfl, rfl⟩ := q4
      obtain ⟨x15, x16, x17, q5, o5, b5⟩ := upPose g5
      simp only [List.cons.injEq, and_true] at q5
      obtain ⟨rfl, rfl, rfl⟩ := q5
      obtain ⟨x18, q6, o6, b6⟩ := up_int g6
      simp only [List.cons.injEq, and_true] at q6
      obtain rfl := q6
      refine ⟨x0, x1, x2, x3, x4, x5, x6, x7, x8, x9, x10, x11, x12, x13, x14, x15, x16, x17, x18, rfl, ⟨o0, o1, o2, o3, o4, o5, o6⟩, ?_⟩
      · have e : cTele.put (x0, x1, x2, x3, (x4, x5, x6, ((x7, x8), x9), ((x10, x11), x12), x13, x14), ((x15, x16), x17), x18) = num x0 ++ (num x1 ++ (num x2 ++ (num x3 ++ (cMove.put (x4, x5, x6, ((x7, x8), x9), ((x10, x11), x12), x13, x14) ++ (cPose.put ((x15, x16), x17) ++ (num x18)))))) := rfl
        rw [e, hxy]
        simp only [Rows.uptoBulk, Rows.uptoBulkAll, List.map_cons, List.map_nil, List.length_append]
        omega
set_option maxRecDepth 100000 in
theorem upOrder {H : Type} {enc : TypeId × Value → H} {W : World} {n : Nat} {cs : List Value} {d : DataW H × List MemPlace} (h : DataW.trod enc Try.prog W 0 (fun _ => true) true n 106 cs = some d) :
    ∃ x0 x1 x2 x3, cs = [.int .i64 x0, .int .i64 x1, .int .i64 x2, .int .i64 x3] ∧ cOrder.ok (x0, x1, x2, x3) ∧ (cOrder.put (x0, x1, x2, x3)).length ≤ 10 * Rows.uptoBulk d.1 := by
  obtain ⟨xs, k, hk, hxy, hlen, hxl, hf⟩ := DataW.trod_struct Try.underlying106 h
  rw [show Try.prog.cellsOf 106 = 4 by kernel_rfl] at hlen
  match cs, hlen with
  | [v0, v1, v2, v3], _ =>
    match xs, hxl with
    | [y0, y1, y2, y3], _ =>
      have g0 : DataW.trod enc Try.prog W 0 (fun _ => true) true k 3 [v0] = some y0 := by
        have q := hf 0 _ rfl
        simp only [show Try.prog.cellsOf 3 = 1 by kernel_rfl, List.drop_zero, List.drop_succ_cons, List.take_succ_cons, List.take_zero, List.getElem?_cons_zero, List.getElem?_cons_succ] at q
        exact q
      have g1 : DataW.trod enc Try.prog W 0 (fun _ => true) true k 3 [v1] = some y1 := by
        have q := hf 1 _ rfl
        simp only [show Try.prog.cellsOf 3 = 1 by kernel_rfl, List.drop_zero, List.drop_succ_cons, List.take_succ_cons, List.take_zero, List.getElem?_cons_zero, List.getElem?_cons_succ] at q
        exact q
      have g2 : DataW.trod enc Try.prog W 0 (fun _ => true) true k 3 [v2] = some y2 := by
        have q := hf 2 _ rfl
        simp only [show Try.prog.cellsOf 3 = 1 by kernel_rfl, List.drop_zero, List.drop_succ_cons, List.take_succ_cons, List.take_zero, List.getElem?_cons_zero, List.getElem?_cons_succ] at q
        exact q
      have g3 : DataW.trod enc Try.prog W 0 (fun _ => true) true k 3 [v3] = some y3 := by
        have q := hf 3 _ rfl
        simp only [show Try.prog.cellsOf 3 = 1 by kernel_rfl, List.drop_zero, List.drop_succ_cons, List.take_succ_cons, List.take_zero, List.getElem?_cons_zero, List.getElem?_cons_succ] at q
        exact q
      obtain ⟨x0, q0, o0, b0⟩ := up_int g0
      simp only [List.cons.injEq, and_true] at q0
      obtain rfl := q0
      obtain ⟨x1, q1, o1, b1⟩ := up_int g1
      simp only [List.cons.injEq, and_true] at q1
      obtain rfl := q1
      obtain ⟨x2, q2, o2, b2⟩ := up_int g2
      simp only [List.cons.injEq, and_true] at q2
      obtain rfl := q2
      obtain ⟨x3, q3, o3, b3⟩ := up_int g3
      simp only [List.cons.injEq, and_true] at q3
      obtain rfl := q3
      refine ⟨x0, x1, x2, x3, rfl, ⟨o0, o1, o2, o3⟩, ?_⟩
      · have e : cOrder.put (x0, x1, x2, x3) = num x0 ++ (num x1 ++ (num x2 ++ (num x3))) := rfl
        rw [e, hxy]
        simp only [Rows.uptoBulk, Rows.uptoBulkAll, List.map_cons, List.map_nil, List.length_append]
        omega
theorem elOrder {H : Type} {enc : TypeId × Value → H} {W : World} (n : Nat) (cs : List Value) (d : DataW H × List MemPlace) (hl : cs.length = 4) (h : DataW.trod enc Try.prog W 0 (fun _ => true) true n 106 cs = some d) : ∃ x, orderEl (Old W) x cs.toArray W ∧ cOrder.ok x ∧ (cOrder.put x).length ≤ 10 * Rows.uptoBulk d.1 := by
  obtain ⟨x0, x1, x2, x3, rfl, o, l⟩ := upOrder h
  exact ⟨(x0, x1, x2, x3), rfl, o, l⟩
set_option maxRecDepth 100000 in
theorem upJob {H : Type} {enc : TypeId × Value → H} {W : World} {n : Nat} {cs : List Value} {d : DataW H × List MemPlace} (h : DataW.trod enc Try.prog W 0 (fun _ => true) true n 108 cs = some d) :
    ∃ x0 x1 x2 x3 x4 x5 x6 x7 x8, cs = [.int .i64 x0, .int .i64 x1, .int .i64 x2, .int .i64 x3, .int .i64 x4, .int .i64 x5, .int .i64 x6, .int .i64 x7, .int .i64 x8] ∧ cJob.ok (x0, x1, x2, x3, (x4, x5), (x6, x7), x8) ∧ (cJob.put (x0, x1, x2, x3, (x4, x5), (x6, x7), x8)).length ≤ 10 * Rows.uptoBulk d.1 := by
  obtain ⟨xs, k, hk, hxy, hlen, hxl, hf⟩ := DataW.trod_struct Try.underlying108 h
  rw [show Try.prog.cellsOf 108 = 9 by kernel_rfl] at hlen
  match cs, hlen with
  | [v0, v1, v2, v3, v4, v5, v6, v7, v8], _ =>
    match xs, hxl with
    | [y0, y1, y2, y3, y4, y5, y6], _ =>
      have g0 : DataW.trod enc Try.prog W 0 (fun _ => true) true k 3 [v0] = some y0 := by
        have q := hf 0 _ rfl
        simp only [show Try.prog.cellsOf 3 = 1 by kernel_rfl, List.drop_zero, List.drop_succ_cons, List.take_succ_cons, List.take_zero, List.getElem?_cons_zero, List.getElem?_cons_succ] at q
        exact q
      have g1 : DataW.trod enc Try.prog W 0 (fun _ => true) true k 3 [v1] = some y1 := by
        have q := hf 1 _ rfl
        simp only [show Try.prog.cellsOf 3 = 1 by kernel_rfl, List.drop_zero, List.drop_succ_cons, List.take_succ_cons, List.take_zero, List.getElem?_cons_zero, List.getElem?_cons_succ] at q
        exact q
      have g2 : DataW.trod enc Try.prog W 0 (fun _ => true) true k 3 [v2] = some y2 := by
        have q := hf 2 _ rfl
        simp only [show Try.prog.cellsOf 3 = 1 by kernel_rfl, List.drop_zero, List.drop_succ_cons, List.take_succ_cons, List.take_zero, List.getElem?_cons_zero, List.getElem?_cons_succ] at q
        exact q
      have g3 : DataW.trod enc Try.prog W 0 (fun _ => true) true k 3 [v3] = some y3 := by
        have q := hf 3 _ rfl
        simp only [show Try.prog.cellsOf 3 = 1 by kernel_rfl, List.drop_zero, List.drop_succ_cons, List.take_succ_cons, List.take_zero, List.getElem?_cons_zero, List.getElem?_cons_succ] at q
        exact q
      have g4 : DataW.trod enc Try.prog W 0 (fun _ => true) true k 23 [v4, v5] = some y4 := by
        have q := hf 4 _ rfl
        simp only [show Try.prog.cellsOf 23 = 2 by kernel_rfl, List.drop_zero, List.drop_succ_cons, List.take_succ_cons, List.take_zero, List.getElem?_cons_zero, List.getElem?_cons_succ] at q
        exact q
      have g5 : DataW.trod enc Try.prog W 0 (fun _ => true) true k 23 [v6, v7] = some y5 := by
        have q := hf 5 _ rfl
        simp only [show Try.prog.cellsOf 23 = 2 by kernel_rfl, List.drop_zero, List.drop_succ_cons, List.take_succ_cons, List.take_zero, List.getElem?_cons_zero, List.getElem?_cons_succ] at q
        exact q
      have g6 : DataW.trod enc Try.prog W 0 (fun _ => true) true k 3 [v8] = some y6 := by
        have q := hf 6 _ rfl
        simp only [show Try.prog.cellsOf 3 = 1 by kernel_rfl, List.drop_zero, List.drop_succ_cons, List.take_succ_cons, List.take_zero, List.getElem?_cons_zero, List.getElem?_cons_succ] at q
        exact q
      obtain ⟨x0, q0, o0, b0⟩ := up_int g0
      simp only [List.cons.injEq, and_true] at q0
      obtain rfl := q0
      obtain ⟨x1, q1, o1, b1⟩ := up_int g1
      simp only [List.cons.injEq, and_true] at q1
      obtain rfl := q1
      obtain ⟨x2, q2, o2, b2⟩ := up_int g2
      simp only [List.cons.injEq, and_true] at q2
      obtain rfl := q2
      obtain ⟨x3, q3, o3, b3⟩ := up_int g3
      simp only [List.cons.injEq, and_true] at q3
      obtain rfl := q3
      obtain ⟨x4, x5, q4, o4, b4⟩ := upCell g4
      simp only [List.cons.injEq, and_true] at q4
      obtain ⟨rfl, rfl⟩ := q4
      obtain ⟨x6, x7, q5, o5, b5⟩ := upCell g5
      simp only [List.cons.injEq, and_true] at q5
      obtain ⟨rfl, rfl⟩ := q5
      obtain ⟨x8, q6, o6, b6⟩ := up_int g6
      simp only [List.cons.injEq, and_true] at q6
      obtain rfl := q6
      refine ⟨x0, x1, x2, x3, x4, x5, x6, x7, x8, rfl, ⟨o0, o1, o2, o3, o4, o5, o6⟩, ?_⟩
      · have e : cJob.put (x0, x1, x2, x3, (x4, x5), (x6, x7), x8) = num x0 ++ (num x1 ++ (num x2 ++ (num x3 ++ (cCell.put (x4, x5) ++ (cCell.put (x6, x7) ++ (num x8)))))) := rfl
        rw [e, hxy]
        simp only [Rows.uptoBulk, Rows.uptoBulkAll, List.map_cons, List.map_nil, List.length_append]
        omega
theorem elJob {H : Type} {enc : TypeId × Value → H} {W : World} (n : Nat) (cs : List Value) (d : DataW H × List MemPlace) (hl : cs.length = 9) (h : DataW.trod enc Try.prog W 0 (fun _ => true) true n 108 cs = some d) : ∃ x, jobEl (Old W) x cs.toArray W ∧ cJob.ok x ∧ (cJob.put x).length ≤ 10 * Rows.uptoBulk d.1 := by
  obtain ⟨x0, x1, x2, x3, x4, x5, x6, x7, x8, rfl, o, l⟩ := upJob h
  exact ⟨(x0, x1, x2, x3, (x4, x5), (x6, x7), x8), rfl, o, l⟩
set_option maxRecDepth 100000 in
theorem upStack {H : Type} {enc : TypeId × Value → H} {W : World} {n : Nat} {cs : List Value} {d : DataW H × List MemPlace} (h : DataW.trod enc Try.prog W 0 (fun _ => true) true n 99 cs = some d) :
    ∃ x, stackEl (Old W) x cs.toArray W ∧ cStack.ok x ∧ (cStack.put x).length ≤ 10 * Rows.uptoBulk d.1 := by
  obtain ⟨xs, k, hk, hxy, hlen, hxl, hf⟩ := DataW.trod_struct Try.underlying99 h
  rw [show Try.prog.cellsOf 99 = 3 by kernel_rfl] at hlen
  match cs, hlen with
  | [v0, v1, v2], _ =>
    match xs, hxl with
    | [y0, y1], _ =>
      have g0 : DataW.trod enc Try.prog W 0 (fun _ => true) true k 23 [v0, v1] = some y0 := by
        have q := hf 0 _ rfl
        simp only [show Try.prog.cellsOf 23 = 2 by kernel_rfl, List.drop_zero, List.drop_succ_cons, List.take_succ_cons, List.take_zero, List.getElem?_cons_zero, List.getElem?_cons_succ] at q
        exact q
      have g1 : DataW.trod enc Try.prog W 0 (fun _ => true) true k 96 [v2] = some y1 := by
        have q := hf 1 _ rfl
        simp only [show Try.prog.cellsOf 96 = 1 by kernel_rfl, List.drop_zero, List.drop_succ_cons, List.take_succ_cons, List.take_zero, List.getElem?_cons_zero, List.getElem?_cons_succ] at q
        exact q
      obtain ⟨x0, x1, q0, o0, b0⟩ := upCell g0
      simp only [List.cons.injEq, and_true] at q0
      obtain ⟨rfl, rfl⟩ := q0
      obtain ⟨l2, e1, o1, b1⟩ := up_list cNum intEl 1 (by decide) 96 3 Try.underlying96 (by kernel_rfl) (fun n cs d hl h => elInt n cs d hl h) g1
      refine ⟨((x0, x1), l2), ⟨_, rfl, e1⟩, ⟨o0, o1⟩, ?_⟩
      · have e : cStack.put ((x0, x1), l2) = cCell.put (x0, x1) ++ ((list cNum).put l2) := rfl
        rw [e, hxy]
        simp only [Rows.uptoBulk, Rows.uptoBulkAll, List.map_cons, List.map_nil, List.length_append]
        omega
theorem elStack {H : Type} {enc : TypeId × Value → H} {W : World} (n : Nat) (cs : List Value) (d : DataW H × List MemPlace) (hl : cs.length = 3) (h : DataW.trod enc Try.prog W 0 (fun _ => true) true n 99 cs = some d) : ∃ x, stackEl (Old W) x cs.toArray W ∧ cStack.ok x ∧ (cStack.put x).length ≤ 10 * Rows.uptoBulk d.1 := upStack h
set_option maxRecDepth 100000 in
theorem upPort {H : Type} {enc : TypeId × Value → H} {W : World} {n : Nat} {cs : List Value} {d : DataW H × List MemPlace} (h : DataW.trod enc Try.prog W 0 (fun _ => true) true n 104 cs = some d) :
    ∃ x, portEl (Old W) x cs.toArray W ∧ cPort.ok x ∧ (cPort.put x).length ≤ 10 * Rows.uptoBulk d.1 := by
  obtain ⟨xs, k, hk, hxy, hlen, hxl, hf⟩ := DataW.trod_struct Try.underlying104 h
  rw [show Try.prog.cellsOf 104 = 3 by kernel_rfl] at hlen
  match cs, hlen with
  | [v0, v1, v2], _ =>
    match xs, hxl with
    | [y0, y1, y2], _ =>
      have g0 : DataW.trod enc Try.prog W 0 (fun _ => true) true k 3 [v0] = some y0 := by
        have q := hf 0 _ rfl
        simp only [show Try.prog.cellsOf 3 = 1 by kernel_rfl, List.drop_zero, List.drop_succ_cons, List.take_succ_cons, List.take_zero, List.getElem?_cons_zero, List.getElem?_cons_succ] at q
        exact q
      have g1 : DataW.trod enc Try.prog W 0 (fun _ => true) true k 3 [v1] = some y1 := by
        have q := hf 1 _ rfl
        simp only [show Try.prog.cellsOf 3 = 1 by kernel_rfl, List.drop_zero, List.drop_succ_cons, List.take_succ_cons, List.take_zero, List.getElem?_cons_zero, List.getElem?_cons_succ] at q
        exact q
      have g2 : DataW.trod enc Try.prog W 0 (fun _ => true) true k 96 [v2] = some y2 := by
        have q := hf 2 _ rfl
        simp only [show Try.prog.cellsOf 96 = 1 by kernel_rfl, List.drop_zero, List.drop_succ_cons, List.take_succ_cons, List.take_zero, List.getElem?_cons_zero, List.getElem?_cons_succ] at q
        exact q
      obtain ⟨x0, q0, o0, b0⟩ := up_int g0
      simp only [List.cons.injEq, and_true] at q0
      obtain rfl := q0
      obtain ⟨x1, q1, o1, b1⟩ := up_int g1
      simp only [List.cons.injEq, and_true] at q1
      obtain rfl := q1
      obtain ⟨l2, e2, o2, b2⟩ := up_list cNum intEl 1 (by decide) 96 3 Try.underlying96 (by kernel_rfl) (fun n cs d hl h => elInt n cs d hl h) g2
      refine ⟨(x0, x1, l2), ⟨_, rfl, e2⟩, ⟨o0, o1, o2⟩, ?_⟩
      · have e : cPort.put (x0, x1, l2) = num x0 ++ (num x1 ++ ((list cNum).put l2)) := rfl
        rw [e, hxy]
        simp only [Rows.uptoBulk, Rows.uptoBulkAll, List.map_cons, List.map_nil, List.length_append]
        omega
theorem elPort {H : Type} {enc : TypeId × Value → H} {W : World} (n : Nat) (cs : List Value) (d : DataW H × List MemPlace) (hl : cs.length = 3) (h : DataW.trod enc Try.prog W 0 (fun _ => true) true n 104 cs = some d) : ∃ x, portEl (Old W) x cs.toArray W ∧ cPort.ok x ∧ (cPort.put x).length ≤ 10 * Rows.uptoBulk d.1 := upPort h
set_option maxRecDepth 100000 in
theorem upRobot {H : Type} {enc : TypeId × Value → H} {W : World} {n : Nat} {cs : List Value} {d : DataW H × List MemPlace} (h : DataW.trod enc Try.prog W 0 (fun _ => true) true n 101 cs = some d) :
    ∃ x, robotEl (Old W) x cs.toArray W ∧ cRobot.ok x ∧ (cRobot.put x).length ≤ 10 * Rows.uptoBulk d.1 := by
  obtain ⟨xs, k, hk, hxy, hlen, hxl, hf⟩ := DataW.trod_struct Try.underlying101 h
  rw [show Try.prog.cellsOf 101 = 9 by kernel_rfl] at hlen
  match cs, hlen with
  | [v0, v1, v2, v3, v4, v5, v6, v7, v8], _ =>
    match xs, hxl with
    | [y0, y1, y2, y3, y4, y5, y6], _ =>
      have g0 : DataW.trod enc Try.prog W 0 (fun _ => true) true k 25 [v0, v1, v2] = some y0 := by
        have q := hf 0 _ rfl
        simp only [show Try.prog.cellsOf 25 = 3 by kernel_rfl, List.drop_zero, List.drop_succ_cons, List.take_succ_cons, List.take_zero, List.getElem?_cons_zero, List.getElem?_cons_succ] at q
        exact q
      have g1 : DataW.trod enc Try.prog W 0 (fun _ => true) true k 3 [v3] = some y1 := by
        have q := hf 1 _ rfl
        simp only [show Try.prog.cellsOf 3 = 1 by kernel_rfl, List.drop_zero, List.drop_succ_cons, List.take_succ_cons, List.take_zero, List.getElem?_cons_zero, List.getElem?_cons_succ] at q
        exact q
      have g2 : DataW.trod enc Try.prog W 0 (fun _ => true) true k 3 [v4] = some y2 := by
        have q := hf 2 _ rfl
        simp only [show Try.prog.cellsOf 3 = 1 by kernel_rfl, List.drop_zero, List.drop_succ_cons, List.take_succ_cons, List.take_zero, List.getElem?_cons_zero, List.getElem?_cons_succ] at q
        exact q
      have g3 : DataW.trod enc Try.prog W 0 (fun _ => true) true k 26 [v5] = some y3 := by
        have q := hf 3 _ rfl
        simp only [show Try.prog.cellsOf 26 = 1 by kernel_rfl, List.drop_zero, List.drop_succ_cons, List.take_succ_cons, List.take_zero, List.getElem?_cons_zero, List.getElem?_cons_succ] at q
        exact q
      have g4 : DataW.trod enc Try.prog W 0 (fun _ => true) true k 4 [v6] = some y4 := by
        have q := hf 4 _ rfl
        simp only [show Try.prog.cellsOf 4 = 1 by kernel_rfl, List.drop_zero, List.drop_succ_cons, List.take_succ_cons, List.take_zero, List.getElem?_cons_zero, List.getElem?_cons_succ] at q
        exact q
      have g5 : DataW.trod enc Try.prog W 0 (fun _ => true) true k 3 [v7] = some y5 := by
        have q := hf 5 _ rfl
        simp only [show Try.prog.cellsOf 3 = 1 by kernel_rfl, List.drop_zero, List.drop_succ_cons, List.take_succ_cons, List.take_zero, List.getElem?_cons_zero, List.getElem?_cons_succ] at q
        exact q
      have g6 : DataW.trod enc Try.prog W 0 (fun _ => true) true k 4 [v8] = some y6 := by
        have q := hf 6 _ rfl
        simp only [show Try.prog.cellsOf 4 = 1 by kernel_rfl, List.drop_zero, List.drop_succ_cons, List.take_succ_cons, List.take_zero, List.getElem?_cons_zero, List.getElem?_cons_succ] at q
        exact q
      obtain ⟨x0, x1, x2, q0, o0, b0⟩ := upPose g0
      simp only [List.cons.injEq, and_true] at q0
      obtain ⟨rfl, rfl, rfl⟩ := q0
      obtain ⟨x3, q1, o1, b1⟩ := up_int g1
      simp only [List.cons.injEq, and_true] at q1
      obtain rfl := q1
      obtain ⟨x4, q2, o2, b2⟩ := up_int g2
      simp only [List.cons.injEq, and_true] at q2
      obtain rfl := q2
      obtain ⟨l5, e3, o3, b3⟩ := up_list cMove moveEl 11 (by decide) 26 42 Try.underlying26 (by kernel_rfl) (fun n cs d hl h => elMove n cs d hl h) g3
      obtain ⟨x6, q4, b4⟩ := up_bool g4
      have o4 : cFlag.ok x6 := trivial
      simp only [List.cons.injEq, and_true] at q4
      obtain rfl := q4
      obtain ⟨x7, q5, o5, b5⟩ := up_int g5
      simp only [List.cons.injEq, and_true] at q5
      obtain rfl := q5
      obtain ⟨x8, q6, b6⟩ := up_bool g6
      have o6 : cFlag.ok x8 := trivial
      simp only [List.cons.injEq, and_true] at q6
      obtain rfl := q6
      refine ⟨(((x0, x1), x2), x3, x4, l5, x6, x7, x8), ⟨_, rfl, e3⟩, ⟨o0, o1, o2, o3, o4, o5, o6⟩, ?_⟩
      · have e : cRobot.put (((x0, x1), x2), x3, x4, l5, x6, x7, x8) = cPose.put ((x0, x1), x2) ++ (num x3 ++ (num x4 ++ ((list cMove).put l5 ++ (cFlag.put x6 ++ (num x7 ++ (cFlag.put x8)))))) := rfl
        rw [e, hxy]
        simp only [Rows.uptoBulk, Rows.uptoBulkAll, List.map_cons, List.map_nil, List.length_append]
        omega
theorem elRobot {H : Type} {enc : TypeId × Value → H} {W : World} (n : Nat) (cs : List Value) (d : DataW H × List MemPlace) (hl : cs.length = 9) (h : DataW.trod enc Try.prog W 0 (fun _ => true) true n 101 cs = some d) : ∃ x, robotEl (Old W) x cs.toArray W ∧ cRobot.ok x ∧ (cRobot.put x).length ≤ 10 * Rows.uptoBulk d.1 := upRobot h
set_option maxRecDepth 100000 in
theorem upEvent {H : Type} {enc : TypeId × Value → H} {W : World} {n : Nat} {cs : List Value} {d : DataW H × List MemPlace} (h : DataW.trod enc Try.prog W 0 (fun _ => true) true n 28 cs = some d) :
    ∃ x, eventEl (Old W) x cs.toArray W ∧ cEvent.ok x ∧ (cEvent.put x).length ≤ 10 * Rows.uptoBulk d.1 := by
  obtain ⟨xs, k, hk, hxy, hlen, hxl, hf⟩ := DataW.trod_struct Try.underlying28 h
  rw [show Try.prog.cellsOf 28 = 7 by kernel_rfl] at hlen
  match cs, hlen with
  | [v0, v1, v2, v3, v4, v5, v6], _ =>
    match xs, hxl with
    | [y0, y1, y2, y3, y4], _ =>
      have g0 : DataW.trod enc Try.prog W 0 (fun _ => true) true k 3 [v0] = some y0 := by
        have q := hf 0 _ rfl
        simp only [show Try.prog.cellsOf 3 = 1 by kernel_rfl, List.drop_zero, List.drop_succ_cons, List.take_succ_cons, List.take_zero, List.getElem?_cons_zero, List.getElem?_cons_succ] at q
        exact q
      have g1 : DataW.trod enc Try.prog W 0 (fun _ => true) true k 3 [v1] = some y1 := by
        have q := hf 1 _ rfl
        simp only [show Try.prog.cellsOf 3 = 1 by kernel_rfl, List.drop_zero, List.drop_succ_cons, List.take_succ_cons, List.take_zero, List.getElem?_cons_zero, List.getElem?_cons_succ] at q
        exact q
      have g2 : DataW.trod enc Try.prog W 0 (fun _ => true) true k 3 [v2] = some y2 := by
        have q := hf 2 _ rfl
        simp only [show Try.prog.cellsOf 3 = 1 by kernel_rfl, List.drop_zero, List.drop_succ_cons, List.take_succ_cons, List.take_zero, List.getElem?_cons_zero, List.getElem?_cons_succ] at q
        exact q
      have g3 : DataW.trod enc Try.prog W 0 (fun _ => true) true k 25 [v3, v4, v5] = some y3 := by
        have q := hf 3 _ rfl
        simp only [show Try.prog.cellsOf 25 = 3 by kernel_rfl, List.drop_zero, List.drop_succ_cons, List.take_succ_cons, List.take_zero, List.getElem?_cons_zero, List.getElem?_cons_succ] at q
        exact q
      have g4 : DataW.trod enc Try.prog W 0 (fun _ => true) true k 26 [v6] = some y4 := by
        have q := hf 4 _ rfl
        simp only [show Try.prog.cellsOf 26 = 1 by kernel_rfl, List.drop_zero, List.drop_succ_cons, List.take_succ_cons, List.take_zero, List.getElem?_cons_zero, List.getElem?_cons_succ] at q
        exact q
      obtain ⟨x0, q0, o0, b0⟩ := up_int g0
      simp only [List.cons.injEq, and_true] at q0
      obtain rfl := q0
      obtain ⟨x1, q1, o1, b1⟩ := up_int g1
      simp only [List.cons.injEq, and_true] at q1
      obtain rfl := q1
      obtain ⟨x2, q2, o2, b2⟩ := up_int g2
      simp only [List.cons.injEq, and_true] at q2
      obtain rfl := q2
      obtain ⟨x3, x4, x5, q3, o3, b3⟩ := upPose g3
      simp only [List.cons.injEq, and_true] at q3
      obtain ⟨rfl, rfl, rfl⟩ := q3
      obtain ⟨l6, e4, o4, b4⟩ := up_list cMove moveEl 11 (by decide) 26 42 Try.underlying26 (by kernel_rfl) (fun n cs d hl h => elMove n cs d hl h) g4
      refine ⟨(x0, x1, x2, ((x3, x4), x5), l6), ⟨_, rfl, e4⟩, ⟨o0, o1, o2, o3, o4⟩, ?_⟩
      · have e : cEvent.put (x0, x1, x2, ((x3, x4), x5), l6) = num x0 ++ (num x1 ++ (num x2 ++ (cPose.put ((x3, x4), x5) ++ ((list cMove).put l6)))) := rfl
        rw [e, hxy]
        simp only [Rows.uptoBulk, Rows.uptoBulkAll, List.map_cons, List.map_nil, List.length_append]
        omega
set_option maxRecDepth 100000 in
theorem upState {H : Type} {enc : TypeId × Value → H} {W : World} {n : Nat} {cs : List Value} {d : DataW H × List MemPlace} (h : DataW.trod enc Try.prog W 0 (fun _ => true) true n 57 cs = some d) :
    ∃ x, stateEl (Old W) x cs.toArray W ∧ cState.ok x ∧ (cState.put x).length ≤ 10 * Rows.uptoBulk d.1 := by
  obtain ⟨xs, k, hk, hxy, hlen, hxl, hf⟩ := DataW.trod_struct Try.underlying57 h
  rw [show Try.prog.cellsOf 57 = 10 by kernel_rfl] at hlen
  match cs, hlen with
  | [v0, v1, v2, v3, v4, v5, v6, v7, v8, v9], _ =>
    match xs, hxl with
    | [y0, y1, y2, y3, y4, y5, y6, y7, y8, y9], _ =>
      have g0 : DataW.trod enc Try.prog W 0 (fun _ => true) true k 3 [v0] = some y0 := by
        have q := hf 0 _ rfl
        simp only [show Try.prog.cellsOf 3 = 1 by kernel_rfl, List.drop_zero, List.drop_succ_cons, List.take_succ_cons, List.take_zero, List.getElem?_cons_zero, List.getElem?_cons_succ] at q
        exact q
      have g1 : DataW.trod enc Try.prog W 0 (fun _ => true) true k 3 [v1] = some y1 := by
        have q := hf 1 _ rfl
        simp only [show Try.prog.cellsOf 3 = 1 by kernel_rfl, List.drop_zero, List.drop_succ_cons, List.take_succ_cons, List.take_zero, List.getElem?_cons_zero, List.getElem?_cons_succ] at q
        exact q
      have g2 : DataW.trod enc Try.prog W 0 (fun _ => true) true k 4 [v2] = some y2 := by
        have q := hf 2 _ rfl
        simp only [show Try.prog.cellsOf 4 = 1 by kernel_rfl, List.drop_zero, List.drop_succ_cons, List.take_succ_cons, List.take_zero, List.getElem?_cons_zero, List.getElem?_cons_succ] at q
        exact q
      have g3 : DataW.trod enc Try.prog W 0 (fun _ => true) true k 51 [v3] = some y3 := by
        have q := hf 3 _ rfl
        simp only [show Try.prog.cellsOf 51 = 1 by kernel_rfl, List.drop_zero, List.drop_succ_cons, List.take_succ_cons, List.take_zero, List.getElem?_cons_zero, List.getElem?_cons_succ] at q
        exact q
      have g4 : DataW.trod enc Try.prog W 0 (fun _ => true) true k 52 [v4] = some y4 := by
        have q := hf 4 _ rfl
        simp only [show Try.prog.cellsOf 52 = 1 by kernel_rfl, List.drop_zero, List.drop_succ_cons, List.take_succ_cons, List.take_zero, List.getElem?_cons_zero, List.getElem?_cons_succ] at q
        exact q
      have g5 : DataW.trod enc Try.prog W 0 (fun _ => true) true k 53 [v5] = some y5 := by
        have q := hf 5 _ rfl
        simp only [show Try.prog.cellsOf 53 = 1 by kernel_rfl, List.drop_zero, List.drop_succ_cons, List.take_succ_cons, List.take_zero, List.getElem?_cons_zero, List.getElem?_cons_succ] at q
        exact q
      have g6 : DataW.trod enc Try.prog W 0 (fun _ => true) true k 54 [v6] = some y6 := by
        have q := hf 6 _ rfl
        simp only [show Try.prog.cellsOf 54 = 1 by kernel_rfl, List.drop_zero, List.drop_succ_cons, List.take_succ_cons, List.take_zero, List.getElem?_cons_zero, List.getElem?_cons_succ] at q
        exact q
      have g7 : DataW.trod enc Try.prog W 0 (fun _ => true) true k 55 [v7] = some y7 := by
        have q := hf 7 _ rfl
        simp only [show Try.prog.cellsOf 55 = 1 by kernel_rfl, List.drop_zero, List.drop_succ_cons, List.take_succ_cons, List.take_zero, List.getElem?_cons_zero, List.getElem?_cons_succ] at q
        exact q
      have g8 : DataW.trod enc Try.prog W 0 (fun _ => true) true k 3 [v8] = some y8 := by
        have q := hf 8 _ rfl
        simp only [show Try.prog.cellsOf 3 = 1 by kernel_rfl, List.drop_zero, List.drop_succ_cons, List.take_succ_cons, List.take_zero, List.getElem?_cons_zero, List.getElem?_cons_succ] at q
        exact q
      have g9 : DataW.trod enc Try.prog W 0 (fun _ => true) true k 3 [v9] = some y9 := by
        have q := hf 9 _ rfl
        simp only [show Try.prog.cellsOf 3 = 1 by kernel_rfl, List.drop_zero, List.drop_succ_cons, List.take_succ_cons, List.take_zero, List.getElem?_cons_zero, List.getElem?_cons_succ] at q
        exact q
      obtain ⟨x0, q0, o0, b0⟩ := up_int g0
      simp only [List.cons.injEq, and_true] at q0
      obtain rfl := q0
      obtain ⟨x1, q1, o1, b1⟩ := up_int g1
      simp only [List.cons.injEq, and_true] at q1
      obtain rfl := q1
      obtain ⟨x2, q2, b2⟩ := up_bool g2
      have o2 : cFlag.ok x2 := trivial
      simp only [List.cons.injEq, and_true] at q2
      obtain rfl := q2
      obtain ⟨l3, e3, o3, b3⟩ := up_list cStack stackEl 3 (by decide) 51 99 Try.underlying51 (by kernel_rfl) (fun n cs d hl h => elStack n cs d hl h) g3
      obtain ⟨l4, e4, o4, b4⟩ := up_list cRobot robotEl 9 (by decide) 52 101 Try.underlying52 (by kernel_rfl) (fun n cs d hl h => elRobot n cs d hl h) g4
      obtain ⟨l5, e5, o5, b5⟩ := up_list cPort portEl 3 (by decide) 53 104 Try.underlying53 (by kernel_rfl) (fun n cs d hl h => elPort n cs d hl h) g5
      obtain ⟨l6, e6, o6, b6⟩ := up_list cOrder orderEl 4 (by decide) 54 106 Try.underlying54 (by kernel_rfl) (fun n cs d hl h => elOrder n cs d hl h) g6
      obtain ⟨l7, e7, o7, b7⟩ := up_list cJob jobEl 9 (by decide) 55 108 Try.underlying55 (by kernel_rfl) (fun n cs d hl h => elJob n cs d hl h) g7
      obtain ⟨x8, q8, o8, b8⟩ := up_int g8
      simp only [List.cons.injEq, and_true] at q8
      obtain rfl := q8
      obtain ⟨x9, q9, o9, b9⟩ := up_int g9
      simp only [List.cons.injEq, and_true] at q9
      obtain rfl := q9
      refine ⟨(x0, x1, x2, l3, l4, l5, l6, l7, x8, x9), ⟨_, _, _, _, _, rfl, e3, e4, e5, e6, e7⟩, ⟨o0, o1, o2, o3, o4, o5, o6, o7, o8, o9⟩, ?_⟩
      · have e : cState.put (x0, x1, x2, l3, l4, l5, l6, l7, x8, x9) = num x0 ++ (num x1 ++ (cFlag.put x2 ++ ((list cStack).put l3 ++ ((list cRobot).put l4 ++ ((list cPort).put l5 ++ ((list cOrder).put l6 ++ ((list cJob).put l7 ++ (num x8 ++ (num x9))))))))) := rfl
        rw [e, hxy]
        simp only [Rows.uptoBulk, Rows.uptoBulkAll, List.map_cons, List.map_nil, List.length_append]
        omega
end Go.Proofs.Ythdgpadakmdlkaa.Codec
