/-
  Telegrams, and scripts, that came in, opened.
-/
import Derived.Test.YtdplacpdbknlgaaLinkLaw
import Derived.Deep.Slices
import Derived.OpenShut
namespace Go.Proofs.Ytdplacpdbknlgaa.Lk
set_option linter.unusedVariables false
set_option linter.unusedSimpArgs false
open Go Go.RowKit Go.ChangeShapes Go.WideShapes
theorem in_int {H : Type} {enc : TypeId × Value → H} {W : World} {n : Nat} {cs : List Value} {d : DataW H × List MemPlace} (h : DataW.trod enc Try.prog W 0 (fun _ => true) true n 3 cs = some d) : ∃ x, cs = [.int .i64 x] := by
  obtain ⟨x, q, e, f⟩ := DataW.trod_int Try.underlying3 h
  exact ⟨x, q⟩
theorem in_intw {H : Type} {enc : TypeId × Value → H} {W : World} {n : Nat} {cs : List Value} {d : DataW H × List MemPlace} (h : DataW.trod enc Try.prog W 0 (fun _ => true) true n 3 cs = some d) : ∃ x, ∃ _ : wf64 x, cs = [.int .i64 x] := by
  obtain ⟨x, q, e, f⟩ := DataW.trod_int Try.underlying3 h
  exact ⟨x, f, q⟩
theorem in_bool {H : Type} {enc : TypeId × Value → H} {W : World} {n : Nat} {cs : List Value} {d : DataW H × List MemPlace} (h : DataW.trod enc Try.prog W 0 (fun _ => true) true n 4 cs = some d) : ∃ x, cs = [.bool x] := by
  obtain ⟨x, q, e⟩ := DataW.trod_bool Try.underlying4 h
  exact ⟨x, q⟩
set_option maxRecDepth 100000 in
theorem in_cell {H : Type} {enc : TypeId × Value → H} {W : World} {n : Nat} {cs : List Value} {d : DataW H × List MemPlace} (h : DataW.trod enc Try.prog W 0 (fun _ => true) true n 36 cs = some d) : ∃ x0 x1, cs = [.int .i64 x0, .int .i64 x1] := by
  obtain ⟨xs, k, hk, hxy, hlen, hxl, hf⟩ := DataW.trod_struct Try.underlying36 h
  rw [show Try.prog.cellsOf 36 = 2 by kernel_rfl] at hlen
  match cs, hlen with
  | [v0, v1], _ =>
    match xs, hxl with
    | [y0, y1], _ =>
      have g0 : DataW.trod enc Try.prog W 0 (fun _ => true) true k 3 [v0] = some y0 := by
        have q := hf 0 _ rfl
        simp only [show Try.prog.cellsOf 3 = 1 by kernel_rfl, List.drop_zero, List.drop_succ_cons, List.take_succ_cons, List.take_zero, List.getElem?_cons_zero, List.getElem?_cons_succ] at q
        exact q
      have g1 : DataW.trod enc Try.prog W 0 (fun _ => true) true k 3 [v1] = some y1 := by
        have q := hf 1 _ rfl
        simp only [show Try.prog.cellsOf 3 = 1 by kernel_rfl, List.drop_zero, List.drop_succ_cons, List.take_succ_cons, List.take_zero, List.getElem?_cons_zero, List.getElem?_cons_succ] at q
        exact q
      obtain ⟨x0, q0⟩ := in_int g0
      simp only [tlL, List.cons.injEq, and_true] at q0
      obtain rfl := q0
      obtain ⟨x1, q1⟩ := in_int g1
      simp only [tlL, List.cons.injEq, and_true] at q1
      obtain rfl := q1
      exact ⟨x0, x1, rfl⟩
set_option maxRecDepth 100000 in
theorem in_pose {H : Type} {enc : TypeId × Value → H} {W : World} {n : Nat} {cs : List Value} {d : DataW H × List MemPlace} (h : DataW.trod enc Try.prog W 0 (fun _ => true) true n 38 cs = some d) : ∃ x0 x1 x2, cs = [.int .i64 x0, .int .i64 x1, .bool x2] := by
  obtain ⟨xs, k, hk, hxy, hlen, hxl, hf⟩ := DataW.trod_struct Try.underlying38 h
  rw [show Try.prog.cellsOf 38 = 3 by kernel_rfl] at hlen
  match cs, hlen with
  | [v0, v1, v2], _ =>
    match xs, hxl with
    | [y0, y1], _ =>
      have g0 : DataW.trod enc Try.prog W 0 (fun _ => true) true k 36 [v0, v1] = some y0 := by
        have q := hf 0 _ rfl
        simp only [show Try.prog.cellsOf 36 = 2 by kernel_rfl, List.drop_zero, List.drop_succ_cons, List.take_succ_cons, List.take_zero, List.getElem?_cons_zero, List.getElem?_cons_succ] at q
        exact q
      have g1 : DataW.trod enc Try.prog W 0 (fun _ => true) true k 4 [v2] = some y1 := by
        have q := hf 1 _ rfl
        simp only [show Try.prog.cellsOf 4 = 1 by kernel_rfl, List.drop_zero, List.drop_succ_cons, List.take_succ_cons, List.take_zero, List.getElem?_cons_zero, List.getElem?_cons_succ] at q
        exact q
      obtain ⟨x0, x1, q0⟩ := in_cell g0
      simp only [tlL, List.cons.injEq, and_true] at q0
      obtain ⟨rfl, rfl⟩ := q0
      obtain ⟨x2, q1⟩ := in_bool g1
      simp only [tlL, List.cons.injEq, and_true] at q1
      obtain rfl := q1
      exact ⟨x0, x1, x2, rfl⟩
set_option maxRecDepth 100000 in
theorem in_move {H : Type} {enc : TypeId × Value → H} {W : World} {n : Nat} {cs : List Value} {d : DataW H × List MemPlace} (h : DataW.trod enc Try.prog W 0 (fun _ => true) true n 40 cs = some d) : ∃ x0 x1 x2 x3 x4 x5 x6 x7 x8 x9 x10, cs = [.int .i64 x0, .int .i64 x1, .int .i64 x2, .int .i64 x3, .int .i64 x4, .bool x5, .int .i64 x6, .int .i64 x7, .bool x8, .int .i64 x9, .int .i64 x10] := by
  obtain ⟨xs, k, hk, hxy, hlen, hxl, hf⟩ := DataW.trod_struct Try.underlying40 h
  rw [show Try.prog.cellsOf 40 = 11 by kernel_rfl] at hlen
  match cs, hlen with
  | [v0, v1, v2, v3, v4, v5, v6, v7, v8, v9, v10], _ =>
    match xs, hxl with
    | [y0, y1, y2, y3, y4, y5, y6], _ =>
      have g0 : DataW.trod enc Try.prog W 0 (fun _ => true) true k 3 [v0] = some y0 := by
        have q := hf 0 _ rfl
        simp only [show Try.prog.cellsOf 3 = 1 by kernel_rfl, List.drop_zero, List.drop_succ_cons, List.take_succ_cons, List.take_zero, List.getElem?_cons_zero, List.getElem?_cons_succ] at q
        exact q
      have g1 : DataW.trod enc Try.prog W 0 (fun _ => true) true k 3 [v1] = some y1 := by
        have q := hf 1 _ rfl
        simp only [show Try.prog.cellsOf 3 = 1 by kernel_rfl, List.drop_zero, List.drop_succ_cons, List.take_succ_cons, List.take_zero, List.getElem?_cons_zero, List.getElem?_cons_succ] at q
        exact q
      have g2 : DataW.trod enc Try.prog W 0 (fun _ => true) true k 3 [v2] = some y2 := by
        have q := hf 2 _ rfl
        simp only [show Try.prog.cellsOf 3 = 1 by kernel_rfl, List.drop_zero, List.drop_succ_cons, List.take_succ_cons, List.take_zero, List.getElem?_cons_zero, List.getElem?_cons_succ] at q
        exact q
      have g3 : DataW.trod enc Try.prog W 0 (fun _ => true) true k 38 [v3, v4, v5] = some y3 := by
        have q := hf 3 _ rfl
        simp only [show Try.prog.cellsOf 38 = 3 by kernel_rfl, List.drop_zero, List.drop_succ_cons, List.take_succ_cons, List.take_zero, List.getElem?_cons_zero, List.getElem?_cons_succ] at q
        exact q
      have g4 : DataW.trod enc Try.prog W 0 (fun _ => true) true k 38 [v6, v7, v8] = some y4 := by
        have q := hf 4 _ rfl
        simp only [show Try.prog.cellsOf 38 = 3 by kernel_rfl, List.drop_zero, List.drop_succ_cons, List.take_succ_cons, List.take_zero, List.getElem?_cons_zero, List.getElem?_cons_succ] at q
        exact q
      have g5 : DataW.trod enc Try.prog W 0 (fun _ => true) true k 3 [v9] = some y5 := by
        have q := hf 5 _ rfl
        simp only [show Try.prog.cellsOf 3 = 1 by kernel_rfl, List.drop_zero, List.drop_succ_cons, List.take_succ_cons, List.take_zero, List.getElem?_cons_zero, List.getElem?_cons_succ] at q
        exact q
      have g6 : DataW.trod enc Try.prog W 0 (fun _ => true) true k 3 [v10] = some y6 := by
        have q := hf 6 _ rfl
        simp only [show Try.prog.cellsOf 3 = 1 by kernel_rfl, List.drop_zero, List.drop_succ_cons, List.take_succ_cons, List.take_zero, List.getElem?_cons_zero, List.getElem?_cons_succ] at q
        exact q
      obtain ⟨x0, q0⟩ := in_int g0
      simp only [tlL, List.cons.injEq, and_true] at q0
      obtain rfl := q0
      obtain ⟨x1, q1⟩ := in_int g1
      simp only [tlL, List.cons.injEq, and_true] at q1
      obtain rfl := q1
      obtain ⟨x2, q2⟩ := in_int g2
      simp only [tlL, List.cons.injEq, and_true] at q2
      obtain rfl := q2
      obtain ⟨x3, x4, x5, q3⟩ := in_pose g3
      simp only [tlL, List.cons.injEq, and_true] at q3
      obtain ⟨rfl, rfl, rfl⟩ := q3
      obtain ⟨x6, x7, x8, q4⟩ := in_pose g4
      simp only [tlL, List.cons.injEq, and_true] at q4
      obtain ⟨rfl, rfl, rfl⟩ := q4
      obtain ⟨x9, q5⟩ := in_int g5
      simp only [tlL, List.cons.injEq, and_true] at q5
      obtain rfl := q5
      obtain ⟨x10, q6⟩ := in_int g6
      simp only [tlL, List.cons.injEq, and_true] at q6
      obtain rfl := q6
      exact ⟨x0, x1, x2, x3, x4, x5, x6, x7, x8, x9, x10, rfl⟩
set_option maxRecDepth 100000 in
theorem in_tele {H : Type} {enc : TypeId × Value → H} {W : World} {n : Nat} {cs : List Value} {d : DataW H × List MemPlace} (h : DataW.trod enc Try.prog W 0 (fun _ => true) true n 42 cs = some d) : ∃ t : Tl, cs = tlL t := by
  obtain ⟨xs, k, hk, hxy, hlen, hxl, hf⟩ := DataW.trod_struct Try.underlying42 h
  rw [show Try.prog.cellsOf 42 = 19 by kernel_rfl] at hlen
  match cs, hlen with
  | [v0, v1, v2, v3, v4, v5, v6, v7, v8, v9, v10, v11, v12, v13, v14, v15, v16, v17, v18], _ =>
    match xs, hxl with
    | [y0, y1, y2, y3, y4, y5, y6], _ =>
      have g0 : DataW.trod enc Try.prog W 0 (fun _ => true) true k 3 [v0] = some y0 := by
        have q := hf 0 _ rfl
        simp only [show Try.prog.cellsOf 3 = 1 by kernel_rfl, List.drop_zero, List.drop_succ_cons, List.take_succ_cons, List.take_zero, List.getElem?_cons_zero, List.getElem?_cons_succ] at q
        exact q
      have g1 : DataW.trod enc Try.prog W 0 (fun _ => true) true k 3 [v1] = some y1 := by
        have q := hf 1 _ rfl
        simp only [show Try.prog.cellsOf 3 = 1 by kernel_rfl, List.drop_zero, List.drop_succ_cons, List.take_succ_cons, List.take_zero, List.getElem?_cons_zero, List.getElem?_cons_succ] at q
        exact q
      have g2 : DataW.trod enc Try.prog W 0 (fun _ => true) true k 3 [v2] = some y2 := by
        have q := hf 2 _ rfl
        simp only [show Try.prog.cellsOf 3 = 1 by kernel_rfl, List.drop_zero, List.drop_succ_cons, List.take_succ_cons, List.take_zero, List.getElem?_cons_zero, List.getElem?_cons_succ] at q
        exact q
      have g3 : DataW.trod enc Try.prog W 0 (fun _ => true) true k 3 [v3] = some y3 := by
        have q := hf 3 _ rfl
        simp only [show Try.prog.cellsOf 3 = 1 by kernel_rfl, List.drop_zero, List.drop_succ_cons, List.take_succ_cons, List.take_zero, List.getElem?_cons_zero, List.getElem?_cons_succ] at q
        exact q
      have g4 : DataW.trod enc Try.prog W 0 (fun _ => true) true k 40 [v4, v5, v6, v7, v8, v9, v10, v11, v12, v13, v14] = some y4 := by
        have q := hf 4 _ rfl
        simp only [show Try.prog.cellsOf 40 = 11 by kernel_rfl, List.drop_zero, List.drop_succ_cons, List.take_succ_cons, List.take_zero, List.getElem?_cons_zero, List.getElem?_cons_succ] at q
        exact q
      have g5 : DataW.trod enc Try.prog W 0 (fun _ => true) true k 38 [v15, v16, v17] = some y5 := by
        have q := hf 5 _ rfl
        simp only [show Try.prog.cellsOf 38 = 3 by kernel_rfl, List.drop_zero, List.drop_succ_cons, List.take_succ_cons, List.take_zero, List.getElem?_cons_zero, List.getElem?_cons_succ] at q
        exact q
      have g6 : DataW.trod enc Try.prog W 0 (fun _ => true) true k 3 [v18] = some y6 := by
        have q := hf 6 _ rfl
        simp only [show Try.prog.cellsOf 3 = 1 by kernel_rfl, List.drop_zero, List.drop_succ_cons, List.take_succ_cons, List.take_zero, List.getElem?_cons_zero, List.getElem?_cons_succ] at q
        exact q
      obtain ⟨kd, q0⟩ := in_int g0
      simp only [tlL, List.cons.injEq, and_true] at q0
      obtain rfl := q0
      obtain ⟨rb, q1⟩ := in_int g1
      simp only [tlL, List.cons.injEq, and_true] at q1
      obtain rfl := q1
      obtain ⟨ep, q2⟩ := in_int g2
      simp only [tlL, List.cons.injEq, and_true] at q2
      obtain rfl := q2
      obtain ⟨nm, q3⟩ := in_int g3
      simp only [tlL, List.cons.injEq, and_true] at q3
      obtain rfl := q3
      obtain ⟨mq, md, mn, fx, fy, fd, tx, ty, td, ma, me, q4⟩ := in_move g4
      simp only [tlL, List.cons.injEq, and_true] at q4
      obtain ⟨rfl, rfl, rfl, rfl, rfl, rfl, rfl, rfl, rfl, rfl, rfl⟩ := q4
      obtain ⟨px, py, pd, q5⟩ := in_pose g5
      simp only [tlL, List.cons.injEq, and_true] at q5
      obtain ⟨rfl, rfl, rfl⟩ := q5
      obtain ⟨ld, q6⟩ := in_int g6
      simp only [tlL, List.cons.injEq, and_true] at q6
      obtain rfl := q6
      exact ⟨⟨kd, rb, ep, nm, mq, md, mn, fx, fy, fd, tx, ty, td, ma, me, px, py, pd, ld⟩, rfl⟩
/- Telegrams that came in. -/
def InT (w : World) (a : Option Addr) (n : Nat) (ts : Nat → Tl) : Prop := ∀ i, i < n → ∃ x : Addr, a = some x ∧ ∀ j u, (tlL (ts i))[j]? = some u → w.cell? ((x.add (i * 19)).add j) = some u
theorem InT.go {w w' : World} {a : Option Addr} {n : Nat} {ts : Nat → Tl} (h : InT w a n ts) (hb : Below w.heap.size w w') : InT w' a n ts := fun i hi => by
  obtain ⟨x, hx, h1⟩ := h i hi
  exact ⟨x, hx, fun j u hj => (hb.cell (World.block_lt_of_cell? w _ (h1 j u hj))).trans (h1 j u hj)⟩
theorem InT.load {w : World} {a : Option Addr} {n : Nat} {ts : Nat → Tl} (h : InT w a n ts) {i : Nat} (hi : i < n) : ∃ x : Addr, a = some x ∧ (loadVar 42 (x.add (i * 19))).run Try.prog w = .ok (.agg (tlA (ts i))) w := by
  obtain ⟨x, hx, h1⟩ := h i hi
  exact ⟨x, hx, run_loadVar_at w _ _ _ (fun j v hv => h1 j v (by unfold tlA at hv; simpa using hv)) (aggTele _) infoTele⟩
theorem in_teles {H : Type} {enc : TypeId × Value → H} {W : World} {n : Nat} {cs : List Value} {d : DataW H × List MemPlace} (h : DataW.trod enc Try.prog W 0 (fun _ => true) true n 27 cs = some d) : ∃ a n cap ts, cs = [.slice a n cap] ∧ InT W a n ts := by
  rcases Go.Deep.open_slice Try.underlying27 h with ⟨hcs, hd⟩ | ⟨x, l, cp, mm, k, D, Pl, hcs, _, hl, hm, hmm, hd, hx⟩
  · exact ⟨none, 0, 0, fun _ => tl0, hcs, fun i hi => by omega⟩
  · refine ⟨some x, l, cp, ?_⟩
    have each : ∀ i, i < l → ∃ z, (∀ j u, (tlL z)[j]? = some u → W.cell? ((x.add (i * 19)).add j) = some u) := fun i hi => by
      obtain ⟨cs', k1, k2⟩ := hx i (by simp at hmm; omega)
      rw [show Try.prog.cellsOf 42 = 19 by kernel_rfl] at k1
      obtain ⟨z, rfl⟩ := in_tele k2
      obtain ⟨_, hlen, hc⟩ := World.cells?_some k1
      refine ⟨z, fun j u hj => ?_⟩
      obtain ⟨hj1, hj2⟩ := List.getElem?_eq_some_iff.1 hj
      exact (hc j (by first | exact hj1 | (simpa using hj1))).trans hj
    have hin : Inhabited Tl := ⟨tl0⟩
    obtain ⟨z, hz⟩ := Go.Deep.choose_lt each
    exact ⟨z, hcs, fun i hi => ⟨x, rfl, hz i hi⟩⟩
/- A call that is asked for. -/
structure Cl where
  kd : Int
  rb : Int
  now : Int
  te : Tl
def clL (x : Cl) : List Value := [.int .i64 x.kd, .int .i64 x.rb, .int .i64 x.now] ++ tlL x.te
def clA (x : Cl) : Array Value := (clL x).toArray
def InS (w : World) (a : Option Addr) (n : Nat) (ts : Nat → Cl) : Prop := ∀ i, i < n → ∃ x : Addr, a = some x ∧ (∀ j u, (clL (ts i))[j]? = some u → w.cell? ((x.add (i * 22)).add j) = some u) ∧ wf64 (ts i).rb
theorem InS.go {w w' : World} {a : Option Addr} {n : Nat} {ts : Nat → Cl} (h : InS w a n ts) (hb : Below w.heap.size w w') : InS w' a n ts := fun i hi => by
  obtain ⟨x, hx, h1, h2⟩ := h i hi
  exact ⟨x, hx, fun j u hj => (hb.cell (World.block_lt_of_cell? w _ (h1 j u hj))).trans (h1 j u hj), h2⟩
/- Numbers that came in. -/
def InN (w : World) (a : Option Addr) (n : Nat) (zs : Nat → Int) : Prop := ∀ i, i < n → ∃ x : Addr, a = some x ∧ w.cell? (x.add i) = some (.int .i64 (zs i))
theorem InN.go {w w' : World} {a : Option Addr} {n : Nat} {zs : Nat → Int} (h : InN w a n zs) (hb : Below w.heap.size w w') : InN w' a n zs := fun i hi => by
  obtain ⟨x, hx, h1⟩ := h i hi
  exact ⟨x, hx, (hb.cell (World.block_lt_of_cell? w _ h1)).trans h1⟩
theorem add_add' (p : Addr) (i j : Nat) : (p.add i).add j = p.add (i + j) := by
  unfold Addr.add
  by_cases h1 : i = 0
  · subst h1; simp
  · by_cases h2 : j = 0
    · subst h2; simp
    · simp [h1, h2, Nat.add_assoc]
theorem in_nums {H : Type} {enc : TypeId × Value → H} {W : World} {n : Nat} {cs : List Value} {d : DataW H × List MemPlace} (h : DataW.trod enc Try.prog W 0 (fun _ => true) true n 53 cs = some d) : ∃ a n cap zs, cs = [.slice a n cap] ∧ InN W a n zs := by
  rcases Go.Deep.open_slice Try.underlying53 h with ⟨hcs, hd⟩ | ⟨x, l, cp, mm, k, D, Pl, hcs, _, hl, hm, hmm, hd, hx⟩
  · exact ⟨none, 0, 0, fun _ => 0, hcs, fun i hi => by omega⟩
  · refine ⟨some x, l, cp, ?_⟩
    have each : ∀ i, i < l → ∃ z : Int, W.cell? (x.add i) = some (.int .i64 z) := fun i hi => by
      obtain ⟨cs', k1, k2⟩ := hx i (by simp at hmm; omega)
      rw [show Try.prog.cellsOf 3 = 1 by kernel_rfl] at k1
      obtain ⟨z, rfl⟩ := in_int k2
      obtain ⟨_, hlen, hc⟩ := World.cells?_some k1
      have := hc 0 (by omega)
      rw [Nat.mul_one, add_add', Nat.add_zero] at this
      exact ⟨z, this⟩
    obtain ⟨z, hz⟩ := Go.Deep.choose_lt each
    exact ⟨z, hcs, fun i hi => ⟨x, rfl, hz i hi⟩⟩
theorem heap_setCell_same (w : World) (g o : Nat) (v : Value) {cs : Array Value} {T : TypeId} {fr : Nat × Nat} (h : w.heap[g]? = some (.cells cs T fr)) : (w.setCell ⟨g, o, none⟩ v).heap[g]? = some (.cells (cs.setIfInBounds o v) T fr) := by
  have hl : g < w.heap.size := (Array.getElem?_eq_some_iff.1 h).1
  unfold World.setCell
  simp [Array.getElem?_modify, h]
/- Nothing waits. -/
theorem dueL_none (now rsd : Int) : ∀ k, dueL now rsd (fun _ => none) k = []
  | 0 => rfl
  | k + 1 => by rw [dueL_succ, dueL_none now rsd k]; rfl
theorem dueM_none (now rsd : Int) (k : Nat) : dueM now rsd (fun _ => none) k = fun _ => none := by
  funext x
  unfold dueM
  split <;> rfl
theorem upd_none (x : Int) : upd (fun _ => none) x none = fun _ => none := by
  funext y
  unfold upd
  split <;> rfl
/- A telegram in a block of its own, two of whose fields are set. -/
theorem set_rb {w : World} {g : Nat} {t : Tl} {T : TypeId} (h : w.heap[g]? = some (.cells (tlA t) T (0, 0))) (v : Int) : (w.setCell ⟨g, 1, none⟩ (.int .i64 v)).heap[g]? = some (.cells (tlA { t with rb := v }) T (0, 0)) := by
  rw [heap_setCell_same w _ _ _ h]
  cases t
  rfl
theorem set_kd {w : World} {g : Nat} {t : Tl} {T : TypeId} (h : w.heap[g]? = some (.cells (tlA t) T (0, 0))) (v : Int) : (w.setCell ⟨g, 0, none⟩ (.int .i64 v)).heap[g]? = some (.cells (tlA { t with kd := v }) T (0, 0)) := by
  rw [heap_setCell_same w _ _ _ h]
  cases t
  rfl
theorem thaw {w : World} {g j : Nat} {cs : Array Value} {T : TypeId} (h : w.heap[g]? = some (.cells cs T (0, 0))) : w.frozen? ⟨g, j, none⟩ = false := by unfold World.frozen?; rw [h]; simp
end Go.Proofs.Ytdplacpdbknlgaa.Lk
