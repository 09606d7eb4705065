/-
  Go-aheads of an older epoch are refused for ever.
-/
import Derived.Test.YtedmfhkdaifegaaGreatRobPlace
import Derived.Test.YtedmfhkdaifegaaGreatRobTick
namespace Go.Proofs.YtedmfhkdaifegaaGreat.Rob
set_option linter.unusedVariables false
set_option linter.unusedSimpArgs false
open Go Go.RowKit Go.Shelf Go.Proofs Go.Proofs.YtedmfhkdaifegaaGreat.Lk Go.Proofs.YtedmfhkdaifegaaGreat.Plain
attribute [local go_sem] Oper.semAt_some

theorem set_cell {w : World} {g : Nat} {cs : Array Value} {T : TypeId} (h : w.heap[g]? = some (.cells cs T (0, 0))) (o : Nat) (v : Value) : (w.setCell ⟨g, o, none⟩ v).heap[g]? = some (.cells (cs.setIfInBounds o v) T (0, 0)) := by
  unfold World.setCell
  simp [Array.getElem?_modify, h]
theorem set_kd {w : World} {g : Nat} {t : Tl} {T : TypeId} (h : w.heap[g]? = some (.cells (tlA t) T (0, 0))) (v : Int) : (w.setCell ⟨g, 0, none⟩ (.int .i64 v)).heap[g]? = some (.cells (tlA { t with kd := v }) T (0, 0)) := by
  rw [set_cell h]; cases t; rfl
theorem set_rb {w : World} {g : Nat} {t : Tl} {T : TypeId} (h : w.heap[g]? = some (.cells (tlA t) T (0, 0))) (v : Int) : (w.setCell ⟨g, 1, none⟩ (.int .i64 v)).heap[g]? = some (.cells (tlA { t with rb := v }) T (0, 0)) := by
  rw [set_cell h]; cases t; rfl
theorem set_ep {w : World} {g : Nat} {t : Tl} {T : TypeId} (h : w.heap[g]? = some (.cells (tlA t) T (0, 0))) (v : Int) : (w.setCell ⟨g, 2, none⟩ (.int .i64 v)).heap[g]? = some (.cells (tlA { t with ep := v }) T (0, 0)) := by
  rw [set_cell h]; cases t; rfl
theorem eqMv0 (w : World) : (Op.equalIn 10000 44 (.agg (mvA mv0)) (.agg (mvA mv0))).run Tryz.prog w = .ok true w := by
  simp only [mvA, mvL, mv0]
  go_simp
theorem gMv : Tryz.prog.eqGuardType Tryz.prog.depth 44 = false := by kernel_rfl
theorem builtPo0 : Tryz.prog.built 42 [] = some (poA 0 0 false) := by kernel_rfl
theorem wpList_neq_agg {ops : Array Oper} {rest : List Oper} {o : Oper} {a : Act} {w : World} {Q : Exit → Act → World → Prop} (hw : Region.wanted o (yielded ops a.tmps) = true) (T : TypeId) (x y : Operand) (ho : o.op = .binOp .neq T x y T) (hg : Tryz.prog.eqGuardType Tryz.prog.depth T = false) (xs ys : Array Value) (b : Bool) (hx : a.eval x = .agg xs) (hy : a.eval y = .agg ys)
    (hq : (Op.equalIn 10000 T (.agg xs) (.agg ys)).run Tryz.prog w = .ok b w) (h : wpList Tryz.prog ops Q rest (a.put o.dst (.bool (!b))) w) : wpList Tryz.prog ops Q (o :: rest) a w :=
  BigFrame.wpList_want hw fun _ hK => by
    unfold Oper.wp
    rw [run_neq_agg T x y ho hg xs ys b hx hy hq]
    exact hK _ _ h
theorem wpList_build_w {ops : Array Oper} {rest : List Oper} {o : Oper} {a : Act} {w : World} {Q : Exit → Act → World → Prop} (hw : Region.wanted o (yielded ops a.tmps) = true) (t : TypeId) (ho : o.op = .build t #[]) (cs : Array Value) (hf : Tryz.prog.built t [] = some cs)
    (h : wpList Tryz.prog ops Q rest (a.put o.dst (.agg cs)) w) : wpList Tryz.prog ops Q (o :: rest) a w :=
  BigFrame.wpList_want hw fun _ hK => by
    unfold Oper.wp
    rw [run_build_op t #[] ho [] cs (by simp) hf]
    exact hK _ _ h
end Go.Proofs.YtedmfhkdaifegaaGreat.Rob
