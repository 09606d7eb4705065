/-
  Eight flags in a block of their own.
-/
import Derived.Test.YtdplacpdbknlgaaLinkArr
namespace Go.Proofs.Ytdplacpdbknlgaa.Lk
set_option linter.unusedVariables false
set_option linter.unusedSimpArgs false
open Go Go.RowKit Go.Shelf Go.Proofs Go.Proofs.Ytdplacpdbknlgaa.Tick Go.Proofs.Ytdplacpdbknlgaa.Plain
attribute [local go_sem] Oper.semAt_some

structure Fl (w : World) (g : Nat) (h : Nat → Bool) : Prop where
  at_ : ∀ i, i < 8 → w.cell? ⟨g, i, none⟩ = some (.bool (h i))
  thaw : ∀ i, w.frozen? ⟨g, i, none⟩ = false
  lt : g < w.heap.size
theorem Fl.same {w w' : World} {g : Nat} {h : Nat → Bool} (H : Fl w g h) (e : w'.heap[g]? = w.heap[g]?) : Fl w' g h :=
  ⟨fun i hi => (cell_same e).trans (H.at_ i hi), fun i => (frozen_same e).trans (H.thaw i), by
    have h1 := Array.getElem?_eq_getElem H.lt
    rw [← e] at h1
    exact (Array.getElem?_eq_some_iff.1 h1).1⟩
def flagAt (h : Nat → Bool) (i : Nat) (b : Bool) : Nat → Bool := fun j => if j = i then b else h j
theorem Fl.put {w : World} {g : Nat} {h : Nat → Bool} (H : Fl w g h) {i : Nat} (hi : i < 8) (b : Bool) : Fl (w.setCell ⟨g, i, none⟩ (.bool b)) g (flagAt h i b) := by
  refine ⟨fun j hj => ?_, fun j => (World.frozen?_setCell _ _ _ _).trans (H.thaw j), by simp [World.setCell]; exact H.lt⟩
  unfold flagAt
  by_cases e : j = i
  · subst e
    rw [if_pos rfl, World.cell?_setCell_same _ _ _ (H.at_ j hj)]
  · rw [if_neg e, World.cell?_setCell_other _ _ _ _ (fun q => e (by cases q; rfl))]
    exact H.at_ j hj
theorem fl_new (w : World) (T : TypeId) : Fl (w.alloc (.cells (Array.replicate 8 (.bool false)) T)) w.heap.size (fun _ => false) := by
  have hn : (w.alloc (.cells (Array.replicate 8 (.bool false)) T)).heap[w.heap.size]? = some (.cells (Array.replicate 8 (.bool false)) T (0, 0)) := World.alloc_heap_new _ _
  refine ⟨fun i hi => ?_, fun i => thaw hn, by simp⟩
  rw [cell_of_row _ _ _ _ _ _ hn, Array.getElem?_replicate, if_pos hi]
theorem wpList_putFl {ops : Array Oper} {rest : List Oper} {o : Oper} {a : Act} {w : World} {Q : Exit → Act → World → Prop} (hg : o.guard = none) (x y : Operand) (ho : o.op = .store 4 x y) (g i : Nat) (hi : i < 8) (f : Nat → Bool) (hA : Fl w g f) (b : Bool)
    (hx : a.eval x = .pointer (some ⟨g, i, none⟩)) (hy : a.eval y = .bool b)
    (h : ∀ w', Fl w' g (flagAt f i b) → w.grownBy w' (some g) → wpList Try.prog ops Q rest (a.put o.dst undef) w') : wpList Try.prog ops Q (o :: rest) a w := by
  refine wpList_plain hg fun K hK => ?_
  have hs : (storeVar 4 ⟨g, i, none⟩ (.bool b)).run Try.prog w = .ok () (w.setCell ⟨g, i, none⟩ (.bool b)) := by
    have h1 := hA.at_ i hi
    have h2 := hA.thaw i
    go_simp
  unfold Oper.wp execOp
  simp only [ho, hx, hy, Instr.storeAt, Instr.sureAddr, Sem.run_bind, Sem.run_pure, Result.andThen_ok, hs]
  exact hK _ _ (h _ (hA.put hi b) (setCells_grown w g i [.bool b]))
/- Where every tele is another's: the two are not told apart. -/
theorem run_load_bool {o : Oper} {a : Act} {w : World} (x : Operand) (ho : o.op = .load 4 x) (p : Addr) (hx : a.eval x = .pointer (some p)) (b : Bool) (h : w.cell? p = some (.bool b)) : (execOp a.eval o).run Try.prog w = .ok (.value (.bool b)) w := by
  unfold execOp
  simp only [ho, hx]
  go_simp
theorem wpList_load_w {ops : Array Oper} {rest : List Oper} {o : Oper} {a : Act} {w : World} {Q : Exit → Act → World → Prop} (hw : Region.wanted o (yielded ops a.tmps) = true) (ty : TypeId) (x : Operand) (ho : o.op = .load ty x)
    (p : Addr) (hx : a.eval x = .pointer (some p)) (cs : Array Value) (hl : (loadVar ty p).run Try.prog w = .ok (.agg cs) w)
    (h : wpList Try.prog ops Q rest (a.put o.dst (.agg cs)) w) : wpList Try.prog ops Q (o :: rest) a w :=
  BigFrame.wpList_want hw fun _ hK => by
    unfold Oper.wp
    rw [run_load_at ty x ho p hx cs hl]
    exact hK _ _ h
theorem wpList_neq_w {ops : Array Oper} {rest : List Oper} {o : Oper} {a : Act} {w : World} {Q : Exit → Act → World → Prop} (hw : Region.wanted o (yielded ops a.tmps) = true) (x y : Operand) (R : TypeId) (ho : o.op = .binOp .neq 42 x y R) (t : Tl) (hx : a.eval x = .agg (tlA t)) (hy : a.eval y = .agg (tlA t))
    (h : wpList Try.prog ops Q rest (a.put o.dst (.bool false)) w) : wpList Try.prog ops Q (o :: rest) a w :=
  BigFrame.wpList_want hw fun _ hK => by
    unfold Oper.wp
    rw [run_neq_tele R x y ho t hx hy]
    exact hK _ _ h
end Go.Proofs.Ytdplacpdbknlgaa.Lk
