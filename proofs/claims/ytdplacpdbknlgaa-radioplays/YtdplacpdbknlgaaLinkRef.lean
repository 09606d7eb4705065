/-
  The chapter's own link.
-/
import Derived.Test.YtdplacpdbknlgaaLinkLastPlain
import Derived.Test.YtdplacpdbknlgaaTickRefs
namespace Go.Proofs.Ytdplacpdbknlgaa.Lk
set_option linter.unusedVariables false
set_option linter.unusedSimpArgs false
open Go Go.RowKit Go.Shelf Go.Proofs Go.Proofs.Ytdplacpdbknlgaa.Tick Go.Proofs.Ytdplacpdbknlgaa.Plain
attribute [local go_sem] Oper.semAt_some

/- What waits at a robot, as the chapter keeps it. -/
def wL (o : Option (Tl × Int)) : List Value := .bool o.isSome :: (tlL (tlOf o) ++ [.int .i64 (o.getD (tl0, 0)).2])
def wA (o : Option (Tl × Int)) : Array Value := (wL o).toArray
theorem wL_len (o : Option (Tl × Int)) : (wL o).length = 21 := rfl
theorem wA_one (o : Option (Tl × Int)) : (wA o).all (·.oneCell') = true := by
  simp only [wA, wL, tlL, List.cons_append, List.nil_append]
  simp [Value.oneCell']
theorem lt_of_eq {w w' : World} {g : Nat} (h : g < w.heap.size) (e : w'.heap[g]? = w.heap[g]?) : g < w'.heap.size := by
  have h1 := Array.getElem?_eq_getElem h
  rw [← e] at h1
  exact (Array.getElem?_eq_some_iff.1 h1).1
theorem run_store_mid_op {o : Oper} {a : Act} {w : World} (ty : TypeId) (x y : Operand) (ho : o.op = .store ty x y) (b k : Nat) (cells : Array Value) (hx : a.eval x = .pointer (some ⟨b, k, none⟩)) (hy : a.eval y = .agg cells)
    (ht : w.there b k cells.size) (hi : (Try.prog.info? ty).map (·.size) = some cells.size) (h1 : cells.all (·.oneCell') = true) : (execOp a.eval o).run Try.prog w = .ok .skip (w.setCells b k cells.toList) := by
  unfold execOp
  simp only [ho, hx, hy, Instr.storeAt, Instr.sureAddr, Sem.run_bind, Sem.run_pure, Result.andThen_ok, run_storeVar_mid w b k ty cells ht hi h1]
/- New rows. -/
def zW (N : Nat) : Array Value := (rowL wL (List.replicate N none)).toArray
theorem made0 : madeCells (Value.agg (wA none)).cells (0 * 21) = zW 0 := by kernel_rfl
theorem made1 : madeCells (Value.agg (wA none)).cells (1 * 21) = zW 1 := by kernel_rfl
theorem made2 : madeCells (Value.agg (wA none)).cells (2 * 21) = zW 2 := by kernel_rfl
theorem made3 : madeCells (Value.agg (wA none)).cells (3 * 21) = zW 3 := by kernel_rfl
theorem made4 : madeCells (Value.agg (wA none)).cells (4 * 21) = zW 4 := by kernel_rfl
theorem made5 : madeCells (Value.agg (wA none)).cells (5 * 21) = zW 5 := by kernel_rfl
theorem made6 : madeCells (Value.agg (wA none)).cells (6 * 21) = zW 6 := by kernel_rfl
theorem made7 : madeCells (Value.agg (wA none)).cells (7 * 21) = zW 7 := by kernel_rfl
theorem made8 : madeCells (Value.agg (wA none)).cells (8 * 21) = zW 8 := by kernel_rfl
theorem made_zW (N : Nat) (h : N ≤ 8) : madeCells (Value.agg (wA none)).cells (N * 21) = zW N := by
  have : ∀ k, k ≤ 8 → madeCells (Value.agg (wA none)).cells (k * 21) = zW k := fun k hk => by
    match k, hk with
    | 0, _ => exact made0
    | 1, _ => exact made1
    | 2, _ => exact made2
    | 3, _ => exact made3
    | 4, _ => exact made4
    | 5, _ => exact made5
    | 6, _ => exact made6
    | 7, _ => exact made7
    | 8, _ => exact made8
    | k + 9, hk => omega
  exact this N h
theorem rows_at (w : World) (N : Nat) (T : TypeId) : (∀ i, i < N → (w.alloc (.cells (zW N) T)).rangeAt w.heap.size (i * 21) (wL none)) ∧ ∀ i, i < N → (w.alloc (.cells (zW N) T)).there w.heap.size (i * 21) 21 := by
  have hn : (w.alloc (.cells (zW N) T)).heap[w.heap.size]? = some (.cells (zW N) T (0, 0)) := World.alloc_heap_new _ _
  have hl : ∀ i j, i < N → ∀ v, (wL none)[j]? = some v → (w.alloc (.cells (zW N) T)).cell? ⟨w.heap.size, i * 21 + j, none⟩ = some v := fun i j hi v hv => by
    have := rowL_at wL_len (List.replicate N none) i (by rw [List.length_replicate]; exact hi) j v (by rw [List.getElem_replicate]; exact hv)
    rw [cell_of_row _ _ _ _ _ _ hn]
    unfold zW
    rw [List.getElem?_toArray]
    exact this
  refine ⟨fun i hi j v hv => hl i j hi v hv, fun i hi j hj => ⟨?_, thaw hn⟩⟩
  rw [hl i j hi _ (List.getElem?_eq_getElem (by rw [wL_len]; exact hj))]
  rfl
/- New. -/
end Go.Proofs.Ytdplacpdbknlgaa.Lk
